/- Graphs: the normal one is normal; its rows are right, and tell its edges. -/
import Derived.Test.YtmeakgiojhoofaaGd
namespace Go.Proofs.Ytmeakgiojhoofaa
set_option linter.unusedSimpArgs false
set_option linter.unusedVariables false
def nG (g : Gr) : Gr := ⟨g.n, nrmL ltE g.E, (nrmW g).map some⟩
def zG : Gr := ⟨0, [], []⟩
theorem nG_len (g : Gr) : (nG g).W.length = g.W.length := by simp [nG, nrmW]
theorem nG_w {g : Gr} {i : Nat} (h : i < g.W.length) : (nG g).w i = nrmL ltS (g.w i) := by
  show (((nrmW g).map some).getD i none).getD [] = _
  rw [List.getD_eq_getElem?_getD, List.getElem?_map, nrmW, List.getElem?_map, List.getElem?_range h]; rfl
theorem nG_ok {g : Gr} (h : okG g) : okG (nG g) := by
  refine ⟨h.n, ?_, by rw [nG_len]; exact h.w, fun i hi => ?_, fun i hi s hs => ?_⟩
  · have := nrm_len (lt := ltE) g.E; have := h.e; simp only [nG]; omega
  · rw [nG_len] at hi; rw [nG_w hi]
    have := nrm_len (lt := ltS) (g.w i); have := h.r i hi; omega
  · rw [nG_len] at hi; rw [nG_w hi, nrm_mem ordrS] at hs
    exact h.t i hi s hs
theorem zG_ok : okG zG := ⟨⟨by decide, by decide⟩, by simp [zG], by simp [zG], fun i hi => absurd hi (Nat.not_lt_zero _), fun i hi => absurd hi (Nat.not_lt_zero _)⟩
theorem okB_iff {g : Gr} : okB g = true ↔ (1 ≤ g.n ∧ g.n ≤ 200 ∧ g.E.length ≤ 2000 ∧ (g.W.length : Int) = g.n) ∧ (∀ e ∈ g.E, endB g.n e = true) ∧ ∀ i, i < g.W.length → (g.w i).length ≤ 8 ∧ ∀ s ∈ g.w i, wordB s = true := by
  simp only [okB, wrdB, Bool.and_eq_true, decide_eq_true_eq, List.all_eq_true, List.mem_range]
  constructor
  · rintro ⟨⟨⟨a, b⟩, c, d⟩, e, f⟩; exact ⟨⟨a, b, c, d⟩, e, f⟩
  · rintro ⟨⟨a, b, c, d⟩, e, f⟩; exact ⟨⟨⟨a, b⟩, c, d⟩, e, f⟩
theorem nG_okB {g : Gr} (h : okB g = true) : okB (nG g) = true := by
  obtain ⟨⟨a, b, c, d⟩, e, f⟩ := okB_iff.1 h
  refine okB_iff.2 ⟨⟨a, b, ?_, by rw [nG_len]; exact d⟩, fun x hx => ?_, fun i hi => ?_⟩
  · have := nrm_len (lt := ltE) g.E; simp only [nG]; omega
  · exact e x ((nrm_mem ordrE _ _).1 hx)
  · rw [nG_len] at hi; rw [nG_w hi]
    obtain ⟨f1, f2⟩ := f i hi
    have := nrm_len (lt := ltS) (g.w i)
    exact ⟨by omega, fun s hs => f2 s ((nrm_mem ordrS _ _).1 hs)⟩
theorem nG_isB {g : Gr} (h : okB g = true) : isB (nG g) = true := by
  unfold isB
  rw [nG_okB h, show ascB ltE (nG g).E = true from ascB_iff.2 (nrm_asc ordrE g.E), wAsc_yes fun i hi => by
    rw [nG_len] at hi; rw [nG_w hi]; exact nrm_asc ordrS _]
  rfl
theorem zG_isB : isB zG = false := by
  have : okB zG = false := by decide
  rw [isB, this, Bool.false_and]
def tG (g : Gr) : Gr := if okB g = true then nG g else zG
theorem tG_ok {g : Gr} (h : okG g) : okG (tG g) := by
  unfold tG; split
  · exact nG_ok h
  · exact zG_ok
theorem tG_isB (g : Gr) : isB (tG g) = okB g := by
  unfold tG
  cases h : okB g with
  | true => rw [if_pos rfl, nG_isB h]
  | false => rw [if_neg (by simp), zG_isB]
def codeA (g : Gr) : Int := if okB g = true then 0 else 20
theorem nrmA_eq (g : Gr) : nrmA g = .tup [.agg (gV (tG g).n (tG g).E (tG g).W), .int .i64 (codeA g)] := by
  unfold nrmA tG codeA
  by_cases h : okB g = true
  · rw [if_pos h, if_pos h, if_pos h]; rfl
  · rw [if_neg h, if_neg h, if_neg h]; rfl
theorem offs_at {rows : List (List Int)} {n k : Nat} (h : k ≤ n) : gi (offs rows n) k = (((rows.take k).flatten.length : Nat) : Int) := by
  rw [gi, offs, List.getD_eq_getElem?_getD, List.getElem?_map, List.getElem?_range (by omega)]; rfl
theorem offs_oi {rows : List (List Int)} {n k : Nat} (h : k ≤ n) : oi (offs rows n) k = (rows.take k).flatten.length := by rw [oi, offs_at h]; rfl
theorem rowI_offs {rows : List (List Int)} {v : Nat} (h : v < rows.length) : rowI (offs rows rows.length) rows.flatten v = rows.getD v [] := by
  rw [rowI, offs_oi (by omega), offs_oi (by omega), flat_succ h, List.length_append]
  have e : rows.flatten = (rows.take v).flatten ++ (rows.getD v [] ++ (rows.drop (v + 1)).flatten) := by
    conv => lhs; rw [← List.take_append_drop v rows]
    rw [List.flatten_append, List.drop_eq_getElem_cons h, List.flatten_cons, List.getD_eq_getElem?_getD, List.getElem?_eq_getElem h]; rfl
  rw [e, List.drop_left, show (List.take v rows).flatten.length + (rows.getD v []).length - (List.take v rows).flatten.length = (rows.getD v []).length by omega, List.take_left]
theorem half_offs {rows : List (List Int)} (h1 : 1 ≤ rows.length) (h2 : rows.length ≤ 200) (h3 : rows.flatten.length ≤ 2000) (hr : ∀ v, v < rows.length → (rows.getD v []).Pairwise (· < ·) ∧ ∀ x ∈ rows.getD v [], 0 ≤ x ∧ x < rows.length) : half (offs rows rows.length) rows.flatten := by
  have hl := offs_len rows rows.length
  refine ⟨by omega, by omega, h3, by rw [offs_at (by omega)]; simp, by rw [hl, Nat.add_sub_cancel, offs_at (Nat.le_refl _), List.take_length], fun v hv => ?_, fun v hv k k1 k2 => ?_⟩
  · rw [offs_at (by omega), offs_at (by omega), flat_succ (by omega), List.length_append]; omega
  · have hv' : v < rows.length := by omega
    have e := rowI_offs hv'
    have o1 := offs_oi (rows := rows) (n := rows.length) (k := v) (by omega)
    have o2 := offs_oi (rows := rows) (n := rows.length) (k := v + 1) (by omega)
    have o3 := flat_succ hv'
    obtain ⟨r1, r2⟩ := hr v hv'
    rw [← e] at r1 r2
    have hat : ∀ i, i < oi (offs rows rows.length) (v + 1) - oi (offs rows rows.length) v → (rowI (offs rows rows.length) rows.flatten v).getD i 0 = gi rows.flatten (oi (offs rows rows.length) v + i) := fun i hi => by
      rw [rowI, gi, List.getD_eq_getElem?_getD, List.getElem?_take, if_pos hi, List.getElem?_drop, List.getD_eq_getElem?_getD]
    have hlen : (rowI (offs rows rows.length) rows.flatten v).length = oi (offs rows rows.length) (v + 1) - oi (offs rows rows.length) v := by
      rw [e, o1, o2, o3, List.length_append]; omega
    obtain ⟨i, rfl⟩ : ∃ i, k = oi (offs rows rows.length) v + i := ⟨k - oi (offs rows rows.length) v, by omega⟩
    have hi : i < oi (offs rows rows.length) (v + 1) - oi (offs rows rows.length) v := by omega
    have hm := r2 _ (getD_memI (l := rowI (offs rows rows.length) rows.flatten v) (i := i) (by omega))
    rw [hat i hi] at hm
    refine ⟨hm.1, by rw [hl]; omega, fun h0 => ?_⟩
    have h0 : 0 < i := by omega
    have := inc_at r1 (i := i - 1) (j := i) (by omega) (by omega)
    rw [hat i hi, hat (i - 1) (by omega)] at this
    rw [show oi (offs rows rows.length) v + i - 1 = oi (offs rows rows.length) v + (i - 1) by omega]
    exact this
def outV (E : List Ed) (v : Nat) : List Int := (E.filter fun e => e.1 == (v : Int)).map (·.2)
def inV (E : List Ed) (v : Nat) : List Int := (E.filter fun e => e.2 == (v : Int)).map (·.1)
theorem outR_eq (E : List Ed) (n : Nat) : outR E n E.length = (List.range n).map (outV E) := by simp only [outR, List.take_length]; rfl
theorem inR_eq (E : List Ed) (n : Nat) : inR E n E.length = (List.range n).map (inV E) := by simp only [inR, List.take_length]; rfl
theorem outV_mem {E : List Ed} {v : Nat} {w : Int} : w ∈ outV E v ↔ ((v : Int), w) ∈ E := by
  simp only [outV, List.mem_map, List.mem_filter, beq_iff_eq]
  constructor
  · rintro ⟨⟨a, b⟩, ⟨h1, h2⟩, h3⟩; simp only at h2 h3; rw [← h2, ← h3]; exact h1
  · intro h; exact ⟨_, ⟨h, rfl⟩, rfl⟩
theorem inV_mem {E : List Ed} {v : Nat} {w : Int} : w ∈ inV E v ↔ (w, (v : Int)) ∈ E := by
  simp only [inV, List.mem_map, List.mem_filter, beq_iff_eq]
  constructor
  · rintro ⟨⟨a, b⟩, ⟨h1, h2⟩, h3⟩; simp only at h2 h3; rw [← h2, ← h3]; exact h1
  · intro h; exact ⟨_, ⟨h, rfl⟩, rfl⟩
theorem outV_inc {E : List Ed} (h : asc ltE E) (v : Nat) : (outV E v).Pairwise (· < ·) := by
  rw [outV, List.pairwise_map]
  have := h.filter fun e => e.1 == (v : Int)
  refine this.imp_of_mem fun {a b} ha hb hab => ?_
  have h1 := (List.mem_filter.1 ha).2
  have h2 := (List.mem_filter.1 hb).2
  simp only [beq_iff_eq] at h1 h2
  simp only [ltE, decide_eq_true_eq] at hab
  omega
theorem inV_inc {E : List Ed} (h : asc ltE E) (v : Nat) : (inV E v).Pairwise (· < ·) := by
  rw [inV, List.pairwise_map]
  have := h.filter fun e => e.2 == (v : Int)
  refine this.imp_of_mem fun {a b} ha hb hab => ?_
  have h1 := (List.mem_filter.1 ha).2
  have h2 := (List.mem_filter.1 hb).2
  simp only [beq_iff_eq] at h1 h2
  simp only [ltE, decide_eq_true_eq] at hab
  omega
theorem flat_sum (f : Nat → List Int) : ∀ n, ((List.range n).map f).flatten.length = sumN (fun v => (f v).length) n
  | 0 => rfl
  | n + 1 => by rw [List.range_succ, List.map_append, List.flatten_append, List.length_append, flat_sum f n]; simp [sumN]
theorem parts_len (f : Ed → Int) {n : Nat} : ∀ {E : List Ed}, (∀ e ∈ E, 0 ≤ f e ∧ f e < n) → sumN (fun v => (E.filter fun e => f e == (v : Int)).length) n = E.length
  | [], _ => by
    have : ∀ n, sumN (fun v => (([] : List Ed).filter fun e => f e == (v : Int)).length) n = 0 := fun n => by
      induction n with
      | zero => rfl
      | succ n ih => simp only [sumN, ih]; rfl
    exact this n
  | e :: E, h => by
    have ih := parts_len f (n := n) (E := E) (fun x hx => h x (by simp [hx]))
    have he := h e (by simp)
    rw [sumN_add_one (g := fun v => (E.filter fun e => f e == (v : Int)).length) (a := (f e).toNat) (by omega) ?_, ih]; rfl
    intro i hi
    by_cases c : f e = (i : Int)
    · rw [List.filter_cons_of_pos (by simpa using c), if_pos (by omega)]; rfl
    · rw [List.filter_cons_of_neg (by simpa using c), if_neg (by omega)]; rfl
def plE (n : Nat) (E : List Ed) : Prop := ∀ e ∈ E, 0 ≤ e.1 ∧ e.1 < n ∧ 0 ≤ e.2 ∧ e.2 < n
theorem out_len {n : Nat} {E : List Ed} (h : plE n E) : ((List.range n).map (outV E)).flatten.length = E.length := by
  rw [flat_sum]
  have := parts_len (fun e : Ed => e.1) (n := n) (E := E) (fun e he => by have := h e he; omega)
  simpa [outV] using this
theorem in_len {n : Nat} {E : List Ed} (h : plE n E) : ((List.range n).map (inV E)).flatten.length = E.length := by
  rw [flat_sum]
  have := parts_len (fun e : Ed => e.2) (n := n) (E := E) (fun e he => by have := h e he; omega)
  simpa [inV] using this
theorem range_getD (f : Nat → List Int) {n v : Nat} (h : v < n) : ((List.range n).map f).getD v [] = f v := by
  rw [List.getD_eq_getElem?_getD, List.getElem?_map, List.getElem?_range h]; rfl
theorem mkR_eq (n : Nat) (E : List Ed) : mkR n E = ⟨offs ((List.range n).map (outV E)) n, ((List.range n).map (outV E)).flatten, offs ((List.range n).map (inV E)) n, ((List.range n).map (inV E)).flatten⟩ := by
  rw [mkR, outR_eq, inR_eq]
theorem mkR_out {n : Nat} {E : List Ed} {v : Nat} (h : v < n) : rowI (mkR n E).off (mkR n E).to v = outV E v := by
  rw [mkR_eq]
  have := rowI_offs (rows := (List.range n).map (outV E)) (v := v) (by simpa using h)
  rw [range_getD _ h, List.length_map, List.length_range] at this
  exact this
theorem mkR_in {n : Nat} {E : List Ed} {v : Nat} (h : v < n) : rowI (mkR n E).roff (mkR n E).rev v = inV E v := by
  rw [mkR_eq]
  have := rowI_offs (rows := (List.range n).map (inV E)) (v := v) (by simpa using h)
  rw [range_getD _ h, List.length_map, List.length_range] at this
  exact this
theorem mkR_off (n : Nat) (E : List Ed) : (mkR n E).off.length = n + 1 := by rw [mkR_eq]; exact offs_len _ _
theorem mkR_ok {n : Nat} {E : List Ed} (h1 : 1 ≤ n) (h2 : n ≤ 200) (h3 : E.length ≤ 2000) (ha : asc ltE E) (hp : plE n E) : (mkR n E).ok := by
  have f : half (mkR n E).off (mkR n E).to := by
    have := half_offs (rows := (List.range n).map (outV E)) (by simpa using h1) (by simpa using h2) (by rw [out_len hp]; exact h3) (fun v hv => by
      have hv : v < n := by simpa using hv
      rw [range_getD _ hv]
      refine ⟨outV_inc ha v, fun x hx => ?_⟩
      have := hp _ (outV_mem.1 hx)
      simp only [List.length_map, List.length_range]; omega)
    rw [List.length_map, List.length_range] at this
    rw [mkR_eq]; exact this
  have b : half (mkR n E).roff (mkR n E).rev := by
    have := half_offs (rows := (List.range n).map (inV E)) (by simpa using h1) (by simpa using h2) (by rw [in_len hp]; exact h3) (fun v hv => by
      have hv : v < n := by simpa using hv
      rw [range_getD _ hv]
      refine ⟨inV_inc ha v, fun x hx => ?_⟩
      have := hp _ (inV_mem.1 hx)
      simp only [List.length_map, List.length_range]; omega)
    rw [List.length_map, List.length_range] at this
    rw [mkR_eq]; exact this
  refine ⟨by rw [mkR_eq]; simp [offs], f, b, by rw [mkR_eq]; show ((List.range n).map (outV E)).flatten.length = ((List.range n).map (inV E)).flatten.length; rw [out_len hp, in_len hp], fun v hv w hw => ?_⟩
  rw [mkR_off] at hv
  rw [mkR_out (by omega)] at hw
  have hm := outV_mem.1 hw
  have := hp _ hm
  simp only at this
  rw [mkR_in (by omega), inV_mem, Int.toNat_of_nonneg this.2.2.1]
  exact hm
theorem edU_spec {n : Nat} {E : List Ed} (ha : asc ltE E) : ∀ {v : Nat}, v ≤ n → asc ltE (edU (mkR n E) v) ∧ ∀ e, e ∈ edU (mkR n E) v ↔ e ∈ E ∧ 0 ≤ e.1 ∧ e.1 < v
  | 0, _ => ⟨.nil, fun e => by simp only [edU, List.range_zero, List.flatMap_nil, List.not_mem_nil, false_iff]; omega⟩
  | v + 1, h => by
    obtain ⟨i1, i2⟩ := edU_spec ha (n := n) (v := v) (by omega)
    have ev : edV (mkR n E) v = (outV E v).map fun w => ((v : Int), w) := by rw [edV, mkR_out (by omega)]
    have hm : ∀ e, e ∈ edV (mkR n E) v ↔ e ∈ E ∧ e.1 = v := fun e => by
      rw [ev, List.mem_map]
      constructor
      · rintro ⟨w, hw, rfl⟩; exact ⟨outV_mem.1 hw, rfl⟩
      · rintro ⟨h1, h2⟩; exact ⟨e.2, outV_mem.2 (by rw [← h2]; exact h1), Prod.ext h2.symm rfl⟩
    rw [edU_succ]
    refine ⟨asc_app.2 ⟨i1, ?_, fun x hx y hy => ?_⟩, fun e => ?_⟩
    · rw [ev, asc, List.pairwise_map]
      exact (outV_inc ha v).imp fun h => by simp only [ltE, decide_eq_true_eq]; exact .inr ⟨trivial, h⟩
    · have := ((i2 x).1 hx).2.2
      have := ((hm y).1 hy).2
      simp only [ltE, decide_eq_true_eq]; omega
    · rw [List.mem_append, i2, hm]
      constructor
      · rintro (⟨a, b, c⟩ | ⟨a, b⟩)
        · exact ⟨a, b, by omega⟩
        · exact ⟨a, by omega, by omega⟩
      · rintro ⟨a, b, c⟩
        by_cases d : e.1 = v
        · exact .inr ⟨a, d⟩
        · exact .inl ⟨a, b, by omega⟩
theorem edU_all {n : Nat} {E : List Ed} (ha : asc ltE E) (hp : plE n E) : edU (mkR n E) n = E := by
  obtain ⟨h1, h2⟩ := edU_spec ha (n := n) (v := n) (Nat.le_refl _)
  refine asc_ext ordrE h1 ha fun e => ?_
  rw [h2]
  exact ⟨fun h => h.1, fun h => ⟨h, by have := hp e h; omega, by have := hp e h; omega⟩⟩
theorem isB_pl {g : Gr} (h : isB g = true) : ∃ n : Nat, g.n = n ∧ 1 ≤ n ∧ n ≤ 200 ∧ g.E.length ≤ 2000 ∧ asc ltE g.E ∧ plE n g.E := by
  simp only [isB, Bool.and_eq_true] at h
  obtain ⟨h1, h2, _⟩ := h
  obtain ⟨⟨a, b, c, d⟩, e, f⟩ := okB_iff.1 h1
  refine ⟨g.n.toNat, by omega, by omega, by omega, c, ascB_iff.1 h2, fun x hx => ?_⟩
  have := e x hx
  simp only [endB, Bool.and_eq_true, decide_eq_true_eq] at this
  omega
theorem turnE_mem {E : List Ed} {a b : Int} : (a, b) ∈ turnE E ↔ (b, a) ∈ E := by
  simp only [turnE, List.mem_map]
  constructor
  · rintro ⟨⟨x, y⟩, h, e⟩
    simp only [Prod.mk.injEq] at e
    rw [← e.1, ← e.2]; exact h
  · intro h; exact ⟨_, h, rfl⟩
theorem turn_okB (g : Gr) : okB (turnG g) = okB g := by
  have key : ∀ g : Gr, okB g = true → okB (turnG g) = true := fun g h => by
    obtain ⟨⟨a, b, c, d⟩, e, f⟩ := okB_iff.1 h
    refine okB_iff.2 ⟨⟨a, b, by simp only [turnG, turnE_len]; exact c, d⟩, fun x hx => ?_, f⟩
    have hx' : (x.2, x.1) ∈ g.E := turnE_mem.1 hx
    have := e _ hx'
    simp only [endB, turnG, Bool.and_eq_true, decide_eq_true_eq] at this ⊢
    exact ⟨decide_eq_true this.2, decide_eq_true this.1⟩
  cases h : okB g with
  | true => exact key g h
  | false =>
    cases h2 : okB (turnG g) with
    | false => rfl
    | true =>
      have := key _ h2
      have e : turnG (turnG g) = g := by
        simp only [turnG, turnE, List.map_map]
        congr 1
        exact List.map_id _
      rw [e, h] at this; cases this
end Go.Proofs.Ytmeakgiojhoofaa
