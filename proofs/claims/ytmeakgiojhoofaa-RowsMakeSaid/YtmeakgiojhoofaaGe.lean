/- Graphs: the normal one is normal; its rows are right, and tell its edges. -/
import Derived.Test.YtmeakgiojhoofaaGd
namespace Go.Proofs.Ytmeakgiojhoofaa
set_option linter.unusedSimpArgs false
set_option linter.unusedVariables false
theorem okB_iff {g : Gr} : okB g = true ↔ (1 ≤ g.n ∧ g.n ≤ 200 ∧ g.E.length ≤ 2000 ∧ (g.W.length : Int) = g.n) ∧ (∀ e ∈ g.E, endB g.n e = true) ∧ ∀ i, i < g.W.length → (g.w i).length ≤ 8 ∧ ∀ s ∈ g.w i, wordB s = true := by
  simp only [okB, wrdB, Bool.and_eq_true, decide_eq_true_eq, List.all_eq_true, List.mem_range]
  constructor
  · rintro ⟨⟨⟨a, b⟩, c, d⟩, e, f⟩; exact ⟨⟨a, b, c, d⟩, e, f⟩
  · rintro ⟨⟨a, b, c, d⟩, e, f⟩; exact ⟨⟨⟨a, b⟩, c, d⟩, e, f⟩
theorem offs_at {rows : List (List Int)} {n k : Nat} (h : k ≤ n) : gi (offs rows n) k = (((rows.take k).flatten.length : Nat) : Int) := by
  rw [gi, offs, List.getD_eq_getElem?_getD, List.getElem?_map, List.getElem?_range (by omega)]; rfl
theorem offs_oi {rows : List (List Int)} {n k : Nat} (h : k ≤ n) : oi (offs rows n) k = (rows.take k).flatten.length := by rw [oi, offs_at h]; rfl
theorem rowI_offs {rows : List (List Int)} {v : Nat} (h : v < rows.length) : rowI (offs rows rows.length) rows.flatten v = rows.getD v [] := by
  rw [rowI, offs_oi (by omega), offs_oi (by omega), flat_succ h, List.length_append]
  have e : rows.flatten = (rows.take v).flatten ++ (rows.getD v [] ++ (rows.drop (v + 1)).flatten) := by
    conv => lhs; rw [← List.take_append_drop v rows]
    rw [List.flatten_append, List.drop_eq_getElem_cons h, List.flatten_cons, List.getD_eq_getElem?_getD, List.getElem?_eq_getElem h]; rfl
  rw [e, List.drop_left, show (List.take v rows).flatten.length + (rows.getD v []).length - (List.take v rows).flatten.length = (rows.getD v []).length by omega, List.take_left]
theorem half_offs {rows : List (List Int)} (h1 : 1 ≤ rows.length) (h2 : rows.length ≤ 200) (h3 : rows.flatten.length ≤ 2000) (hr : ∀ v, v < rows.length → (rows.getD v []).Pairwise (· < ·) ∧ ∀ x ∈ rows.getD v [], 0 ≤ x ∧ x < rows.length) : half (offs rows rows.length) rows.flatten := by
  have hl := offs_len rows rows.length
  refine ⟨by omega, by omega, h3, by rw [offs_at (by omega)]; simp, by rw [hl, Nat.add_sub_cancel, offs_at (Nat.le_refl _), List.take_length], fun v hv => ?_, fun v hv k k1 k2 => ?_⟩
  · rw [offs_at (by omega), offs_at (by omega), flat_succ (by omega), List.length_append]; omega
  · have hv' : v < rows.length := by omega
    have e := rowI_offs hv'
    have o1 := offs_oi (rows := rows) (n := rows.length) (k := v) (by omega)
    have o2 := offs_oi (rows := rows) (n := rows.length) (k := v + 1) (by omega)
    have o3 := flat_succ hv'
    obtain ⟨r1, r2⟩ := hr v hv'
    rw [← e] at r1 r2
    have hat : ∀ i, i < oi (offs rows rows.length) (v + 1) - oi (offs rows rows.length) v → (rowI (offs rows rows.length) rows.flatten v).getD i 0 = gi rows.flatten (oi (offs rows rows.length) v + i) := fun i hi => by
      rw [rowI, gi, List.getD_eq_getElem?_getD, List.getElem?_take, if_pos hi, List.getElem?_drop, List.getD_eq_getElem?_getD]
    have hlen : (rowI (offs rows rows.length) rows.flatten v).length = oi (offs rows rows.length) (v + 1) - oi (offs rows rows.length) v := by
      rw [e, o1, o2, o3, List.length_append]; omega
    obtain ⟨i, rfl⟩ : ∃ i, k = oi (offs rows rows.length) v + i := ⟨k - oi (offs rows rows.length) v, by omega⟩
    have hi : i < oi (offs rows rows.length) (v + 1) - oi (offs rows rows.length) v := by omega
    have hm := r2 _ (getD_memI (l := rowI (offs rows rows.length) rows.flatten v) (i := i) (by omega))
    rw [hat i hi] at hm
    refine ⟨hm.1, by rw [hl]; omega, fun h0 => ?_⟩
    have h0 : 0 < i := by omega
    have := inc_at r1 (i := i - 1) (j := i) (by omega) (by omega)
    rw [hat i hi, hat (i - 1) (by omega)] at this
    rw [show oi (offs rows rows.length) v + i - 1 = oi (offs rows rows.length) v + (i - 1) by omega]
    exact this
def outV (E : List Ed) (v : Nat) : List Int := (E.filter fun e => e.1 == (v : Int)).map (·.2)
def inV (E : List Ed) (v : Nat) : List Int := (E.filter fun e => e.2 == (v : Int)).map (·.1)
theorem outR_eq (E : List Ed) (n : Nat) : outR E n E.length = (List.range n).map (outV E) := by simp only [outR, List.take_length]; rfl
theorem inR_eq (E : List Ed) (n : Nat) : inR E n E.length = (List.range n).map (inV E) := by simp only [inR, List.take_length]; rfl
theorem outV_mem {E : List Ed} {v : Nat} {w : Int} : w ∈ outV E v ↔ ((v : Int), w) ∈ E := by
  simp only [outV, List.mem_map, List.mem_filter, beq_iff_eq]
  constructor
  · rintro ⟨⟨a, b⟩, ⟨h1, h2⟩, h3⟩; simp only at h2 h3; rw [← h2, ← h3]; exact h1
  · intro h; exact ⟨_, ⟨h, rfl⟩, rfl⟩
theorem inV_mem {E : List Ed} {v : Nat} {w : Int} : w ∈ inV E v ↔ (w, (v : Int)) ∈ E := by
  simp only [inV, List.mem_map, List.mem_filter, beq_iff_eq]
  constructor
  · rintro ⟨⟨a, b⟩, ⟨h1, h2⟩, h3⟩; simp only at h2 h3; rw [← h2, ← h3]; exact h1
  · intro h; exact ⟨_, ⟨h, rfl⟩, rfl⟩
theorem outV_inc {E : List Ed} (h : asc ltE E) (v : Nat) : (outV E v).Pairwise (· < ·) := by
  rw [outV, List.pairwise_map]
  have := h.filter fun e => e.1 == (v : Int)
  refine this.imp_of_mem fun {a b} ha hb hab => ?_
  have h1 := (List.mem_filter.1 ha).2
  have h2 := (List.mem_filter.1 hb).2
  simp only [beq_iff_eq] at h1 h2
  simp only [ltE, decide_eq_true_eq] at hab
  omega
theorem inV_inc {E : List Ed} (h : asc ltE E) (v : Nat) : (inV E v).Pairwise (· < ·) := by
  rw [inV, List.pairwise_map]
  have := h.filter fun e => e.2 == (v : Int)
  refine this.imp_of_mem fun {a b} ha hb hab => ?_
  have h1 := (List.mem_filter.1 ha).2
  have h2 := (List.mem_filter.1 hb).2
  simp only [beq_iff_eq] at h1 h2
  simp only [ltE, decide_eq_true_eq] at hab
  omega
theorem flat_sum (f : Nat → List Int) : ∀ n, ((List.range n).map f).flatten.length = sumN (fun v => (f v).length) n
  | 0 => rfl
  | n + 1 => by rw [List.range_succ, List.map_append, List.flatten_append, List.length_append, flat_sum f n]; simp [sumN]
theorem parts_len (f : Ed → Int) {n : Nat} : ∀ {E : List Ed}, (∀ e ∈ E, 0 ≤ f e ∧ f e < n) → sumN (fun v => (E.filter fun e => f e == (v : Int)).length) n = E.length
  | [], _ => by
    have : ∀ n, sumN (fun v => (([] : List Ed).filter fun e => f e == (v : Int)).length) n = 0 := fun n => by
      induction n with
      | zero => rfl
      | succ n ih => simp only [sumN, ih]; rfl
    exact this n
  | e :: E, h => by
    have ih := parts_len f (n := n) (E := E) (fun x hx => h x (by simp [hx]))
    have he := h e (by simp)
    rw [sumN_add_one (g := fun v => (E.filter fun e => f e == (v : Int)).length) (a := (f e).toNat) (by omega) ?_, ih]; rfl
    intro i hi
    by_cases c : f e = (i : Int)
    · rw [List.filter_cons_of_pos (by simpa using c), if_pos (by omega)]; rfl
    · rw [List.filter_cons_of_neg (by simpa using c), if_neg (by omega)]; rfl
def plE (n : Nat) (E : List Ed) : Prop := ∀ e ∈ E, 0 ≤ e.1 ∧ e.1 < n ∧ 0 ≤ e.2 ∧ e.2 < n
theorem out_len {n : Nat} {E : List Ed} (h : plE n E) : ((List.range n).map (outV E)).flatten.length = E.length := by
  rw [flat_sum]
  have := parts_len (fun e : Ed => e.1) (n := n) (E := E) (fun e he => by have := h e he; omega)
  simpa [outV] using this
theorem in_len {n : Nat} {E : List Ed} (h : plE n E) : ((List.range n).map (inV E)).flatten.length = E.length := by
  rw [flat_sum]
  have := parts_len (fun e : Ed => e.2) (n := n) (E := E) (fun e he => by have := h e he; omega)
  simpa [inV] using this
theorem range_getD (f : Nat → List Int) {n v : Nat} (h : v < n) : ((List.range n).map f).getD v [] = f v := by
  rw [List.getD_eq_getElem?_getD, List.getElem?_map, List.getElem?_range h]; rfl
theorem mkR_eq (n : Nat) (E : List Ed) : mkR n E = ⟨offs ((List.range n).map (outV E)) n, ((List.range n).map (outV E)).flatten, offs ((List.range n).map (inV E)) n, ((List.range n).map (inV E)).flatten⟩ := by
  rw [mkR, outR_eq, inR_eq]
theorem mkR_out {n : Nat} {E : List Ed} {v : Nat} (h : v < n) : rowI (mkR n E).off (mkR n E).to v = outV E v := by
  rw [mkR_eq]
  have := rowI_offs (rows := (List.range n).map (outV E)) (v := v) (by simpa using h)
  rw [range_getD _ h, List.length_map, List.length_range] at this
  exact this
theorem mkR_in {n : Nat} {E : List Ed} {v : Nat} (h : v < n) : rowI (mkR n E).roff (mkR n E).rev v = inV E v := by
  rw [mkR_eq]
  have := rowI_offs (rows := (List.range n).map (inV E)) (v := v) (by simpa using h)
  rw [range_getD _ h, List.length_map, List.length_range] at this
  exact this
theorem mkR_off (n : Nat) (E : List Ed) : (mkR n E).off.length = n + 1 := by rw [mkR_eq]; exact offs_len _ _
theorem mkR_ok {n : Nat} {E : List Ed} (h1 : 1 ≤ n) (h2 : n ≤ 200) (h3 : E.length ≤ 2000) (ha : asc ltE E) (hp : plE n E) : (mkR n E).ok := by
  have f : half (mkR n E).off (mkR n E).to := by
    have := half_offs (rows := (List.range n).map (outV E)) (by simpa using h1) (by simpa using h2) (by rw [out_len hp]; exact h3) (fun v hv => by
      have hv : v < n := by simpa using hv
      rw [range_getD _ hv]
      refine ⟨outV_inc ha v, fun x hx => ?_⟩
      have := hp _ (outV_mem.1 hx)
      simp only [List.length_map, List.length_range]; omega)
    rw [List.length_map, List.length_range] at this
    rw [mkR_eq]; exact this
  have b : half (mkR n E).roff (mkR n E).rev := by
    have := half_offs (rows := (List.range n).map (inV E)) (by simpa using h1) (by simpa using h2) (by rw [in_len hp]; exact h3) (fun v hv => by
      have hv : v < n := by simpa using hv
      rw [range_getD _ hv]
      refine ⟨inV_inc ha v, fun x hx => ?_⟩
      have := hp _ (inV_mem.1 hx)
      simp only [List.length_map, List.length_range]; omega)
    rw [List.length_map, List.length_range] at this
    rw [mkR_eq]; exact this
  refine ⟨by rw [mkR_eq]; simp [offs], f, b, by rw [mkR_eq]; show ((List.range n).map (outV E)).flatten.length = ((List.range n).map (inV E)).flatten.length; rw [out_len hp, in_len hp], fun v hv w hw => ?_⟩
  rw [mkR_off] at hv
  rw [mkR_out (by omega)] at hw
  have hm := outV_mem.1 hw
  have := hp _ hm
  simp only at this
  rw [mkR_in (by omega), inV_mem, Int.toNat_of_nonneg this.2.2.1]
  exact hm
theorem isB_pl {g : Gr} (h : isB g = true) : ∃ n : Nat, g.n = n ∧ 1 ≤ n ∧ n ≤ 200 ∧ g.E.length ≤ 2000 ∧ asc ltE g.E ∧ plE n g.E := by
  simp only [isB, Bool.and_eq_true] at h
  obtain ⟨h1, h2, _⟩ := h
  obtain ⟨⟨a, b, c, d⟩, e, f⟩ := okB_iff.1 h1
  refine ⟨g.n.toNat, by omega, by omega, by omega, c, ascB_iff.1 h2, fun x hx => ?_⟩
  have := e x hx
  simp only [endB, Bool.and_eq_true, decide_eq_true_eq] at this
  omega
end Go.Proofs.Ytmeakgiojhoofaa
