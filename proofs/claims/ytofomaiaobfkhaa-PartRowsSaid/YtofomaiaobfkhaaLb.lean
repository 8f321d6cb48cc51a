/- A law's arguments out of its rows, with the form's own reach: each row takes at most 2^47 bytes. -/
import Derived.Test.YtofomaiaobfkhaaLa
import Derived.SizedLaws
namespace Go.Proofs.Ytofomaiaobfkhaa
set_option linter.unusedSimpArgs false
set_option linter.unusedVariables false
open Go.RowKit Go.WideShapes Go.ChangeShapes
theorem weightsAll_mem {H : Type} {P : Program} {e : TypeId} {d : DataW H} {k : Nat} (hk : k ∈ d.weights P e) : ∀ {l : List (DataW H)}, d ∈ l → k ∈ DataW.weightsAll P e l
  | x :: l, h => by
    simp only [DataW.weightsAll, List.mem_append]
    rcases List.mem_cons.1 h with rfl | h
    · exact .inl hk
    · exact .inr (weightsAll_mem hk h)
mutual
def FitB : Ty → AV → Prop
  | .int k, v => ∃ n, v = .int k n ∧ (Lit.int k n).wf = true
  | .bool, v => ∃ b, v = .bool b
  | .str, v => ∃ s, v = .str s ∧ s.length ≤ reachBytes
  | .sl sz e, v => ∃ rows : List (List AV), v = .sl sz rows.flatten ∧ rows.length ≤ reachBytes ∧ ∀ r ∈ rows, FitLB e r
def FitLB : List Ty → List AV → Prop
  | [], vs => vs = []
  | t :: ts, vs => ∃ v us, vs = v :: us ∧ FitB t v ∧ FitLB ts us
end
theorem FitL_lenB : ∀ {ts : List Ty} {vs : List AV}, FitLB ts vs → vs.length = ts.length
  | [], vs, h => by simp only [FitLB] at h; subst h; rfl
  | t :: ts, vs, h => by
    simp only [FitLB] at h
    obtain ⟨v, us, rfl, _, h⟩ := h
    simp [FitL_lenB h]
theorem FitL_appendB : ∀ {ts us : List Ty} {vs ws : List AV}, FitLB ts vs → FitLB us ws → FitLB (ts ++ us) (vs ++ ws)
  | [], us, vs, ws, h, k => by simp only [FitLB] at h; subst h; exact k
  | t :: ts, us, vs, ws, h, k => by
    simp only [FitLB] at h
    obtain ⟨v, xs, rfl, h1, h⟩ := h
    exact ⟨v, xs ++ ws, rfl, h1, FitL_appendB h k⟩
mutual
theorem Fit_okcB : ∀ {t : Ty} {v : AV}, FitB t v → v.okc = true
  | .int k, v, h => by obtain ⟨n, rfl, _⟩ := h; rfl
  | .bool, v, h => by obtain ⟨n, rfl⟩ := h; rfl
  | .str, v, h => by obtain ⟨n, rfl, _⟩ := h; rfl
  | .sl sz e, v, h => by obtain ⟨n, rfl, _⟩ := h; rfl
end
theorem FitL_okcB : ∀ {ts : List Ty} {vs : List AV}, FitLB ts vs → vs.all AV.okc = true
  | [], vs, h => by simp only [FitLB] at h; subst h; rfl
  | t :: ts, vs, h => by
    simp only [FitLB] at h
    obtain ⟨v, us, rfl, h1, h⟩ := h
    simp [Fit_okcB h1, FitL_okcB h]
def descFB (P : Program) (g : TypeId → Option (List Ty)) : List Field → Nat → Option (List Ty)
  | [], _ => some []
  | f :: fs, off => if f.offset = off then (g f.type).bind fun a => if a.length = P.cellsOf f.type then (descFB P g fs (off + a.length)).map (a ++ ·) else none else none
def descB (P : Program) : Nat → TypeId → Option (List Ty)
  | 0, _ => none
  | n + 1, t => match P.underlying t with
    | some (.int k) => some [.int k]
    | some .bool => some [.bool]
    | some .string => some [.str]
    | some (.slice e) => (descB P n e).bind fun es => if es.length = P.cellsOf e ∧ 0 < es.length ∧ 0 < P.bytesOf e then some [.sl es.length es] else none
    | some (.struct fs) => (descFB P (descB P n) fs.toList 0).bind fun ts => if ts.length = P.cellsOf t then some ts else none
    | _ => none
section
variable {P : Program} {W : World} {m : Mem} {H : Type} {enc : TypeId × Value → H} {sp : Nat → Bool}
theorem open_fitB (him : ∀ b o u, W.cell? ⟨b, o, none⟩ = some u → m.im b o = some u) : ∀ n t ts fuel cs x, descB P n t = some ts → DataW.trod enc P W 0 sp true fuel t cs = some x → (∀ k ∈ x.1.weights P t, k ≤ reachBytes) →
    ∃ avs, FitLB ts avs ∧ avs.length = cs.length ∧ CL m avs (fun i => cs[i]?)
  | 0, t, ts, fuel, cs, x, h, _, _ => by simp [descB] at h
  | n + 1, t, ts, fuel, cs, x, h, hx, hwt => by
    unfold descB at h
    split at h
    · rename_i k hu
      injection h with h; subst h
      obtain ⟨z, rfl, _, hw⟩ := DataW.trod_int hu hx
      exact ⟨[.int k z], ⟨_, _, rfl, ⟨z, rfl, hw⟩, rfl⟩, rfl, by simp [CL, C]⟩
    · rename_i hu
      injection h with h; subst h
      obtain ⟨z, rfl, _⟩ := DataW.trod_bool hu hx
      exact ⟨[.bool z], ⟨_, _, rfl, ⟨z, rfl⟩, rfl⟩, rfl, by simp [CL, C]⟩
    · rename_i hu
      injection h with h; subst h
      obtain ⟨z, rfl, hxe, hz⟩ := DataW.trod_string hu hx
      have hzz : z.data.toList.length ≤ reachBytes := by
        subst hxe
        exact hwt _ (by simp [DataW.weights])
      exact ⟨[.str z.data.toList], ⟨_, _, rfl, ⟨_, rfl, hzz⟩, rfl⟩, rfl, by simp [CL, C]⟩
    · rename_i e hu
      simp only [Option.bind_eq_some_iff] at h
      obtain ⟨es, he, h⟩ := h
      split at h
      · rename_i hc
        obtain ⟨hc1, hc2, hc3⟩ := hc
        injection h with h; subst h
        rcases DataW.trod_slice hu hx with ⟨rfl, _⟩ | ⟨a, len, cap, elems, rest, n', _, rfl, hxe, _, hlc, hcm, hel, hget, _⟩
        · refine ⟨[.sl es.length []], ⟨_, _, rfl, ⟨[], rfl, Nat.zero_le _, by simp⟩, rfl⟩, rfl, ?_⟩
          simp only [CL, C]
          exact ⟨⟨_, rfl, by simp, none, 0, 0, rfl, by simp, fun _ => rfl, Nat.le_refl _, fun h => absurd rfl h⟩, trivial⟩
        · have hwE : ∀ q ∈ elems, ∀ k ∈ q.1.weights P e, k ≤ reachBytes := by
            intro q hq k hk
            subst hxe
            refine hwt k ?_
            simp only [DataW.weights, hu, List.mem_cons, List.mem_append]
            exact .inr (.inl (weightsAll_mem hk (List.mem_map_of_mem hq)))
          have hlen : len ≤ reachBytes := by
            subst hxe
            have h1 := hwt ((elems.length + rest.length) * P.bytesOf e) (by simp [DataW.weights, hu])
            have h2 : elems.length + rest.length ≤ (elems.length + rest.length) * P.bytesOf e := Nat.le_mul_of_pos_right _ hc3
            omega
          have elem : ∀ i, i < len → ∃ ci xi, W.cells? 0 (a.add (i * es.length)) es.length = some ci ∧ DataW.trod enc P W 0 sp true n' e ci = some xi ∧ ∀ k ∈ xi.1.weights P e, k ≤ reachBytes := by
            intro i hi
            have := hget i hi
            rw [List.getElem?_eq_getElem (by omega), Option.bind_eq_some_iff] at this
            obtain ⟨ci, h1, h2⟩ := this
            exact ⟨ci, _, by rw [hc1]; exact h1, h2, hwE _ (List.getElem_mem _)⟩
          have key : ∀ k, k ≤ len → ∃ rows : List (List AV), rows.length = k ∧ (∀ r ∈ rows, FitLB es r) ∧ rows.flatten.length = k * es.length ∧ (0 < k → ∃ b o, a = ⟨b, o, none⟩) ∧ CL m rows.flatten (fun i => m.im a.block (a.off + i)) := by
            intro k
            induction k with
            | zero => intro _; exact ⟨[], rfl, by simp, by simp, by omega, by simp [CL]⟩
            | succ k ih =>
              intro hk
              obtain ⟨rows, h1, h2, h3, h4, h5⟩ := ih (by omega)
              obtain ⟨ci, xi, h6, h7, hwx⟩ := elem k (by omega)
              obtain ⟨avs, h8, h9, h10⟩ := open_fitB him n e es n' ci xi he h7 hwx
              obtain ⟨h11, h12⟩ := cells_at h6
              have hspot : a.spot = none := by
                obtain ⟨ci0, xi0, q1, q2, _⟩ := elem 0 (by omega)
                obtain ⟨q3, q4⟩ := cells_at q1
                have q5 := q4 0 (ci0[0]'(by omega)) (List.getElem?_eq_getElem _)
                simp only [Nat.zero_mul, Addr.add, if_true] at q5
                unfold World.cell? at q5
                split at q5
                · split at q5
                  · cases q5
                  · rename_i hs; simpa using hs
                · cases q5
              refine ⟨rows ++ [avs], by simp [h1], ?_, by simp [h3, h9, h11, Nat.add_mul], fun _ => ⟨a.block, a.off, by cases a; simp at hspot; simp [hspot]⟩, ?_⟩
              · intro r hr
                rcases List.mem_append.1 hr with hr | hr
                · exact h2 r hr
                · simp at hr; subst hr; exact h8
              · rw [List.flatten_append, List.flatten_cons, List.flatten_nil, List.append_nil]
                refine CL_app h5 (CL_ext (fun i u hu => ?_) h10)
                have hu' : ci[i]? = some u := hu
                have := h12 i u hu'
                refine him _ _ _ ?_
                rw [← this, h3]
                congr 1
                cases a with
                | mk ab ao asp =>
                  simp only at hspot
                  subst hspot
                  simp only [Addr.add]
                  by_cases z1 : k * es.length = 0
                  · by_cases z2 : i = 0
                    · simp [z1, z2]
                    · simp [z1, z2]
                  · by_cases z2 : i = 0
                    · simp [z1, z2]
                    · simp [z1, z2, Nat.add_assoc]
          obtain ⟨rows, h1, h2, h3, h4, h5⟩ := key len (Nat.le_refl _)
          refine ⟨[.sl es.length rows.flatten], ⟨_, _, rfl, ⟨rows, rfl, by omega, h2⟩, rfl⟩, rfl, ?_⟩
          simp only [CL, C]
          refine ⟨⟨_, rfl, ?_, some a, len, cap, rfl, h3, fun hz => ?_, hlc, fun hz => ?_⟩, trivial⟩
          · rw [List.all_eq_true]
            intro v hv
            obtain ⟨r, hr, hvr⟩ := List.mem_flatten.1 hv
            have := FitL_okcB (h2 r hr)
            rw [List.all_eq_true] at this
            exact this v hvr
          · rw [hz] at h3
            rcases Nat.mul_eq_zero.1 h3.symm with h | h
            · exact h
            · omega
          · have : 0 < len := by
              rcases Nat.eq_zero_or_pos len with h | h
              · subst h
                have : rows = [] := List.eq_nil_of_length_eq_zero h1
                subst this
                exact absurd rfl hz
              · exact h
            obtain ⟨b, o, rfl⟩ := h4 this
            exact ⟨b, o, rfl, h5⟩
      · cases h
    · rename_i fs hu
      simp only [Option.bind_eq_some_iff] at h
      obtain ⟨ts', hd, h⟩ := h
      split at h
      · rename_i hl
        injection h with h; subst h
        obtain ⟨xs, n', _, hxe, hcs, hxl, hget⟩ := DataW.trod_struct hu hx
        have hall : ∀ f ∈ fs.toList, ∃ y, DataW.trod enc P W 0 sp true n' f.type ((cs.drop f.offset).take (P.cellsOf f.type)) = some y ∧ ∀ k ∈ y.1.weights P f.type, k ≤ reachBytes := by
          intro f hf
          obtain ⟨i, hi, rfl⟩ := List.getElem_of_mem hf
          have h1 := hget i (fs.toList[i]) (by simp at hi ⊢)
          rw [h1]
          have : i < xs.length := by rw [hxl]; simpa using hi
          refine ⟨_, List.getElem?_eq_getElem this, fun k hk => hwt k ?_⟩
          subst hxe
          simp only [DataW.weights, hu]
          exact DataW.weights_mem_each (j := i) (t := fs.toList[i].type) (d := (xs[i]).1) (by rw [List.getElem?_map, List.getElem?_eq_getElem hi]; rfl) (by rw [List.getElem?_map, List.getElem?_eq_getElem this]; rfl) k hk
        have key : ∀ (l : List Field) off us, descFB P (descB P n) l off = some us → (∀ f ∈ l, f ∈ fs.toList) → ∃ avs, FitLB us avs ∧ CL m avs (fun i => cs[off + i]?) := by
          intro l
          induction l with
          | nil => intro off us h _; simp only [descFB] at h; injection h with h; subst h; exact ⟨[], rfl, by simp [CL]⟩
          | cons f l ih =>
            intro off us h hin
            simp only [descFB] at h
            split at h
            · rename_i hoff
              simp only [Option.bind_eq_some_iff] at h
              obtain ⟨a, ha, h⟩ := h
              split at h
              · rename_i hal
                simp only [Option.map_eq_some_iff] at h
                obtain ⟨vs, hv, rfl⟩ := h
                obtain ⟨y, hy, hwy⟩ := hall f (hin f (by simp))
                obtain ⟨a1, q1, q2, q3⟩ := open_fitB him n f.type a n' _ y ha hy hwy
                obtain ⟨a2, q4, q5⟩ := ih _ vs hv (fun g hg => hin g (by simp [hg]))
                refine ⟨a1 ++ a2, FitL_appendB q1 q4, CL_app (CL_ext (fun i u hu => ?_) q3) ?_⟩
                · simp only [List.getElem?_take, List.getElem?_drop] at hu
                  split at hu
                  · rw [hoff] at hu; exact hu
                  · cases hu
                · rw [FitL_lenB q1]
                  simpa [Nat.add_assoc] using q5
              · cases h
            · cases h
        obtain ⟨avs, h1, h2⟩ := key fs.toList 0 ts' hd (fun _ h => h)
        exact ⟨avs, h1, by rw [FitL_lenB h1, hl, hcs], by simpa using h2⟩
      · cases h
    · cases h
theorem open_oneB {fid : FuncId → Option Nat} {r : Reach} {b0 : Nat} {n : Nat} {t : TypeId} {ty : Ty} {v : Value} {d : DataW H} {p : List MemPlace} (hd : descB P n t = some [ty]) (hns : ∀ fs, P.underlying t ≠ some (.struct fs)) (hv : Value.okWide P W r b0 t v) (h : DataW.Trod enc P W 0 sp true t v d p) (hwt : ∀ k ∈ d.weights P t, k ≤ reachBytes) :
    ∃ av, FitB ty av ∧ C (mem0 P fid W) av v := by
  obtain ⟨fuel, hf⟩ := h
  obtain ⟨avs, h1, h2, h3⟩ := open_fitB (m := mem0 P fid W) (fun _ _ _ h => h) n t _ fuel _ _ hd hf hwt
  simp only [FitLB] at h1
  obtain ⟨av, us, rfl, h1, rfl⟩ := h1
  refine ⟨av, h1, ?_⟩
  simp only [CL] at h3
  obtain ⟨⟨u, h4, h5⟩, _⟩ := h3
  have : v.cells.toList = [v] := by
    cases n with
    | zero => simp [descB] at hd
    | succ n =>
      unfold descB at hd
      split at hd
      · rename_i k hu; obtain ⟨z, rfl⟩ := okWide_int hu hv; rfl
      · rename_i hu; obtain ⟨z, rfl⟩ := okWide_bool hu hv; rfl
      · rename_i hu; obtain ⟨z, rfl⟩ := okWide_string hu hv; rfl
      · rename_i e hu; obtain ⟨a, b, c, rfl⟩ := okWide_slice hu hv; rfl
      · rename_i fs hu; exact absurd hu (hns fs)
      · cases hd
  rw [this] at h4
  simp at h4
  subst h4
  exact h5
end
theorem fitB_int {v : AV} (h : FitB (.int .i64) v) : ∃ n : Int, v = .int .i64 n ∧ -9223372036854775808 ≤ n ∧ n ≤ 9223372036854775807 := by
  obtain ⟨n, rfl, hw⟩ := h
  exact fit_int (v := .int .i64 n) ⟨n, rfl, hw⟩
theorem fitB_ints {v : AV} (h : FitB (.sl 1 [.int .i64]) v) : ∃ l : List Int, v = .sl 1 (ints l) ∧ l.length ≤ 140737488351232 ∧ ∀ n ∈ l, -9223372036854775808 ≤ n ∧ n ≤ 9223372036854775807 := by
  obtain ⟨rows, rfl, hl, hr⟩ := h
  have : ∃ l : List Int, rows.flatten = ints l ∧ l.length = rows.length ∧ ∀ n ∈ l, -9223372036854775808 ≤ n ∧ n ≤ 9223372036854775807 := by
    clear hl
    induction rows with
    | nil => exact ⟨[], rfl, rfl, by simp⟩
    | cons r rows ih =>
      obtain ⟨l, h1, h2, h3⟩ := ih (fun r hr' => hr r (by simp [hr']))
      have h4 := hr r (by simp)
      simp only [FitLB] at h4
      obtain ⟨v, us, rfl, h5, rfl⟩ := h4
      obtain ⟨n, rfl, h6⟩ := fitB_int h5
      refine ⟨n :: l, by simp [h1, ints_cons], by simp [h2], fun x hx => ?_⟩
      rcases List.mem_cons.1 hx with rfl | hx
      · exact h6
      · exact h3 x hx
  obtain ⟨l, h1, h2, h3⟩ := this
  exact ⟨l, by rw [h1], by rw [h2]; exact hl, h3⟩
end Go.Proofs.Ytofomaiaobfkhaa
