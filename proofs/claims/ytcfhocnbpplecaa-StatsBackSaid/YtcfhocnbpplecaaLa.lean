import Derived.Test.YtcfhocnbpplecaaKz
import Derived.ProofKit
import Derived.OpenShut
import Derived.ShutString
import Derived.WideShapes
import Derived.Below
namespace Go.Proofs.Ytcfhocnbpplecaa
open Go.RowKit Go.WideShapes Go.ChangeShapes
inductive Ty where
  | int (k : IntKind)
  | bool
  | str
  | sl (sz : Nat) (e : List Ty)
mutual
def Fit : Ty → AV → Prop
  | .int k, v => ∃ n, v = .int k n ∧ (Lit.int k n).wf = true
  | .bool, v => ∃ b, v = .bool b
  | .str, v => ∃ s, v = .str s ∧ s.length ≤ maxLen
  | .sl sz e, v => ∃ rows : List (List AV), v = .sl sz rows.flatten ∧ rows.length ≤ maxLen ∧ ∀ r ∈ rows, FitL e r
def FitL : List Ty → List AV → Prop
  | [], vs => vs = []
  | t :: ts, vs => ∃ v us, vs = v :: us ∧ Fit t v ∧ FitL ts us
end
theorem FitL_len : ∀ {ts : List Ty} {vs : List AV}, FitL ts vs → vs.length = ts.length
  | [], vs, h => by simp only [FitL] at h; subst h; rfl
  | t :: ts, vs, h => by
    simp only [FitL] at h
    obtain ⟨v, us, rfl, _, h⟩ := h
    simp [FitL_len h]
theorem FitL_append : ∀ {ts us : List Ty} {vs ws : List AV}, FitL ts vs → FitL us ws → FitL (ts ++ us) (vs ++ ws)
  | [], us, vs, ws, h, k => by simp only [FitL] at h; subst h; exact k
  | t :: ts, us, vs, ws, h, k => by
    simp only [FitL] at h
    obtain ⟨v, xs, rfl, h1, h⟩ := h
    exact ⟨v, xs ++ ws, rfl, h1, FitL_append h k⟩
mutual
theorem Fit_okc : ∀ {t : Ty} {v : AV}, Fit t v → v.okc = true
  | .int k, v, h => by obtain ⟨n, rfl, _⟩ := h; rfl
  | .bool, v, h => by obtain ⟨n, rfl⟩ := h; rfl
  | .str, v, h => by obtain ⟨n, rfl, _⟩ := h; rfl
  | .sl sz e, v, h => by obtain ⟨n, rfl, _⟩ := h; rfl
end
theorem FitL_okc : ∀ {ts : List Ty} {vs : List AV}, FitL ts vs → vs.all AV.okc = true
  | [], vs, h => by simp only [FitL] at h; subst h; rfl
  | t :: ts, vs, h => by
    simp only [FitL] at h
    obtain ⟨v, us, rfl, h1, h⟩ := h
    simp [Fit_okc h1, FitL_okc h]
def descF (P : Program) (g : TypeId → Option (List Ty)) : List Field → Nat → Option (List Ty)
  | [], _ => some []
  | f :: fs, off => if f.offset = off then (g f.type).bind fun a => if a.length = P.cellsOf f.type then (descF P g fs (off + a.length)).map (a ++ ·) else none else none
def desc (P : Program) : Nat → TypeId → Option (List Ty)
  | 0, _ => none
  | n + 1, t => match P.underlying t with
    | some (.int k) => some [.int k]
    | some .bool => some [.bool]
    | some .string => some [.str]
    | some (.slice e) => (desc P n e).bind fun es => if es.length = P.cellsOf e ∧ 0 < es.length then some [.sl es.length es] else none
    | some (.struct fs) => (descF P (desc P n) fs.toList 0).bind fun ts => if ts.length = P.cellsOf t then some ts else none
    | _ => none
theorem CL_app {m : Mem} {a b : List AV} {g : Nat → Option Value} (h1 : CL m a g) (h2 : CL m b (fun i => g (a.length + i))) : CL m (a ++ b) g := by
  rw [CL_iff] at *
  intro i x hx
  rw [List.getElem?_append] at hx
  split at hx
  · exact h1 i x hx
  · obtain ⟨u, h3, h4⟩ := h2 _ x hx
    exact ⟨u, by rwa [show a.length + (i - a.length) = i by omega] at h3, h4⟩
section
variable {P : Program} {W : World} {m : Mem} {H : Type} {enc : TypeId × Value → H} {sp : Nat → Bool}
theorem cells_at {b : Addr} {n : Nat} {cs : List Value} (h : W.cells? 0 b n = some cs) : cs.length = n ∧ ∀ i u, cs[i]? = some u → W.cell? (b.add i) = some u := by
  unfold World.cells? at h
  rw [if_pos (Nat.zero_le _)] at h
  have hl := mapM_some_length h
  rw [List.length_range] at hl
  refine ⟨hl, fun i u hu => ?_⟩
  have hi : i < n := by rw [← hl]; exact (List.getElem?_eq_some_iff.1 hu).1
  rw [mapM_some_get h i i (by simp [hi]), hu]
theorem open_fit (him : ∀ b o u, W.cell? ⟨b, o, none⟩ = some u → m.im b o = some u) : ∀ n t ts fuel cs x, desc P n t = some ts → DataW.trod enc P W 0 sp true fuel t cs = some x →
    ∃ avs, FitL ts avs ∧ avs.length = cs.length ∧ CL m avs (fun i => cs[i]?)
  | 0, t, ts, fuel, cs, x, h, _ => by simp [desc] at h
  | n + 1, t, ts, fuel, cs, x, h, hx => by
    unfold desc at h
    split at h
    · rename_i k hu
      injection h with h; subst h
      obtain ⟨z, rfl, _, hw⟩ := DataW.trod_int hu hx
      exact ⟨[.int k z], ⟨_, _, rfl, ⟨z, rfl, hw⟩, rfl⟩, rfl, by simp [CL, C]⟩
    · rename_i hu
      injection h with h; subst h
      obtain ⟨z, rfl, _⟩ := DataW.trod_bool hu hx
      exact ⟨[.bool z], ⟨_, _, rfl, ⟨z, rfl⟩, rfl⟩, rfl, by simp [CL, C]⟩
    · rename_i hu
      injection h with h; subst h
      obtain ⟨z, rfl, _, hz⟩ := DataW.trod_string hu hx
      exact ⟨[.str z.data.toList], ⟨_, _, rfl, ⟨_, rfl, by simpa using hz⟩, rfl⟩, rfl, by simp [CL, C]⟩
    · rename_i e hu
      simp only [Option.bind_eq_some_iff] at h
      obtain ⟨es, he, h⟩ := h
      split at h
      · rename_i hc
        obtain ⟨hc1, hc2⟩ := hc
        injection h with h; subst h
        rcases DataW.trod_slice hu hx with ⟨rfl, _⟩ | ⟨a, len, cap, elems, rest, n', _, rfl, _, _, hlc, hcm, hel, hget, _⟩
        · refine ⟨[.sl es.length []], ⟨_, _, rfl, ⟨[], rfl, by simp, by simp⟩, rfl⟩, rfl, ?_⟩
          simp only [CL, C]
          exact ⟨⟨_, rfl, by simp, none, 0, 0, rfl, by simp, fun _ => rfl, Nat.le_refl _, fun h => absurd rfl h⟩, trivial⟩
        · have elem : ∀ i, i < len → ∃ ci xi, W.cells? 0 (a.add (i * es.length)) es.length = some ci ∧ DataW.trod enc P W 0 sp true n' e ci = some xi := by
            intro i hi
            have := hget i hi
            rw [List.getElem?_eq_getElem (by omega), Option.bind_eq_some_iff] at this
            obtain ⟨ci, h1, h2⟩ := this
            exact ⟨ci, _, by rw [hc1]; exact h1, h2⟩
          have key : ∀ k, k ≤ len → ∃ rows : List (List AV), rows.length = k ∧ (∀ r ∈ rows, FitL es r) ∧ rows.flatten.length = k * es.length ∧ (0 < k → ∃ b o, a = ⟨b, o, none⟩) ∧ CL m rows.flatten (fun i => m.im a.block (a.off + i)) := by
            intro k
            induction k with
            | zero => intro _; exact ⟨[], rfl, by simp, by simp, by omega, by simp [CL]⟩
            | succ k ih =>
              intro hk
              obtain ⟨rows, h1, h2, h3, h4, h5⟩ := ih (by omega)
              obtain ⟨ci, xi, h6, h7⟩ := elem k (by omega)
              obtain ⟨avs, h8, h9, h10⟩ := open_fit him n e es n' ci xi he h7
              obtain ⟨h11, h12⟩ := cells_at h6
              have hspot : a.spot = none := by
                obtain ⟨ci0, xi0, q1, q2⟩ := elem 0 (by omega)
                obtain ⟨q3, q4⟩ := cells_at q1
                have q5 := q4 0 (ci0[0]'(by omega)) (List.getElem?_eq_getElem _)
                simp only [Nat.zero_mul, Addr.add, if_true] at q5
                unfold World.cell? at q5
                split at q5
                · split at q5
                  · cases q5
                  · rename_i hs; simpa using hs
                · cases q5
              refine ⟨rows ++ [avs], by simp [h1], ?_, by simp [h3, h9, h11, Nat.add_mul], fun _ => ⟨a.block, a.off, by cases a; simp at hspot; simp [hspot]⟩, ?_⟩
              · intro r hr
                rcases List.mem_append.1 hr with hr | hr
                · exact h2 r hr
                · simp at hr; subst hr; exact h8
              · rw [List.flatten_append, List.flatten_cons, List.flatten_nil, List.append_nil]
                refine CL_app h5 (CL_ext (fun i u hu => ?_) h10)
                have hu' : ci[i]? = some u := hu
                have := h12 i u hu'
                refine him _ _ _ ?_
                rw [← this, h3]
                congr 1
                cases a with
                | mk ab ao asp =>
                  simp only at hspot
                  subst hspot
                  simp only [Addr.add]
                  by_cases z1 : k * es.length = 0
                  · by_cases z2 : i = 0
                    · simp [z1, z2]
                    · simp [z1, z2]
                  · by_cases z2 : i = 0
                    · simp [z1, z2]
                    · simp [z1, z2, Nat.add_assoc]
          obtain ⟨rows, h1, h2, h3, h4, h5⟩ := key len (Nat.le_refl _)
          refine ⟨[.sl es.length rows.flatten], ⟨_, _, rfl, ⟨rows, rfl, by omega, h2⟩, rfl⟩, rfl, ?_⟩
          simp only [CL, C]
          refine ⟨⟨_, rfl, ?_, some a, len, cap, rfl, h3, fun hz => ?_, hlc, fun hz => ?_⟩, trivial⟩
          · rw [List.all_eq_true]
            intro v hv
            obtain ⟨r, hr, hvr⟩ := List.mem_flatten.1 hv
            have := FitL_okc (h2 r hr)
            rw [List.all_eq_true] at this
            exact this v hvr
          · rw [hz] at h3
            rcases Nat.mul_eq_zero.1 h3.symm with h | h
            · exact h
            · omega
          · have : 0 < len := by
              rcases Nat.eq_zero_or_pos len with h | h
              · subst h
                have : rows = [] := List.eq_nil_of_length_eq_zero h1
                subst this
                exact absurd rfl hz
              · exact h
            obtain ⟨b, o, rfl⟩ := h4 this
            exact ⟨b, o, rfl, h5⟩
      · cases h
    · rename_i fs hu
      simp only [Option.bind_eq_some_iff] at h
      obtain ⟨ts', hd, h⟩ := h
      split at h
      · rename_i hl
        injection h with h; subst h
        obtain ⟨xs, n', _, _, hcs, hxl, hget⟩ := DataW.trod_struct hu hx
        have hall : ∀ f ∈ fs.toList, ∃ y, DataW.trod enc P W 0 sp true n' f.type ((cs.drop f.offset).take (P.cellsOf f.type)) = some y := by
          intro f hf
          obtain ⟨i, hi, rfl⟩ := List.getElem_of_mem hf
          have h1 := hget i (fs.toList[i]) (by simp at hi ⊢)
          rw [h1]
          have : i < xs.length := by rw [hxl]; simpa using hi
          exact ⟨_, List.getElem?_eq_getElem this⟩
        have key : ∀ (l : List Field) off us, descF P (desc P n) l off = some us → (∀ f ∈ l, f ∈ fs.toList) → ∃ avs, FitL us avs ∧ CL m avs (fun i => cs[off + i]?) := by
          intro l
          induction l with
          | nil => intro off us h _; simp only [descF] at h; injection h with h; subst h; exact ⟨[], rfl, by simp [CL]⟩
          | cons f l ih =>
            intro off us h hin
            simp only [descF] at h
            split at h
            · rename_i hoff
              simp only [Option.bind_eq_some_iff] at h
              obtain ⟨a, ha, h⟩ := h
              split at h
              · rename_i hal
                simp only [Option.map_eq_some_iff] at h
                obtain ⟨vs, hv, rfl⟩ := h
                obtain ⟨y, hy⟩ := hall f (hin f (by simp))
                obtain ⟨a1, q1, q2, q3⟩ := open_fit him n f.type a n' _ y ha hy
                obtain ⟨a2, q4, q5⟩ := ih _ vs hv (fun g hg => hin g (by simp [hg]))
                refine ⟨a1 ++ a2, FitL_append q1 q4, CL_app (CL_ext (fun i u hu => ?_) q3) ?_⟩
                · simp only [List.getElem?_take, List.getElem?_drop] at hu
                  split at hu
                  · rw [hoff] at hu; exact hu
                  · cases hu
                · rw [FitL_len q1]
                  simpa [Nat.add_assoc] using q5
              · cases h
            · cases h
        obtain ⟨avs, h1, h2⟩ := key fs.toList 0 ts' hd (fun _ h => h)
        exact ⟨avs, h1, by rw [FitL_len h1, hl, hcs], by simpa using h2⟩
      · cases h
    · cases h
def mem0 (P : Program) (fid : FuncId → Option Nat) (W : World) : Mem := ⟨P, fid, fun b o => W.cell? ⟨b, o, none⟩, [], fun _ => []⟩
theorem hinv0 (fid : FuncId → Option Nat) : HInv (fun g => g < W.heap.size) W (mem0 P fid W) [] W [] :=
  ⟨rfl, rfl, rfl, Nat.le_refl _, fun g h => ⟨h, rfl⟩, rfl, fun _ _ _ h => h, fun id b e h => by simp at h, fun id g h => by simp [mem0] at h, fun _ => by simp [mem0], fun i j g h => by simp [mem0] at h, fun _ _ => rfl, fun g h => by simp at h, by simp, fun id g h => by simp [mem0] at h⟩
theorem law_calls {fid : FuncId → Option Nat} {T : Nat → Option Entry} (G : Good P fid T) {f : FuncId} {k : Nat} (hf : fid f = some k) {as : List AV} (hr : runP T k as [] = some (.bool true, [])) {args : Array Value} (hC : CL (mem0 P fid W) as (fun i => args[i]?)) (hs : args.size = as.length) :
    Calls P f args W fun e W' => e = .returned (.bool true) ∧ Below W.heap.size W W' := by
  have := run_ok G hf hr _ W (mem0 P fid W) W args rfl rfl (hinv0 fid) hC hs
  refine (callsIn_wide.1 this).mono ?_
  rintro e W' ⟨u, m', fl, rfl, _, _, HH, hR⟩
  simp only [R, C] at hR
  exact ⟨by rw [hR.2], ⟨HH.os, HH.tape, HH.output, HH.size, fun g hg => (HH.fix g hg).2⟩⟩
theorem open_one {fid : FuncId → Option Nat} {r : Reach} {b0 : Nat} {n : Nat} {t : TypeId} {ty : Ty} {v : Value} {d : DataW H} {p : List MemPlace} (hd : desc P n t = some [ty]) (hns : ∀ fs, P.underlying t ≠ some (.struct fs)) (hv : Value.okWide P W r b0 t v) (h : DataW.Trod enc P W 0 sp true t v d p) :
    ∃ av, Fit ty av ∧ C (mem0 P fid W) av v := by
  obtain ⟨fuel, hf⟩ := h
  obtain ⟨avs, h1, h2, h3⟩ := open_fit (m := mem0 P fid W) (fun _ _ _ h => h) n t _ fuel _ _ hd hf
  simp only [FitL] at h1
  obtain ⟨av, us, rfl, h1, rfl⟩ := h1
  refine ⟨av, h1, ?_⟩
  simp only [CL] at h3
  obtain ⟨⟨u, h4, h5⟩, _⟩ := h3
  have : v.cells.toList = [v] := by
    cases n with
    | zero => simp [desc] at hd
    | succ n =>
      unfold desc at hd
      split at hd
      · rename_i k hu; obtain ⟨z, rfl⟩ := okWide_int hu hv; rfl
      · rename_i hu; obtain ⟨z, rfl⟩ := okWide_bool hu hv; rfl
      · rename_i hu; obtain ⟨z, rfl⟩ := okWide_string hu hv; rfl
      · rename_i e hu; obtain ⟨a, b, c, rfl⟩ := okWide_slice hu hv; rfl
      · rename_i fs hu; exact absurd hu (hns fs)
      · cases hd
  rw [this] at h4
  simp at h4
  subst h4
  exact h5
end
theorem fit_int {v : AV} (h : Fit (.int .i64) v) : ∃ n : Int, v = .int .i64 n ∧ -9223372036854775808 ≤ n ∧ n ≤ 9223372036854775807 := by
  obtain ⟨n, rfl, hw⟩ := h
  refine ⟨n, rfl, ?_⟩
  simp only [Lit.wf, Bool.and_eq_true, decide_eq_true_eq] at hw
  have h1 : IntKind.i64.min = -9223372036854775808 := rfl
  have h2 : IntKind.i64.max = 9223372036854775807 := rfl
  rw [h1, h2] at hw
  exact hw
end Go.Proofs.Ytcfhocnbpplecaa
