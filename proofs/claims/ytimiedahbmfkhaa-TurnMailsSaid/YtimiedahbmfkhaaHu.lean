/- Rows: small functions. -/
import Derived.Test.YtimiedahbmfkhaaT17
import Derived.Test.YtimiedahbmfkhaaDs
namespace Go.Proofs.Ytimiedahbmfkhaa
set_option linter.unusedSimpArgs false
set_option linter.unusedVariables false
set_option maxHeartbeats 4000000
set_option maxRecDepth 100000
theorem ints_at (a b : List Int) (hl : a.length = b.length) : (∀ i, i < a.length → a.getD i 0 = b.getD i 0) ∧ (a == b) = true ∨ ∃ n, n < a.length ∧ (∀ i, i < n → a.getD i 0 = b.getD i 0) ∧ a.getD n 0 ≠ b.getD n 0 ∧ (a == b) = false := by
  induction a generalizing b with
  | nil => cases b with | nil => exact .inl ⟨by simp, rfl⟩ | cons y b => simp at hl
  | cons x a ih => cases b with
    | nil => simp at hl
    | cons y b =>
      by_cases hxy : x = y
      · rcases ih b (by simpa using hl) with ⟨h1, h2⟩ | ⟨n, h1, h2, h3, h4⟩
        · refine .inl ⟨fun i hi => ?_, by simpa [hxy] using h2⟩
          cases i with | zero => simpa using hxy | succ i => simpa using h1 i (by simpa using hi)
        · refine .inr ⟨n + 1, by simpa using h1, fun i hi => ?_, by simpa using h3, by simpa [hxy] using h4⟩
          cases i with | zero => simpa using hxy | succ i => simpa using h2 i (by omega)
      · exact .inr ⟨0, by simp, by omega, by simpa using hxy, by simp [hxy]⟩
theorem ints_run {a b : List Int} (ha : a.length < 1000000) (hb : b.length < 1000000) : runP tab 1016 [.sl 1 (ints a), .sl 1 (ints b)] [] = some (.bool (a == b), []) := by
  refine runP_fn t1016 rfl ?_
  by_cases hl : a.length = b.length
  · simp (config := { maxSteps := 1000000 }) (disch := omega) only [go_sem, ↓reduceIte, Nat.reduceEqDiff, Nat.reduceAdd, Int.reduceToNat, reduceCtorEq, Nat.reduceLeDiff, Nat.reduceSub, Nat.reduceDiv, Nat.reduceMod, Nat.reduceMul, d1016]
    rcases ints_at a b hl with ⟨h1, h2⟩ | ⟨k, h0, h1, h2, h3⟩
    · refine Ev_loop0 (fun i => ⟨[(0, .sl 1 (ints a)), (1, .sl 1 (ints b)), (5, .int .i64 (i : Int))], [], 0, [(0, 0, [0, 1, 5], [])]⟩) a.length rfl (fun i hi => ?_) ?_
      · have := h1 i (by omega)
        simp (config := { maxSteps := 1000000 }) (disch := omega) only [go_sem, ↓reduceIte, Nat.reduceEqDiff, Nat.reduceAdd, Int.reduceToNat, reduceCtorEq, Nat.reduceLeDiff, Nat.reduceSub, Nat.reduceDiv, Nat.reduceMod, Nat.reduceMul, d1016_b0]
      · simp (config := { maxSteps := 1000000 }) (disch := omega) only [go_sem, ↓reduceIte, Nat.reduceEqDiff, Nat.reduceAdd, Int.reduceToNat, reduceCtorEq, Nat.reduceLeDiff, Nat.reduceSub, Nat.reduceDiv, Nat.reduceMod, Nat.reduceMul, d1016_b0, h2]
    · refine Ev_loop0 (fun i => ⟨[(0, .sl 1 (ints a)), (1, .sl 1 (ints b)), (5, .int .i64 (i : Int))], [], 0, [(0, 0, [0, 1, 5], [])]⟩) k rfl (fun i hi => ?_) ?_
      · have := h1 i (by omega)
        simp (config := { maxSteps := 1000000 }) (disch := omega) only [go_sem, ↓reduceIte, Nat.reduceEqDiff, Nat.reduceAdd, Int.reduceToNat, reduceCtorEq, Nat.reduceLeDiff, Nat.reduceSub, Nat.reduceDiv, Nat.reduceMod, Nat.reduceMul, d1016_b0]
      · simp (config := { maxSteps := 1000000 }) (disch := omega) only [go_sem, ↓reduceIte, Nat.reduceEqDiff, Nat.reduceAdd, Int.reduceToNat, reduceCtorEq, Nat.reduceLeDiff, Nat.reduceSub, Nat.reduceDiv, Nat.reduceMod, Nat.reduceMul, d1016_b0, h2, h3]
  · have h : (a == b) = false := by rw [← Bool.not_eq_true, beq_iff_eq]; rintro rfl; exact hl rfl
    simp (config := { maxSteps := 1000000 }) (disch := omega) only [go_sem, ↓reduceIte, Nat.reduceEqDiff, Nat.reduceAdd, Int.reduceToNat, reduceCtorEq, Nat.reduceLeDiff, Nat.reduceSub, Nat.reduceDiv, Nat.reduceMod, Nat.reduceMul, d1016, h]
theorem getD_memI {l : List Int} {i : Nat} (h : i < l.length) : l.getD i 0 ∈ l := by
  rw [List.getD_eq_getElem?_getD, List.getElem?_eq_getElem h]; exact List.getElem_mem _
def mono (l : List Int) : Prop := ∀ v, v + 1 < l.length → gi l v ≤ gi l (v + 1)
end Go.Proofs.Ytimiedahbmfkhaa
namespace Go.Proofs.Ytimiedahbmfkhaa
set_option linter.unusedSimpArgs false
set_option linter.unusedVariables false
set_option maxHeartbeats 4000000
set_option maxRecDepth 100000
structure Lay (off to : List Int) : Prop where
  lo : 2 ≤ off.length
  hi : off.length ≤ 201
  tl : to.length ≤ 2000
  z : gi off 0 = 0
  e : gi off (off.length - 1) = to.length
  mono : ∀ v, v + 1 < off.length → gi off v ≤ gi off (v + 1)
section
variable {off to : List Int}
theorem Lay.oz (H : Lay off to) : oi off 0 = 0 := by rw [oi, H.z]; rfl
theorem Lay.nn (H : Lay off to) {v : Nat} (h : v < off.length) : 0 ≤ gi off v := by rw [← H.z]; exact mono_of H.mono (Nat.zero_le _) h
theorem Lay.le (H : Lay off to) {v : Nat} (h : v < off.length) : gi off v ≤ to.length := by rw [← H.e]; exact mono_of H.mono (by omega) (by omega)
theorem Lay.gn (H : Lay off to) {v : Nat} (h : v < off.length) : gi off v = oi off v := by have := H.nn h; rw [oi]; omega
theorem Lay.ole (H : Lay off to) {v : Nat} (h : v < off.length) : oi off v ≤ to.length := by have := H.le h; have := H.gn h; omega
theorem Lay.oe (H : Lay off to) : oi off (off.length - 1) = to.length := by rw [oi, H.e]; rfl
end
end Go.Proofs.Ytimiedahbmfkhaa
namespace Go.Proofs.Ytimiedahbmfkhaa
set_option linter.unusedSimpArgs false
set_option linter.unusedVariables false
set_option maxHeartbeats 4000000
set_option maxRecDepth 100000
def nx (roff to : List Int) (k : Nat) : List Int := (List.range roff.length).map fun w => gi roff w + cntI to w k
end Go.Proofs.Ytimiedahbmfkhaa
namespace Go.Proofs.Ytimiedahbmfkhaa
set_option linter.unusedSimpArgs false
set_option linter.unusedVariables false
set_option maxHeartbeats 4000000
set_option maxRecDepth 100000
end Go.Proofs.Ytimiedahbmfkhaa
