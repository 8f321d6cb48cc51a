/- Rows of rows of numbers. -/
import Derived.Test.YtofomaiaobfkhaaT06
import Derived.Test.YtofomaiaobfkhaaHu
import Derived.Test.YtofomaiaobfkhaaLa
import Derived.Test.YtofomaiaobfkhaaRq
namespace Go.Proofs.Ytofomaiaobfkhaa
set_option linter.unusedSimpArgs false
set_option linter.unusedVariables false
set_option maxHeartbeats 4000000
set_option maxRecDepth 100000
def rwV (l : List Int) : AV := .vec 1 (ints l)
def rwL (l : List Int) : AV := .sl 1 (ints l)
def owV (l : List (List Int)) : List AV := l.map rwV
def owS (l : List (List Int)) : List AV := l.map rwL
theorem owV_len (l : List (List Int)) : (owV l).length = l.length := by simp [owV]
theorem owS_len (l : List (List Int)) : (owS l).length = l.length := by simp [owS]
theorem owV_noid' (l : List (List Int)) : allL pnoid (owV l) = true := by
  induction l with
  | nil => rfl
  | cons a l ih => simp only [owV, List.map_cons, allL] at ih ⊢; rw [ih]; simp [rwV, AV.allv, pnoid, ints_noid', allL]
theorem owS_noid' (l : List (List Int)) : allL pnoid (owS l) = true := by
  induction l with
  | nil => rfl
  | cons a l ih => simp only [owS, List.map_cons, allL] at ih ⊢; rw [ih]; simp [rwL, AV.allv, pnoid, ints_noid', allL]
theorem owV_frz' (l : List (List Int)) : mapL frz1 (owV l) = owS l := by
  induction l with
  | nil => rfl
  | cons a l ih => simp only [owV, owS, List.map_cons, mapL] at ih ⊢; rw [ih]; simp [rwV, rwL, AV.mapv, frz1, ints_frz']
theorem owV_okc (l : List (List Int)) : (owV l).all AV.okc = true := by
  induction l with
  | nil => rfl
  | cons a l ih => simp only [owV, List.map_cons, List.all_cons] at ih ⊢; rw [ih]; rfl
theorem owS_okc (l : List (List Int)) : (owS l).all AV.okc = true := by
  induction l with
  | nil => rfl
  | cons a l ih => simp only [owS, List.map_cons, List.all_cons] at ih ⊢; rw [ih]; rfl
theorem owV_ids (l : List (List Int)) : idsL (owV l) = [] := noidL_ids _ (owV_noid' l)
theorem owV_idlt' (n : Nat) (l : List (List Int)) : allL (pidlt n) (owV l) = true := idltL_noid _ (owV_noid' l)
theorem owV_ren' (f : Nat → Nat) (l : List (List Int)) : mapL (ren1 f) (owV l) = owV l := renL_noid _ (owV_noid' l)
theorem owS_ids (l : List (List Int)) : idsL (owS l) = [] := noidL_ids _ (owS_noid' l)
theorem owS_idlt' (n : Nat) (l : List (List Int)) : allL (pidlt n) (owS l) = true := idltL_noid _ (owS_noid' l)
theorem owS_ren' (f : Nat → Nat) (l : List (List Int)) : mapL (ren1 f) (owS l) = owS l := renL_noid _ (owS_noid' l)
theorem owS_at {l : List (List Int)} {i : Nat} (h : i < l.length) : rdc ((owS l).drop i) none = some (.sl 1 (ints (l.getD i []))) := by
  rw [owS, ← List.map_drop, List.drop_eq_getElem_cons h, List.getD_eq_getElem?_getD, List.getElem?_eq_getElem h]; rfl
theorem owV_snoc (l : List (List Int)) (x : List Int) : owV l ++ [.vec 1 (ints x)] = owV (l ++ [x]) := by simp [owV, rwV]
theorem owV_pk (n : Nat) (hp : List Blk) : ∀ R : List (List Int), pkL n hp (owV R) = some (owV R, hp)
  | [] => rfl
  | r :: R => by
    have ih := owV_pk n hp R
    show pkL n hp (.vec 1 (ints r) :: owV R) = some (.vec 1 (ints r) :: owV R, hp)
    simp only [pkL, pk, Option.bind_some, ih, Option.map_some]
attribute [go_sem] owV_len owS_len owV_noid' owS_noid' owV_frz' owV_okc owS_okc owV_ids owV_idlt' owV_ren' owS_ids owS_idlt' owS_ren'
theorem owS_noinl' (l : List (List Int)) : allL pnoinl (owS l) = true := by
  induction l with
  | nil => rfl
  | cons a l ih => simp only [owS, List.map_cons, allL] at ih ⊢; rw [ih]; simp [rwL, AV.allv, pnoinl, ints_noinl', allL]
theorem owS_fz (hp : List Blk) (l : List (List Int)) : fzL hp (owS l) = some (owS l) := by
  induction l with
  | nil => rfl
  | cons a l ih =>
    show fzL hp (.sl 1 (ints a) :: owS l) = some (.sl 1 (ints a) :: owS l)
    simp only [fzL, fz, ints_noid, if_true, Option.bind_some, ih, Option.map_some]
theorem owS_frz' (l : List (List Int)) : mapL frz1 (owS l) = owS l := by
  induction l with
  | nil => rfl
  | cons a l ih => simp only [owS, List.map_cons, mapL] at ih ⊢; rw [ih]; simp [rwL, AV.mapv, frz1, ints_frz']
theorem owV_noimm' (l : List (List Int)) : allL pnoimm (owV l) = true := by
  induction l with
  | nil => rfl
  | cons a l ih => simp only [owV, List.map_cons, allL] at ih ⊢; rw [ih]; simp [rwV, AV.allv, pnoimm, allL, ints_noimm]
attribute [go_sem] owS_noinl' owS_fz owS_frz' owV_noimm' owV_pk owS_at owV_snoc
theorem lists_at : ∀ (a b : List (List Int)), a.length = b.length → ((∀ i, i < a.length → (a.getD i [] == b.getD i []) = true) ∧ (a == b) = true) ∨ ∃ k, k < a.length ∧ (∀ i, i < k → (a.getD i [] == b.getD i []) = true) ∧ (a.getD k [] == b.getD k []) = false ∧ (a == b) = false
  | [], [], _ => .inl ⟨by simp, rfl⟩
  | [], _ :: _, h => by simp at h
  | _ :: _, [], h => by simp at h
  | x :: a, y :: b, h => by
    by_cases hxy : x = y
    · subst hxy
      rcases lists_at a b (by simpa using h) with ⟨h1, h2⟩ | ⟨k, h1, h2, h3, h4⟩
      · refine .inl ⟨fun i hi => ?_, by simpa using h2⟩
        cases i with | zero => simp | succ i => simpa using h1 i (by simpa using hi)
      · refine .inr ⟨k + 1, by simpa using h1, fun i hi => ?_, by simpa using h3, by simpa using h4⟩
        cases i with | zero => simp | succ i => simpa using h2 i (by omega)
    · exact .inr ⟨0, by simp, by omega, by simpa using hxy, by simp [hxy]⟩
theorem same06_run {a b : List (List Int)} (ha : a.length ≤ 1000000) (hb : b.length ≤ 1000000) (hr : ∀ i, (a.getD i []).length < 1000000) (hs : ∀ i, (b.getD i []).length < 1000000) : runP tab 1121 [.sl 1 (owS a), .sl 1 (owS b)] [] = some (.bool (a == b), []) := by
  refine runP_fn t1121 rfl ?_
  by_cases hl : a.length = b.length
  · simp (config := { maxSteps := 1000000 }) (disch := omega) only [go_sem, ↓reduceIte, Nat.reduceEqDiff, Nat.reduceAdd, Int.reduceToNat, reduceCtorEq, Nat.reduceLeDiff, Nat.reduceSub, Nat.reduceDiv, Nat.reduceMod, Nat.reduceMul, d1121]
    rcases lists_at a b hl with ⟨h1, h2⟩ | ⟨k, h0, h1, h2, h3⟩
    · rw [h2]
      refine Ev_loop0 (fun i => ⟨[(0, .sl 1 (owS a)), (1, .sl 1 (owS b)), (5, .int .i64 (i : Int))], [], 0, [(0, 0, [0, 1, 5], [])]⟩) a.length rfl (fun i hi => ?_) ?_
      · have g := ints_run (hr i) (hs i)
        rw [h1 i hi] at g
        simp (config := { maxSteps := 1000000 }) (disch := omega) only [go_sem, ↓reduceIte, Nat.reduceEqDiff, Nat.reduceAdd, Int.reduceToNat, reduceCtorEq, Nat.reduceLeDiff, Nat.reduceSub, Nat.reduceDiv, Nat.reduceMod, Nat.reduceMul, d1121_b0, g]
      · simp (config := { maxSteps := 1000000 }) (disch := omega) only [go_sem, ↓reduceIte, Nat.reduceEqDiff, Nat.reduceAdd, Int.reduceToNat, reduceCtorEq, Nat.reduceLeDiff, Nat.reduceSub, Nat.reduceDiv, Nat.reduceMod, Nat.reduceMul, d1121_b0]
    · rw [h3]
      refine Ev_loop0 (fun i => ⟨[(0, .sl 1 (owS a)), (1, .sl 1 (owS b)), (5, .int .i64 (i : Int))], [], 0, [(0, 0, [0, 1, 5], [])]⟩) k rfl (fun i hi => ?_) ?_
      · have g := ints_run (hr i) (hs i)
        rw [h1 i hi] at g
        simp (config := { maxSteps := 1000000 }) (disch := omega) only [go_sem, ↓reduceIte, Nat.reduceEqDiff, Nat.reduceAdd, Int.reduceToNat, reduceCtorEq, Nat.reduceLeDiff, Nat.reduceSub, Nat.reduceDiv, Nat.reduceMod, Nat.reduceMul, d1121_b0, g]
      · have g := ints_run (hr k) (hs k)
        rw [h2] at g
        simp (config := { maxSteps := 1000000 }) (disch := omega) only [go_sem, ↓reduceIte, Nat.reduceEqDiff, Nat.reduceAdd, Int.reduceToNat, reduceCtorEq, Nat.reduceLeDiff, Nat.reduceSub, Nat.reduceDiv, Nat.reduceMod, Nat.reduceMul, d1121_b0, g]
  · have h : (a == b) = false := by rw [← Bool.not_eq_true, beq_iff_eq]; rintro rfl; exact hl rfl
    simp (config := { maxSteps := 1000000 }) (disch := omega) only [go_sem, ↓reduceIte, Nat.reduceEqDiff, Nat.reduceAdd, Int.reduceToNat, reduceCtorEq, Nat.reduceLeDiff, Nat.reduceSub, Nat.reduceDiv, Nat.reduceMod, Nat.reduceMul, d1121, h]
end Go.Proofs.Ytofomaiaobfkhaa
