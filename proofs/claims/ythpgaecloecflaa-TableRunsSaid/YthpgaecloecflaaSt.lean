/- Keys in order. -/
import Derived.Test.YthpgaecloecflaaTb
namespace Go.Proofs.Ythpgaecloecflaa
set_option linter.unusedSimpArgs false
set_option linter.unusedVariables false
set_option maxHeartbeats 4000000
set_option maxRecDepth 100000
open Go.Sort (size_swp)
def ltT (a b : Ky) : Bool := decide (a.s < b.s ∨ (a.s = b.s ∧ (a.d < b.d ∨ (a.d = b.d ∧ a.v < b.v))))
theorem ordrT : Ordr ltT := by
  refine ⟨fun x => by simp [ltT], fun x y z h1 h2 => ?_, fun x y h1 h2 => ?_⟩
  · simp only [ltT, decide_eq_true_eq] at *; omega
  · simp only [ltT, decide_eq_false_iff_not] at *
    obtain ⟨a, b, c⟩ := x
    obtain ⟨d, e, f⟩ := y
    simp only [Ky.mk.injEq] at *
    omega
def cmT (a b : Int) : Int := if a < b then -1 else if b < a then 1 else 0
theorem compare_run {a b : Int} : runP tab 1061 [.int .i64 a, .int .i64 b] [] = some (.int .i64 (cmT a b), []) := by
  have g : ∀ x : Int, runP tab 1072 [.int .i64 x] [] = some (.bool false, []) := fun x => by
    refine runP_fn t1072 rfl ?_
    simp (config := { maxSteps := 1000000 }) (disch := omega) only [go_sem, ↓reduceIte, Nat.reduceEqDiff, Nat.reduceAdd, Int.reduceToNat, reduceCtorEq, Nat.reduceLeDiff, Nat.reduceSub, Nat.reduceDiv, Nat.reduceMod, Nat.reduceMul, d1072]
  refine runP_fn t1061 rfl ?_
  unfold cmT
  by_cases h1 : a < b
  · simp (config := { maxSteps := 1000000 }) (disch := omega) only [go_sem, ↓reduceIte, Nat.reduceEqDiff, Nat.reduceAdd, Int.reduceToNat, reduceCtorEq, Nat.reduceLeDiff, Nat.reduceSub, Nat.reduceDiv, Nat.reduceMod, Nat.reduceMul, d1061, g]
  · by_cases h2 : b < a
    · simp (config := { maxSteps := 1000000 }) (disch := omega) only [go_sem, ↓reduceIte, Nat.reduceEqDiff, Nat.reduceAdd, Int.reduceToNat, reduceCtorEq, Nat.reduceLeDiff, Nat.reduceSub, Nat.reduceDiv, Nat.reduceMod, Nat.reduceMul, d1061, g]
    · simp (config := { maxSteps := 1000000 }) (disch := omega) only [go_sem, ↓reduceIte, Nat.reduceEqDiff, Nat.reduceAdd, Int.reduceToNat, reduceCtorEq, Nat.reduceLeDiff, Nat.reduceSub, Nat.reduceDiv, Nat.reduceMod, Nat.reduceMul, d1061, g]
def ordT (a b : Ky) : Int := if cmT a.s b.s = 0 then (if cmT a.d b.d = 0 then cmT a.v b.v else cmT a.d b.d) else cmT a.s b.s
theorem or3_run {a b c : Int} : runP tab 1060 [.sl 1 [.int .i64 a, .int .i64 b, .int .i64 c]] [] = some (.int .i64 (if a = 0 then (if b = 0 then c else b) else a), []) := by
  refine runP_fn t1060 rfl ?_
  simp (config := { maxSteps := 1000000 }) (disch := omega) only [go_sem, ↓reduceIte, Nat.reduceEqDiff, Nat.reduceAdd, Int.reduceToNat, reduceCtorEq, Nat.reduceLeDiff, Nat.reduceSub, Nat.reduceDiv, Nat.reduceMod, Nat.reduceMul, d1060]
  by_cases h : a = 0
  · subst h
    refine Ev_step (st' := ⟨[(3, .int .i64 0), (6, .sl 1 [.int .i64 0, .int .i64 b, .int .i64 c]), (7, .int .i64 3), (8, .int .i64 1)], [], 0, [(0, 0, [3, 6, 7, 8], [])]⟩) (by simp (config := { maxSteps := 1000000 }) (disch := omega) only [go_sem, ↓reduceIte, Nat.reduceEqDiff, Nat.reduceAdd, Int.reduceToNat, reduceCtorEq, Nat.reduceLeDiff, Nat.reduceSub, Nat.reduceDiv, Nat.reduceMod, Nat.reduceMul, d1060_b0, Int.reduceAdd]) ?_
    by_cases h2 : b = 0
    · subst h2
      refine Ev_step (st' := ⟨[(3, .int .i64 0), (6, .sl 1 [.int .i64 0, .int .i64 0, .int .i64 c]), (7, .int .i64 3), (8, .int .i64 2)], [], 0, [(0, 0, [3, 6, 7, 8], [])]⟩) (by simp (config := { maxSteps := 1000000 }) (disch := omega) only [go_sem, ↓reduceIte, Nat.reduceEqDiff, Nat.reduceAdd, Int.reduceToNat, reduceCtorEq, Nat.reduceLeDiff, Nat.reduceSub, Nat.reduceDiv, Nat.reduceMod, Nat.reduceMul, d1060_b0, Int.reduceAdd]) ?_
      by_cases h3 : c = 0
      · subst h3
        refine Ev_step (st' := ⟨[(3, .int .i64 0), (6, .sl 1 [.int .i64 0, .int .i64 0, .int .i64 0]), (7, .int .i64 3), (8, .int .i64 3)], [], 0, [(0, 0, [3, 6, 7, 8], [])]⟩) (by simp (config := { maxSteps := 1000000 }) (disch := omega) only [go_sem, ↓reduceIte, Nat.reduceEqDiff, Nat.reduceAdd, Int.reduceToNat, reduceCtorEq, Nat.reduceLeDiff, Nat.reduceSub, Nat.reduceDiv, Nat.reduceMod, Nat.reduceMul, d1060_b0, Int.reduceAdd]) ?_
        refine Ev_stop ?_
        simp (config := { maxSteps := 1000000 }) (disch := omega) only [go_sem, ↓reduceIte, Nat.reduceEqDiff, Nat.reduceAdd, Int.reduceToNat, reduceCtorEq, Nat.reduceLeDiff, Nat.reduceSub, Nat.reduceDiv, Nat.reduceMod, Nat.reduceMul, d1060_b0, if_true]
      · refine Ev_stop ?_
        simp (config := { maxSteps := 1000000 }) (disch := omega) only [go_sem, ↓reduceIte, Nat.reduceEqDiff, Nat.reduceAdd, Int.reduceToNat, reduceCtorEq, Nat.reduceLeDiff, Nat.reduceSub, Nat.reduceDiv, Nat.reduceMod, Nat.reduceMul, d1060_b0, h3, if_true]
    · refine Ev_stop ?_
      simp (config := { maxSteps := 1000000 }) (disch := omega) only [go_sem, ↓reduceIte, Nat.reduceEqDiff, Nat.reduceAdd, Int.reduceToNat, reduceCtorEq, Nat.reduceLeDiff, Nat.reduceSub, Nat.reduceDiv, Nat.reduceMod, Nat.reduceMul, d1060_b0, h2, if_true, if_false]
  · refine Ev_stop ?_
    simp (config := { maxSteps := 1000000 }) (disch := omega) only [go_sem, ↓reduceIte, Nat.reduceEqDiff, Nat.reduceAdd, Int.reduceToNat, reduceCtorEq, Nat.reduceLeDiff, Nat.reduceSub, Nat.reduceDiv, Nat.reduceMod, Nat.reduceMul, d1060_b0, h, if_false]
theorem ordt_lt (x y : Ky) : decide (ordT x y < 0) = ltT x y := by
  unfold ordT cmT ltT
  rw [Bool.eq_iff_iff]
  simp only [decide_eq_true_eq]
  (repeat' split) <;> omega
theorem at_t {d : Array Ky} {i : Nat} (h : i < d.size) : rdc (kys (d.toList.drop i)) (some 3) = some (.agg [.int .i64 d[i]!.s, .int .i64 d[i]!.d, .int .i64 d[i]!.v]) := by
  rw [kys_at (by simpa using h), arr_at h]; rfl
theorem kys_set (x : Ky) : ∀ (l : List Ky) (i : Nat), (((kys l).set (i * 3) (.int .i64 x.s)).set (i * 3 + 1) (.int .i64 x.d)).set (i * 3 + 2) (.int .i64 x.v) = kys (l.set i x)
  | [], i => by simp [kys]
  | y :: l, 0 => rfl
  | y :: l, i + 1 => by
    have ih := kys_set x l i
    rw [kys_cons, List.set_cons_succ, kys_cons, ← ih]
    rw [show (i + 1) * 3 = i * 3 + 1 + 1 + 1 by omega]
    simp only [List.set_cons_succ, Nat.add_assoc, Nat.reduceAdd]
theorem swp_t {d : Array Ky} {i j : Nat} : ((((((kys d.toList).set (i * 3) (.int .i64 d[j]!.s)).set (i * 3 + 1) (.int .i64 d[j]!.d)).set (i * 3 + 2) (.int .i64 d[j]!.v)).set (j * 3) (.int .i64 d[i]!.s)).set (j * 3 + 1) (.int .i64 d[i]!.d)).set (j * 3 + 2) (.int .i64 d[i]!.v) = kys (Go.Sort.swp d i j).toList := by
  rw [kys_set, kys_set, swp_list]
theorem gc_t (x y : Ky) : runP tab 1053 [.agg [.int .i64 x.s, .int .i64 x.d, .int .i64 x.v], .agg [.int .i64 y.s, .int .i64 y.d, .int .i64 y.v]] [] = some (.int .i64 (ordT x y), []) := by
  refine runP_fn t1053 rfl ?_
  have g1 := compare_run (a := x.s) (b := y.s)
  have g2 := compare_run (a := x.d) (b := y.d)
  have g3 := compare_run (a := x.v) (b := y.v)
  have g4 := or3_run (a := cmT x.s y.s) (b := cmT x.d y.d) (c := cmT x.v y.v)
  simp (config := { maxSteps := 1000000 }) (disch := omega) only [go_sem, ↓reduceIte, Nat.reduceEqDiff, Nat.reduceAdd, Int.reduceToNat, reduceCtorEq, Nat.reduceLeDiff, Nat.reduceSub, Nat.reduceDiv, Nat.reduceMod, Nat.reduceMul, d1053, g1, g2, g3, g4]
  rfl
end Go.Proofs.Ythpgaecloecflaa
