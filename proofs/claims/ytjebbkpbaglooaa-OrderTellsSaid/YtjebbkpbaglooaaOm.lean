/- Layer 11: OrderTells. -/
import Derived.Test.YtjebbkpbaglooaaOl
namespace Go.Proofs.Ytjebbkpbaglooaa
set_option linter.unusedSimpArgs false
set_option linter.unusedVariables false
set_option maxHeartbeats 4000000
set_option maxRecDepth 100000
theorem toldB_ex (r : Rw) (h : r.off.length ≤ 2100) : ∃ (P : List Int) (e : Int), toldB r = .tup [.vec 1 (ints P), .int .i64 e] ∧ P.length ≤ 2100 := by
  unfold toldB
  by_cases hc : chk r = true
  · rw [if_pos hc]; exact ⟨_, _, rfl, by rw [byA_len]; omega⟩
  · rw [if_neg hc]; exact ⟨[], _, rfl, by simp⟩
theorem plA_ex (l : List Int) (h : l.length ≤ 60) : ∃ (P : List Int) (e : Int), plA l = .tup [.vec 1 (ints P), .int .i64 e] ∧ P.length ≤ 2100 := by
  unfold plA
  by_cases hc : isO l = true
  · rw [if_pos hc]; exact ⟨_, _, rfl, by rw [plcs_len]; omega⟩
  · rw [if_neg hc]; exact ⟨[], _, rfl, by simp⟩
theorem nthA_ex (n k : Int) : ∃ (P : List Int) (e : Int), nthA n k = .tup [.vec 1 (ints P), .int .i64 e] ∧ P.length ≤ 2100 := by
  unfold nthA
  by_cases hc : 0 ≤ n ∧ n ≤ 12 ∧ 0 ≤ k ∧ k < (fac n.toNat : Int)
  · rw [if_pos hc]; exact ⟨_, _, rfl, by rw [nthR_len]; omega⟩
  · rw [if_neg hc]; exact ⟨[], _, rfl, by simp⟩
theorem turA_ex (l : List Int) : ∃ (t e : Int), turA l = .tup [.int .i64 t, .int .i64 e] := by
  unfold turA
  by_cases hc : l.length ≤ 12 ∧ isO l = true
  · rw [if_pos hc]; exact ⟨_, _, rfl⟩
  · rw [if_neg hc]; exact ⟨_, _, rfl⟩
theorem otells_run {r : Rw} {l : List Int} {n k : Int} (hf : rwFit r) (hl : l.length ≤ 9223372036854775807) (hn : I64 n) (hk : I64 k) : runP tab 1170 [.agg (rwS r), .sl 1 (ints l), .int .i64 n, .int .i64 k] [] = some (.bool true, []) := by
  refine runP_fn t1170 rfl ?_
  have gb := bigR_run hf
  have gt := exm_run
  simp only [rwS] at gb
  cases hb : bigR r with
  | true =>
    rw [hb] at gb
    simp (config := { maxSteps := 1000000 }) (disch := omega) only [go_sem, ↓reduceIte, Nat.reduceEqDiff, Nat.reduceAdd, Int.reduceToNat, reduceCtorEq, Nat.reduceLeDiff, Nat.reduceSub, Nat.reduceDiv, Nat.reduceMod, Nat.reduceMul, d1170, rwS, gb]
  | false =>
    rw [hb] at gb
    by_cases h1 : 60 < l.length
    · simp (config := { maxSteps := 1000000 }) (disch := omega) only [go_sem, ↓reduceIte, Nat.reduceEqDiff, Nat.reduceAdd, Int.reduceToNat, reduceCtorEq, Nat.reduceLeDiff, Nat.reduceSub, Nat.reduceDiv, Nat.reduceMod, Nat.reduceMul, d1170, rwS, gb]
    by_cases h2 : 20 < n
    · simp (config := { maxSteps := 1000000 }) (disch := omega) only [go_sem, ↓reduceIte, Nat.reduceEqDiff, Nat.reduceAdd, Int.reduceToNat, reduceCtorEq, Nat.reduceLeDiff, Nat.reduceSub, Nat.reduceDiv, Nat.reduceMod, Nat.reduceMul, d1170, rwS, gb]
    have hr := bigR_ok hb
    have b1 := hr.a
    have b2 := hr.b
    have b3 := hr.c
    have b4 := hr.d
    have go := rown_run hr
    have gw := owni_run (l := l) (by omega)
    have ga := by_run hr
    have gr := rby_run hr
    obtain ⟨P1, e1, q1, p1⟩ := toldB_ex r b1
    rw [q1] at ga gr
    have gc := places_run1 (l := l) (by omega)
    have gd := rplaces_run (l := l) (by omega)
    obtain ⟨P2, e2, q2, p2⟩ := plA_ex l (by omega)
    rw [q2] at gc gd
    have gx := nth_run hn hk
    have gy := rnth_run hn hk
    obtain ⟨P3, e3, q3, p3⟩ := nthA_ex n k
    rw [q3] at gx gy
    have g1 := turns_run (l := l) (by omega)
    have g2 := rturns_run (l := l) (by omega)
    obtain ⟨t, e4, q4⟩ := turA_ex l
    rw [q4] at g1 g2
    have g3 := isord_run (l := l) (n := n) (by omega)
    have g4 := risord_run (l := l) (n := n) (by omega)
    have g5 := rsame_run hr hr
    rw [decide_eq_true rfl] at g5
    have i0 := ints_run (a := l) (b := l) (by omega) (by omega)
    have i1 := ints_run (a := P1) (b := P1) (by omega) (by omega)
    have i2 := ints_run (a := P2) (b := P2) (by omega) (by omega)
    have i3 := ints_run (a := P3) (b := P3) (by omega) (by omega)
    rw [beq_self_eq_true] at i0 i1 i2 i3
    generalize isN l n = I at *
    simp only [rwS] at go ga gr g5
    simp (config := { maxSteps := 1000000 }) (disch := omega) only [go_sem, ↓reduceIte, Nat.reduceEqDiff, Nat.reduceAdd, Int.reduceToNat, reduceCtorEq, Nat.reduceLeDiff, Nat.reduceSub, Nat.reduceDiv, Nat.reduceMod, Nat.reduceMul, d1170, rwS, gb, gt, go, gw, ga, gr, gc, gd, gx, gy, g1, g2, g3, g4, g5, i0, i1, i2, i3]
end Go.Proofs.Ytjebbkpbaglooaa
