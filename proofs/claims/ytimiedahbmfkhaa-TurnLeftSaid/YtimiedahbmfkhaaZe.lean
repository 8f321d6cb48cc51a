/- Layer 17: TurnLeft. -/
import Derived.Test.YtimiedahbmfkhaaZd
namespace Go.Proofs.Ytimiedahbmfkhaa
set_option linter.unusedSimpArgs false
set_option linter.unusedVariables false
set_option maxHeartbeats 4000000
set_option maxRecDepth 100000
def mor (n : Int) (p t : List Int) (i : Nat) : Int := if i < t.length ∧ (i : Int) < n ∧ -1000 ≤ t.getD i 0 ∧ t.getD i 0 ≤ 1000 then p.getD i 0 + t.getD i 0 * (n - i) else p.getD i 0
def mors (n : Int) (p t : List Int) (i : Nat) : List Int := (List.range i).map (mor n p t)
theorem mors_len (n : Int) (p t : List Int) (i : Nat) : (mors n p t i).length = i := by simp [mors]
theorem mors_succ (n : Int) (p t : List Int) (i : Nat) : mors n p t (i + 1) = mors n p t i ++ [mor n p t i] := by simp [mors, List.range_succ]
theorem mors_at {n : Int} {p t : List Int} {i k : Nat} (h : i < k) : (mors n p t k).getD i 0 = mor n p t i := by
  rw [mors, List.getD_eq_getElem?_getD, List.getElem?_map, List.getElem?_range h]; rfl
theorem tst_same {α : Type} [Inhabited α] {p q : List Int} {l : List α} : ∀ {i : Nat}, i ≤ l.length → (∀ j, j < i → p.getD j 0 % ((l.length - j : Nat) : Int) = q.getD j 0 % ((l.length - j : Nat) : Int)) → tst p l i = tst q l i
  | 0, _, _ => rfl
  | i + 1, h, hs => by
    have e := tst_same (i := i) (by omega) (fun j hj => hs j (by omega))
    have hl := (tst_len (p := q) (l := l) (i := i) (by omega)).1
    have hh := hs i (by omega)
    simp only [tst, e, hl, hh]
theorem ordd_mors {k : Nat} {p t : List Int} : ordd (mors k p t p.length) (upI k) = ordd p (upI k) := by
  unfold ordd
  rw [tst_same (p := mors k p t p.length) (q := p) (Nat.le_refl _)]
  intro j hj
  rw [upI_len] at hj ⊢
  by_cases h : j < p.length
  · rw [mors_at h, mor]
    split
    · rename_i h2
      rw [show (k : Int) - (j : Int) = ((k - j : Nat) : Int) by omega, Int.add_mul_emod_self_right]
    · rfl
  · rw [List.getD_eq_getElem?_getD, List.getElem?_eq_none (by rw [mors_len]; omega), List.getD_eq_getElem?_getD, List.getElem?_eq_none (by omega)]
theorem left_step {n : Int} {p t : List Int} (h1 : 0 ≤ n) (h2 : n ≤ 60) (h3 : p.length ≤ 100) (h4 : t.length ≤ 100) {i : Nat} (hi : i < p.length) (hq : -1000000 ≤ p.getD i 0 ∧ p.getD i 0 ≤ 1000000) :
    Ev tab d1109_b0 ⟨[(0, .int .i64 n), (1, .sl 1 (ints p)), (2, .sl 1 (ints t)), (7, .own 1 0), (8, .int .i64 (i : Int))], [.row false (ints (mors n p t i))], 0, [(0, 1, [0, 1, 2, 7, 8], [(7, 0)])]⟩ (fun x st => x = .normal ∧ st = ⟨[(0, .int .i64 n), (1, .sl 1 (ints p)), (2, .sl 1 (ints t)), (7, .own 1 0), (8, .int .i64 ((i + 1 : Nat) : Int))], [.row false (ints (mors n p t (i + 1)))], 0, [(0, 1, [0, 1, 2, 7, 8], [(7, 0)])]⟩) := by
  obtain ⟨q1, q2⟩ := hq
  have hm := mors_len n p t i
  rw [mors_succ, mor]
  by_cases c1 : i < t.length
  · by_cases c2 : (i : Int) < n
    · by_cases c3 : -1000 ≤ t.getD i 0
      · by_cases c4 : t.getD i 0 ≤ 1000
        · rw [if_pos ⟨c1, c2, c3, c4⟩]
          have m1 := Int.mul_le_mul_of_nonneg_right (c := n - (i : Int)) c4 (by omega)
          have m2 := Int.mul_le_mul_of_nonneg_right (c := n - (i : Int)) c3 (by omega)
          have m3 : t.getD i 0 * (n - (i : Int)) ≤ 60000 := by omega
          have m4 : -60000 ≤ t.getD i 0 * (n - (i : Int)) := by omega
          simp (config := { maxSteps := 1000000 }) (disch := omega) only [go_sem, ↓reduceIte, Nat.reduceEqDiff, Nat.reduceAdd, Int.reduceToNat, reduceCtorEq, Nat.reduceLeDiff, Nat.reduceSub, Nat.reduceDiv, Nat.reduceMod, Nat.reduceMul, d1109_b0]
        · rw [if_neg (fun h => c4 h.2.2.2)]
          simp (config := { maxSteps := 1000000 }) (disch := omega) only [go_sem, ↓reduceIte, Nat.reduceEqDiff, Nat.reduceAdd, Int.reduceToNat, reduceCtorEq, Nat.reduceLeDiff, Nat.reduceSub, Nat.reduceDiv, Nat.reduceMod, Nat.reduceMul, d1109_b0]
      · rw [if_neg (fun h => c3 h.2.2.1)]
        simp (config := { maxSteps := 1000000 }) (disch := omega) only [go_sem, ↓reduceIte, Nat.reduceEqDiff, Nat.reduceAdd, Int.reduceToNat, reduceCtorEq, Nat.reduceLeDiff, Nat.reduceSub, Nat.reduceDiv, Nat.reduceMod, Nat.reduceMul, d1109_b0]
    · rw [if_neg (fun h => c2 h.2.1)]
      simp (config := { maxSteps := 1000000 }) (disch := omega) only [go_sem, ↓reduceIte, Nat.reduceEqDiff, Nat.reduceAdd, Int.reduceToNat, reduceCtorEq, Nat.reduceLeDiff, Nat.reduceSub, Nat.reduceDiv, Nat.reduceMod, Nat.reduceMul, d1109_b0]
  · rw [if_neg (fun h => c1 h.1)]
    simp (config := { maxSteps := 1000000 }) (disch := omega) only [go_sem, ↓reduceIte, Nat.reduceEqDiff, Nat.reduceAdd, Int.reduceToNat, reduceCtorEq, Nat.reduceLeDiff, Nat.reduceSub, Nat.reduceDiv, Nat.reduceMod, Nat.reduceMul, d1109_b0]
theorem tleft_run {n : Int} {p t : List Int} (hn : I64 n) (hp : p.length ≤ 9223372036854775807) (ht : t.length ≤ 9223372036854775807) (hpi : ∀ x ∈ p, I64 x) : runP tab 1109 [.int .i64 n, .sl 1 (ints p), .sl 1 (ints t)] [] = some (.bool true, []) := by
  refine runP_fn t1109 rfl ?_
  obtain ⟨n1, n2⟩ := hn
  have gt := turns_run
  by_cases h1 : n < 0
  · simp (config := { maxSteps := 1000000 }) (disch := omega) only [go_sem, ↓reduceIte, Nat.reduceEqDiff, Nat.reduceAdd, Int.reduceToNat, reduceCtorEq, Nat.reduceLeDiff, Nat.reduceSub, Nat.reduceDiv, Nat.reduceMod, Nat.reduceMul, d1109, gt]
  by_cases h2 : 60 < n
  · simp (config := { maxSteps := 1000000 }) (disch := omega) only [go_sem, ↓reduceIte, Nat.reduceEqDiff, Nat.reduceAdd, Int.reduceToNat, reduceCtorEq, Nat.reduceLeDiff, Nat.reduceSub, Nat.reduceDiv, Nat.reduceMod, Nat.reduceMul, d1109, gt]
  by_cases h3 : 100 < p.length
  · simp (config := { maxSteps := 1000000 }) (disch := omega) only [go_sem, ↓reduceIte, Nat.reduceEqDiff, Nat.reduceAdd, Int.reduceToNat, reduceCtorEq, Nat.reduceLeDiff, Nat.reduceSub, Nat.reduceDiv, Nat.reduceMod, Nat.reduceMul, d1109, gt]
  by_cases h4 : 100 < t.length
  · simp (config := { maxSteps := 1000000 }) (disch := omega) only [go_sem, ↓reduceIte, Nat.reduceEqDiff, Nat.reduceAdd, Int.reduceToNat, reduceCtorEq, Nat.reduceLeDiff, Nat.reduceSub, Nat.reduceDiv, Nat.reduceMod, Nat.reduceMul, d1109, gt]
  obtain ⟨k, rfl⟩ := Int.eq_ofNat_of_zero_le (show 0 ≤ n by omega)
  simp (config := { maxSteps := 1000000 }) (disch := omega) only [go_sem, ↓reduceIte, Nat.reduceEqDiff, Nat.reduceAdd, Int.reduceToNat, reduceCtorEq, Nat.reduceLeDiff, Nat.reduceSub, Nat.reduceDiv, Nat.reduceMod, Nat.reduceMul, d1109]
  rcases first_ix (fun i => -1000000 ≤ p.getD i 0 ∧ p.getD i 0 ≤ 1000000) p.length with hall | ⟨m, hm, hb, hno⟩
  · refine Ev_loop0 (fun i => ⟨[(0, .int .i64 (k : Int)), (1, .sl 1 (ints p)), (2, .sl 1 (ints t)), (7, .own 1 0), (8, .int .i64 (i : Int))], [.row false (ints (mors k p t i))], 0, [(0, 1, [0, 1, 2, 7, 8], [(7, 0)])]⟩) p.length rfl (fun i hi => left_step (by omega) (by omega) (by omega) (by omega) hi (hall i hi)) ?_
    have hml := mors_len k p t p.length
    have hmi : ∀ x ∈ mors k p t p.length, I64 x := by
      intro x hx
      simp only [mors, List.mem_map, List.mem_range] at hx
      obtain ⟨i, hi, rfl⟩ := hx
      obtain ⟨q1, q2⟩ := hall i hi
      unfold mor
      split
      · rename_i c
        have m1 := Int.mul_le_mul_of_nonneg_right (c := (k : Int) - (i : Int)) c.2.2.2 (by omega)
        have m2 := Int.mul_le_mul_of_nonneg_right (c := (k : Int) - (i : Int)) c.2.2.1 (by omega)
        exact ⟨by omega, by omega⟩
      · exact ⟨by omega, by omega⟩
    have g1 := order_run (n := k) (p := p) ⟨by omega, by omega⟩ (by omega) hpi
    have g2 := order_run (n := k) (p := mors k p t p.length) ⟨by omega, by omega⟩ (by omega) hmi
    rw [ordA, if_neg (by omega), Int.toNat_natCast] at g1 g2
    rw [ordd_mors] at g2
    have hol := ordd_len p (upI k)
    rw [upI_len] at hol
    have g3 := ints_run (a := ordd p (upI k)) (b := ordd p (upI k)) (by omega) (by omega)
    have g4 : (ordd p (upI k) == ordd p (upI k)) = true := beq_self_eq_true _
    rw [g4] at g3
    simp (config := { maxSteps := 1000000 }) (disch := omega) only [go_sem, ↓reduceIte, Nat.reduceEqDiff, Nat.reduceAdd, Int.reduceToNat, reduceCtorEq, Nat.reduceLeDiff, Nat.reduceSub, Nat.reduceDiv, Nat.reduceMod, Nat.reduceMul, d1109_b0, gt, g1, g2, g3]
  · refine Ev_loop0 (fun i => ⟨[(0, .int .i64 (k : Int)), (1, .sl 1 (ints p)), (2, .sl 1 (ints t)), (7, .own 1 0), (8, .int .i64 (i : Int))], [.row false (ints (mors k p t i))], 0, [(0, 1, [0, 1, 2, 7, 8], [(7, 0)])]⟩) m rfl (fun i hi => left_step (by omega) (by omega) (by omega) (by omega) (by omega) (hb i hi)) ?_
    by_cases c : p.getD m 0 < -1000000
    · simp (config := { maxSteps := 1000000 }) (disch := omega) only [go_sem, ↓reduceIte, Nat.reduceEqDiff, Nat.reduceAdd, Int.reduceToNat, reduceCtorEq, Nat.reduceLeDiff, Nat.reduceSub, Nat.reduceDiv, Nat.reduceMod, Nat.reduceMul, d1109_b0, gt]
    · simp (config := { maxSteps := 1000000 }) (disch := omega) only [go_sem, ↓reduceIte, Nat.reduceEqDiff, Nat.reduceAdd, Int.reduceToNat, reduceCtorEq, Nat.reduceLeDiff, Nat.reduceSub, Nat.reduceDiv, Nat.reduceMod, Nat.reduceMul, d1109_b0, gt]
end Go.Proofs.Ytimiedahbmfkhaa
