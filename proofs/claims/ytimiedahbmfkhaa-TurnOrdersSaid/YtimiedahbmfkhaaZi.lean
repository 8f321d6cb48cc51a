/- Layer 17: the document's Order. -/
import Derived.Test.YtimiedahbmfkhaaZd
namespace Go.Proofs.Ytimiedahbmfkhaa
set_option linter.unusedSimpArgs false
set_option linter.unusedVariables false
set_option maxHeartbeats 4000000
set_option maxRecDepth 100000
def roS (l p : List Int) (i : Nat) : St := ⟨[(1, .sl 1 (ints p)), (6, .own 1 0), (8, .own 1 1), (9, .int .i64 (i : Int))], [.row false (ints (tst p l i).1), .row false (ints (tst p l i).2)], 0, [(1, 2, [1, 6, 8, 9], [(6, 0), (8, 1)]), (0, 1, [0, 1, 6, 7], [(6, 0)])]⟩
theorem ro_step {l p : List Int} (hl : l.length ≤ 1000) (hp : p.length ≤ 1000000) (hpi : ∀ x ∈ p, I64 x) {i : Nat} (hi : i < l.length) : Ev tab d1115_b1 (roS l p i) (fun x st => x = .normal ∧ st = roS l p (i + 1)) := by
  have h1 := (tst_len (p := p) (l := l) (i := i) (by omega)).1
  have h2 := (tst_len (p := p) (l := l) (i := i) (by omega)).2
  have hn : 0 < (tst p l i).1.length := by omega
  obtain ⟨h3, h4⟩ := tst_at (p := p) (i := i) hn
  by_cases hk : i < p.length
  · have hpx : I64 (p.getD i 0) := hpi _ (getD_mem (d := 0) hk)
    have g2 := rpick_run (n := ((tst p l i).1.length : Int)) (p := p.getD i 0) ⟨by omega, by omega⟩ hpx
    have e1 : pckI ((tst p l i).1.length : Int) (p.getD i 0) = (((p.getD i 0 % ((tst p l i).1.length : Int)).toNat : Nat) : Int) := by rw [pckI, if_neg (by omega), h4]
    rw [e1] at g2
    simp only [roS, tst]
    generalize (p.getD i 0 % ((tst p l i).1.length : Int)).toNat = k at *
    generalize (tst p l i).1 = a at *
    generalize (tst p l i).2 = b at *
    have e4 : a.getD k default = a.getD k 0 := rfl
    have e5 : ((k : Int) + 1).toNat = k + 1 := by omega
    rw [e4]
    simp (config := { maxSteps := 1000000 }) (disch := omega) only [go_sem, ↓reduceIte, Nat.reduceEqDiff, Nat.reduceAdd, Int.reduceToNat, reduceCtorEq, Nat.reduceLeDiff, Nat.reduceSub, Nat.reduceDiv, Nat.reduceMod, Nat.reduceMul, d1115_b1, g2, e5]
  · have e0 : p.getD i 0 = 0 := by rw [List.getD_eq_getElem?_getD, List.getElem?_eq_none (by omega)]; rfl
    simp only [roS, tst, e0, Int.zero_emod, Int.toNat_zero]
    generalize (tst p l i).1 = a at *
    generalize (tst p l i).2 = b at *
    have e4 : a.getD 0 default = a.getD 0 0 := rfl
    rw [e4]
    have e6 : rdc (ints a) none = some (.int .i64 (a.getD 0 0)) := by have := ints_rdc0 (l := a) (i := 0) hn; rwa [List.drop_zero] at this
    simp (config := { maxSteps := 1000000 }) (disch := omega) only [go_sem, ↓reduceIte, Nat.reduceEqDiff, Nat.reduceAdd, Int.reduceToNat, reduceCtorEq, Nat.reduceLeDiff, Nat.reduceSub, Nat.reduceDiv, Nat.reduceMod, Nat.reduceMul, d1115_b1, e6]
theorem rorder_run {n : Int} {p : List Int} (hn : I64 n) (hp : p.length ≤ 1000000) (hpi : ∀ x ∈ p, I64 x) : runP tab 1115 [.int .i64 n, .sl 1 (ints p)] [] = some (ordA n p, []) := by
  refine runP_fn t1115 rfl ?_
  obtain ⟨n1, n2⟩ := hn
  unfold ordA
  by_cases h1 : n < 0
  · simp (config := { maxSteps := 1000000 }) (disch := omega) only [go_sem, ↓reduceIte, Nat.reduceEqDiff, Nat.reduceAdd, Int.reduceToNat, reduceCtorEq, Nat.reduceLeDiff, Nat.reduceSub, Nat.reduceDiv, Nat.reduceMod, Nat.reduceMul, d1115, h1, true_or, if_true]
  by_cases h2 : 1000 < n
  · simp (config := { maxSteps := 1000000 }) (disch := omega) only [go_sem, ↓reduceIte, Nat.reduceEqDiff, Nat.reduceAdd, Int.reduceToNat, reduceCtorEq, Nat.reduceLeDiff, Nat.reduceSub, Nat.reduceDiv, Nat.reduceMod, Nat.reduceMul, d1115, h1, h2, or_true, if_true]
  obtain ⟨k, rfl⟩ := Int.eq_ofNat_of_zero_le (show 0 ≤ n by omega)
  rw [if_neg (by omega)]
  simp (config := { maxSteps := 1000000 }) (disch := omega) only [go_sem, ↓reduceIte, Nat.reduceEqDiff, Nat.reduceAdd, Int.reduceToNat, reduceCtorEq, Nat.reduceLeDiff, Nat.reduceSub, Nat.reduceDiv, Nat.reduceMod, Nat.reduceMul, d1115]
  refine Ev_loop0 (fun i => ⟨[(0, .int .i64 (k : Int)), (1, .sl 1 (ints p)), (6, .own 1 0), (7, .int .i64 (i : Int))], [.row false (ints (upI i))], 0, [(0, 1, [0, 1, 6, 7], [(6, 0)])]⟩) k rfl (fun i hi => ?_) ?_
  · rw [upI_succ]
    have hle := upI_len i
    simp (config := { maxSteps := 1000000 }) (disch := omega) only [go_sem, ↓reduceIte, Nat.reduceEqDiff, Nat.reduceAdd, Int.reduceToNat, reduceCtorEq, Nat.reduceLeDiff, Nat.reduceSub, Nat.reduceDiv, Nat.reduceMod, Nat.reduceMul, d1115_b0]
  · have hle := upI_len k
    simp (config := { maxSteps := 1000000 }) (disch := omega) only [go_sem, ↓reduceIte, Nat.reduceEqDiff, Nat.reduceAdd, Int.reduceToNat, reduceCtorEq, Nat.reduceLeDiff, Nat.reduceSub, Nat.reduceDiv, Nat.reduceMod, Nat.reduceMul, d1115_b0]
    refine Ev_loop0 (roS (upI k) p) k rfl (fun i hi => ro_step (by omega) hp hpi (by omega)) ?_
    have e : ordd p (upI k) = (tst p (upI k) k).2 := by rw [ordd, upI_len]
    have h1 := (tst_len (p := p) (l := upI k) (i := k) (by omega)).1
    have h2 := (tst_len (p := p) (l := upI k) (i := k) (by omega)).2
    simp only [roS, Int.toNat_natCast, e]
    generalize (tst p (upI k) k).1 = a at *
    generalize (tst p (upI k) k).2 = b at *
    simp (config := { maxSteps := 1000000 }) (disch := omega) only [go_sem, ↓reduceIte, Nat.reduceEqDiff, Nat.reduceAdd, Int.reduceToNat, reduceCtorEq, Nat.reduceLeDiff, Nat.reduceSub, Nat.reduceDiv, Nat.reduceMod, Nat.reduceMul, d1115_b1]
end Go.Proofs.Ytimiedahbmfkhaa
