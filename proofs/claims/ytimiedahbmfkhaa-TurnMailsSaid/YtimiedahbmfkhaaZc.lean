/- Layer 17: Order. -/
import Derived.Test.YtimiedahbmfkhaaZb
namespace Go.Proofs.Ytimiedahbmfkhaa
set_option linter.unusedSimpArgs false
set_option linter.unusedVariables false
set_option maxHeartbeats 4000000
set_option maxRecDepth 100000
theorem tile_put (l : List Int) : setAll (tile l.length [.int .i64 0]) 0 (ints l) = ints l := by
  have h : (tile l.length [AV.int .i64 0]).length = l.length := by rw [tile_length]; simp
  rw [setAll_eq _ _ _ (by rw [ints_length, h]; omega), ints_length, List.take_zero, List.nil_append, Nat.zero_add, List.drop_eq_nil_of_le (by omega), List.append_nil]
theorem ordi_run {l p : List Int} (hl : l.length ≤ 1000) (hp : p.length ≤ 1000000) (hpi : ∀ x ∈ p, I64 x) : runP tab 1125 [.own 1 0, .clo 1131 [] [.ref 1 0, .ref 2 0]] [.row false (ints l), .row false [.int .i64 0], .row false [.sl 1 (ints p)]] = some (.vec 1 (ints (ordd p l)), [.row false (ints l), .row false [.int .i64 ((min l.length p.length : Nat) : Int)], .row false [.sl 1 (ints p)]]) := by
  refine runP_fn t1125 rfl ?_
  have ht := tile_put l
  have hu : (tile l.length [AV.int .i64 0]).length = l.length := by rw [tile_length]; simp
  simp (config := { maxSteps := 1000000 }) (disch := omega) only [go_sem, ↓reduceIte, Nat.reduceEqDiff, Nat.reduceAdd, Int.reduceToNat, reduceCtorEq, Nat.reduceLeDiff, Nat.reduceSub, Nat.reduceDiv, Nat.reduceMod, Nat.reduceMul, d1125, headOf, hu, ht, Option.getD_none, List.take_length]
  refine Ev_loop0 (ordS l p) (min l.length p.length) rfl (fun i hi => ord_step hl hp hpi (by omega) (by omega)) ?_
  rw [ordd_min]
  have h1 := (tst_len (p := p) (l := l) (i := min l.length p.length) (by omega)).1
  have h2 := (tst_len (p := p) (l := l) (i := min l.length p.length) (by omega)).2
  simp only [ordS]
  have c1 : (if ([1] : List Nat).contains 2 = true then [1] else [2, 1]).reverse = [1, 2] := rfl
  by_cases h : l.length ≤ p.length
  · have e : min l.length p.length = l.length := Nat.min_eq_left h
    rw [e] at h1 h2 ⊢
    generalize (tst p l l.length).1 = a at *
    generalize (tst p l l.length).2 = b at *
    simp (config := { maxSteps := 1000000 }) (disch := omega) only [go_sem, ↓reduceIte, Nat.reduceEqDiff, Nat.reduceAdd, Int.reduceToNat, reduceCtorEq, Nat.reduceLeDiff, Nat.reduceSub, Nat.reduceDiv, Nat.reduceMod, Nat.reduceMul, d1125_b0]
  · have e : min l.length p.length = p.length := Nat.min_eq_right (by omega)
    rw [e] at h1 h2 ⊢
    generalize (tst p l p.length).1 = a at *
    generalize (tst p l p.length).2 = b at *
    have g1 := next_no (p := p) rfl hp
    simp (config := { maxSteps := 1000000 }) (disch := omega) only [go_sem, ↓reduceIte, Nat.reduceEqDiff, Nat.reduceAdd, Int.reduceToNat, reduceCtorEq, Nat.reduceLeDiff, Nat.reduceSub, Nat.reduceDiv, Nat.reduceMod, Nat.reduceMul, d1125_b0, c1, g1]
def upI (n : Nat) : List Int := (List.range n).map fun i : Nat => ((i : Nat) : Int)
theorem upI_len (n : Nat) : (upI n).length = n := by simp [upI]
theorem upI_succ (n : Nat) : upI (n + 1) = upI n ++ [(n : Int)] := by simp [upI, List.range_succ]
def ordA (n : Int) (p : List Int) : AV := if n < 0 ∨ 1000 < n then .tup [.vec 1 [], .int .i64 1] else .tup [.vec 1 (ints (ordd p (upI n.toNat))), .int .i64 0]
theorem order_run {n : Int} {p : List Int} (hn : I64 n) (hp : p.length ≤ 1000000) (hpi : ∀ x ∈ p, I64 x) : runP tab 1114 [.int .i64 n, .sl 1 (ints p)] [] = some (ordA n p, []) := by
  refine runP_fn t1114 rfl ?_
  obtain ⟨n1, n2⟩ := hn
  unfold ordA
  by_cases h1 : n < 0
  · simp (config := { maxSteps := 1000000 }) (disch := omega) only [go_sem, ↓reduceIte, Nat.reduceEqDiff, Nat.reduceAdd, Int.reduceToNat, reduceCtorEq, Nat.reduceLeDiff, Nat.reduceSub, Nat.reduceDiv, Nat.reduceMod, Nat.reduceMul, d1114, h1, true_or, if_true]
  by_cases h2 : 1000 < n
  · simp (config := { maxSteps := 1000000 }) (disch := omega) only [go_sem, ↓reduceIte, Nat.reduceEqDiff, Nat.reduceAdd, Int.reduceToNat, reduceCtorEq, Nat.reduceLeDiff, Nat.reduceSub, Nat.reduceDiv, Nat.reduceMod, Nat.reduceMul, d1114, h1, h2, or_true, if_true]
  obtain ⟨k, rfl⟩ := Int.eq_ofNat_of_zero_le (show 0 ≤ n by omega)
  rw [if_neg (by omega)]
  simp (config := { maxSteps := 1000000 }) (disch := omega) only [go_sem, ↓reduceIte, Nat.reduceEqDiff, Nat.reduceAdd, Int.reduceToNat, reduceCtorEq, Nat.reduceLeDiff, Nat.reduceSub, Nat.reduceDiv, Nat.reduceMod, Nat.reduceMul, d1114]
  refine Ev_loop0 (fun i => ⟨[(1, .sl 1 (ints p)), (6, .own 1 0), (14, .int .i64 (k : Int)), (15, .int .i64 (i : Int))], [.row false (ints (upI i))], 0, [(0, 1, [1, 6, 14, 15], [(6, 0)])]⟩) k rfl (fun i hi => ?_) ?_
  · rw [upI_succ]
    have hle := upI_len i
    simp (config := { maxSteps := 1000000 }) (disch := omega) only [go_sem, ↓reduceIte, Nat.reduceEqDiff, Nat.reduceAdd, Int.reduceToNat, reduceCtorEq, Nat.reduceLeDiff, Nat.reduceSub, Nat.reduceDiv, Nat.reduceMod, Nat.reduceMul, d1114_b0]
  · have g1 := follow_run (p := p)
    have hle := upI_len k
    have g2 := ordi_run (l := upI k) (p := p) (by omega) hp hpi
    have c2 : (if (if ([0] : List Nat).contains 1 = true then [0] else [1, 0]).contains 2 = true then if ([0] : List Nat).contains 1 = true then [0] else [1, 0] else 2 :: if ([0] : List Nat).contains 1 = true then [0] else [1, 0]).reverse = [0, 1, 2] := rfl
    simp (config := { maxSteps := 1000000 }) (disch := omega) only [go_sem, ↓reduceIte, Nat.reduceEqDiff, Nat.reduceAdd, Int.reduceToNat, reduceCtorEq, Nat.reduceLeDiff, Nat.reduceSub, Nat.reduceDiv, Nat.reduceMod, Nat.reduceMul, d1114_b0, g1, g2, c2]
end Go.Proofs.Ytimiedahbmfkhaa
