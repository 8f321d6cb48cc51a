/- Layer 17: the document's Deal. -/
import Derived.Test.YtimiedahbmfkhaaZm
namespace Go.Proofs.Ytimiedahbmfkhaa
set_option linter.unusedSimpArgs false
set_option linter.unusedVariables false
set_option maxHeartbeats 4000000
set_option maxRecDepth 100000
def rdS (p : List Int) (m i : Nat) : St := ⟨[(0, .sl 1 (ints p)), (1, .int .i64 (m : Int)), (5, .own 1 0), (6, .int .i64 (i : Int))], [.row false (owV ((dealR p m p.length).take i))], 0, [(0, 1, [0, 1, 5, 6], [(5, 0)])]⟩
theorem rd_step {p : List Int} {m i : Nat} (hp : p.length ≤ 1000000) (hm : 0 < m) (hm2 : m ≤ 100) (hi : i < m) : Ev tab d1119_b0 (rdS p m i) (fun x st => x = .normal ∧ st = rdS p m (i + 1)) := by
  have l1 := dealR_len p m p.length
  have ht : ((dealR p m p.length).take i).length = i := by rw [List.length_take]; omega
  have hs := take_snoc ([] : List Int) (show i < (dealR p m p.length).length by omega)
  have hrow := dealR_row p m p.length i
  obtain ⟨r1, r2⟩ := deal_row (p := p) hm hi rfl
  simp only [rdS]
  rw [hs]
  generalize (dealR p m p.length).getD i [] = R at *
  generalize (dealR p m p.length).take i = A at *
  simp (config := { maxSteps := 1000000 }) (disch := omega) only [go_sem, ↓reduceIte, Nat.reduceEqDiff, Nat.reduceAdd, Int.reduceToNat, reduceCtorEq, Nat.reduceLeDiff, Nat.reduceSub, Nat.reduceDiv, Nat.reduceMod, Nat.reduceMul, d1119_b0]
  refine Ev_loop0 (fun j => ⟨[(0, .sl 1 (ints p)), (1, .int .i64 (m : Int)), (5, .own 1 0), (6, .int .i64 (i : Int)), (7, .own 1 1), (8, .int .i64 ((i + m * j : Nat) : Int))], [.row false (owV A), .row false (ints (R.take j))], 0, [(1, 2, [0, 1, 5, 6, 7, 8], [(5, 0), (7, 1)]), (0, 1, [0, 1, 5, 6], [(5, 0)])]⟩) R.length (by simp [ints_nil]) (fun j hj => ?_) ?_
  · obtain ⟨h1, h2⟩ := r1 j hj
    have hj2 := take_snoc (0 : Int) hj
    have e : i + m * (j + 1) = i + m * j + m := by rw [Nat.mul_add, Nat.mul_one]; omega
    have ht2 : (R.take j).length = j := by rw [List.length_take]; omega
    rw [hj2, h2, e]
    generalize i + m * j = k at *
    simp (config := { maxSteps := 1000000 }) (disch := omega) only [go_sem, ↓reduceIte, Nat.reduceEqDiff, Nat.reduceAdd, Int.reduceToNat, reduceCtorEq, Nat.reduceLeDiff, Nat.reduceSub, Nat.reduceDiv, Nat.reduceMod, Nat.reduceMul, d1119_b1]
  · rw [List.take_length]
    generalize i + m * R.length = k at *
    have hw := owV_snoc A R
    simp (config := { maxSteps := 1000000 }) (disch := omega) only [go_sem, ↓reduceIte, Nat.reduceEqDiff, Nat.reduceAdd, Int.reduceToNat, reduceCtorEq, Nat.reduceLeDiff, Nat.reduceSub, Nat.reduceDiv, Nat.reduceMod, Nat.reduceMul, d1119_b1, hw]
def dD (p : List Int) (m : Int) : List (List Int) := if m < 1 ∨ 100 < m then [] else dealR p m.toNat p.length
theorem deal_run' {p : List Int} {m : Int} (hm : I64 m) (hp : p.length ≤ 1000000) : runP tab 1118 [.sl 1 (ints p), .int .i64 m] [] = some (.vec 1 (ocV (dD p m)), []) := by
  rw [deal_run hm hp, dealA, dD]; split <;> rfl
theorem rdeal_run {p : List Int} {m : Int} (hm : I64 m) (hp : p.length ≤ 1000000) : runP tab 1119 [.sl 1 (ints p), .int .i64 m] [] = some (.vec 1 (owV (dD p m)), []) := by
  refine runP_fn t1119 rfl ?_
  obtain ⟨n1, n2⟩ := hm
  unfold dD
  by_cases h1 : m < 1
  · rw [if_pos (Or.inl h1)]
    have e : owV [] = [] := rfl
    simp (config := { maxSteps := 1000000 }) (disch := omega) only [go_sem, ↓reduceIte, Nat.reduceEqDiff, Nat.reduceAdd, Int.reduceToNat, reduceCtorEq, Nat.reduceLeDiff, Nat.reduceSub, Nat.reduceDiv, Nat.reduceMod, Nat.reduceMul, d1119, e]
  by_cases h2 : 100 < m
  · rw [if_pos (Or.inr h2)]
    have e : owV [] = [] := rfl
    simp (config := { maxSteps := 1000000 }) (disch := omega) only [go_sem, ↓reduceIte, Nat.reduceEqDiff, Nat.reduceAdd, Int.reduceToNat, reduceCtorEq, Nat.reduceLeDiff, Nat.reduceSub, Nat.reduceDiv, Nat.reduceMod, Nat.reduceMul, d1119, e]
  obtain ⟨k, rfl⟩ := Int.eq_ofNat_of_zero_le (show 0 ≤ m by omega)
  rw [if_neg (by omega), Int.toNat_natCast]
  simp (config := { maxSteps := 1000000 }) (disch := omega) only [go_sem, ↓reduceIte, Nat.reduceEqDiff, Nat.reduceAdd, Int.reduceToNat, reduceCtorEq, Nat.reduceLeDiff, Nat.reduceSub, Nat.reduceDiv, Nat.reduceMod, Nat.reduceMul, d1119]
  refine Ev_loop0 (rdS p k) k rfl (fun i hi => rd_step hp (by omega) (by omega) hi) ?_
  have l1 := dealR_len p k p.length
  have e : (dealR p k p.length).take k = dealR p k p.length := List.take_of_length_le (by omega)
  simp only [rdS, e]
  simp (config := { maxSteps := 1000000 }) (disch := omega) only [go_sem, ↓reduceIte, Nat.reduceEqDiff, Nat.reduceAdd, Int.reduceToNat, reduceCtorEq, Nat.reduceLeDiff, Nat.reduceSub, Nat.reduceDiv, Nat.reduceMod, Nat.reduceMul, d1119_b0]
theorem dD_len {p : List Int} {m : Int} : (dD p m).length ≤ 100 := by
  unfold dD; split
  · simp
  · rw [dealR_len]; omega
theorem dD_row (p : List Int) (m : Int) (i : Nat) : ((dD p m).getD i []).length ≤ p.length := by
  unfold dD; split
  · simp
  · exact dealR_row _ _ _ _
end Go.Proofs.Ytimiedahbmfkhaa
