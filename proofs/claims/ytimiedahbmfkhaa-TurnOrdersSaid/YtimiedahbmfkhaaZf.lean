/- Layer 17: Deal. -/
import Derived.Test.YtimiedahbmfkhaaZd
import Derived.Test.YtimiedahbmfkhaaHx
namespace Go.Proofs.Ytimiedahbmfkhaa
set_option linter.unusedSimpArgs false
set_option linter.unusedVariables false
set_option maxHeartbeats 4000000
set_option maxRecDepth 100000
def dealR (p : List Int) (m k : Nat) : List (List Int) := (List.range m).map fun v : Nat => ((List.range k).filter fun i => i % m == v).map fun i => p.getD i 0
theorem dealR_len (p : List Int) (m k : Nat) : (dealR p m k).length = m := by simp [dealR]
theorem dealR_at {p : List Int} {m k v : Nat} (h : v < m) : (dealR p m k).getD v [] = ((List.range k).filter fun i => i % m == v).map fun i => p.getD i 0 := by
  rw [dealR, List.getD_eq_getElem?_getD, List.getElem?_map, List.getElem?_range h]; rfl
theorem dealR_zero (p : List Int) (m : Nat) : ocV (dealR p m 0) = nls m := by
  rw [← ocV_nil]; congr 1; simp [dealR, List.map_const']
theorem dealR_succ {p : List Int} {m k : Nat} (hm : 0 < m) : (ocV (dealR p m k)).set (k % m) (.vec 1 (ints ((dealR p m k).getD (k % m) [] ++ [p.getD k 0]))) = ocV (dealR p m (k + 1)) := by
  have hu := Nat.mod_lt k hm
  have := rows_set (R := dealR p m k) (R' := dealR p m (k + 1)) (u := k % m) (x := (dealR p m k).getD (k % m) [] ++ [p.getD k 0]) (by rw [dealR_len]; exact hu) (by rw [dealR_len, dealR_len]) (by
    rw [dealR_at hu, dealR_at hu, List.range_succ, List.filter_append, List.map_append]; simp) (fun i hi => by
    by_cases h : i < m
    · rw [dealR_at h, dealR_at h, List.range_succ, List.filter_append, List.map_append]
      simp; omega
    · rw [getD_out (by rw [dealR_len]; omega), getD_out (by rw [dealR_len]; omega)])
  rw [← this, rcV, if_neg (by simp)]
theorem dealR_row (p : List Int) (m k v : Nat) : ((dealR p m k).getD v []).length ≤ k := by
  by_cases h : v < m
  · rw [dealR_at h, List.length_map]
    have := List.length_filter_le (fun i => i % m == v) (List.range k)
    rw [List.length_range] at this
    omega
  · rw [getD_out (by rw [dealR_len]; omega)]; simp
def dealA (p : List Int) (m : Int) : AV := if m < 1 ∨ 100 < m then .vec 1 [] else .vec 1 (ocV (dealR p m.toNat p.length))
def dealS (p : List Int) (m k : Nat) : St := ⟨[(1, .int .i64 (m : Int)), (5, .own 1 0), (16, .sl 1 (ints p)), (17, .int .i64 p.length), (18, .int .i64 (k : Int))], [.row false (ocV (dealR p m k))], 0, [(0, 1, [1, 5, 16, 17, 18], [(5, 0)])]⟩
theorem deal_step {p : List Int} {m k : Nat} (hp : p.length ≤ 1000000) (hm : 0 < m) (hm2 : m ≤ 100) (hk : k < p.length) : Ev tab d1118_b0 (dealS p m k) (fun x st => x = .normal ∧ st = dealS p m (k + 1)) := by
  have s1 := dealR_succ (p := p) (m := m) (k := k) hm
  have hu := Nat.mod_lt k hm
  have l1 := dealR_len p m k
  have b1 := dealR_row p m k (k % m)
  have c1 := ocV_cut (R := dealR p m k) (u := k % m) (by omega)
  have m1 : (ocV (dealR p m k)).length = m := by rw [ocV_len]; exact l1
  have t0 : (k : Int).tmod (m : Int) = ((k % m : Nat) : Int) := rfl
  have t2 : (k : Int) % (m : Int) = ((k % m : Nat) : Int) := rfl
  simp only [dealS]
  generalize (dealR p m k).getD (k % m) [] = ra at *
  generalize ocV (dealR p m k) = X at *
  generalize k % m = u at *
  by_cases ha : ra = []
  · subst ha; simp only [rcV, if_true] at c1
    have er1 := set_rdc (l := X) (u := u) (x := .nils) (by omega)
    have t1 : (X.set u (.nils)).set u (.vec 1 [.int .i64 (p.getD k 0)]) = ocV (dealR p m (k + 1)) := by rw [List.set_set]; exact s1
    simp (config := { maxSteps := 1000000 }) (disch := omega) only [go_sem, ↓reduceIte, Nat.reduceEqDiff, Nat.reduceAdd, Int.reduceToNat, reduceCtorEq, Nat.reduceLeDiff, Nat.reduceSub, Nat.reduceDiv, Nat.reduceMod, Nat.reduceMul, d1118_b0, t0, t2, c1, l1, m1, er1, t1]
  · simp only [rcV, if_neg ha] at c1
    have er1 := set_rdc (l := X) (u := u) (x := .own 1 1) (by omega)
    have t1 : (X.set u (.own 1 1)).set u (.vec 1 (ints (ra ++ [p.getD k 0]))) = ocV (dealR p m (k + 1)) := by rw [List.set_set]; exact s1
    simp (config := { maxSteps := 1000000 }) (disch := omega) only [go_sem, ↓reduceIte, Nat.reduceEqDiff, Nat.reduceAdd, Int.reduceToNat, reduceCtorEq, Nat.reduceLeDiff, Nat.reduceSub, Nat.reduceDiv, Nat.reduceMod, Nat.reduceMul, d1118_b0, t0, t2, c1, l1, m1, er1, t1]
theorem deal_run {p : List Int} {m : Int} (hm : I64 m) (hp : p.length ≤ 1000000) : runP tab 1118 [.sl 1 (ints p), .int .i64 m] [] = some (dealA p m, []) := by
  refine runP_fn t1118 rfl ?_
  obtain ⟨n1, n2⟩ := hm
  unfold dealA
  by_cases h1 : m < 1
  · rw [if_pos (Or.inl h1)]
    simp (config := { maxSteps := 1000000 }) (disch := omega) only [go_sem, ↓reduceIte, Nat.reduceEqDiff, Nat.reduceAdd, Int.reduceToNat, reduceCtorEq, Nat.reduceLeDiff, Nat.reduceSub, Nat.reduceDiv, Nat.reduceMod, Nat.reduceMul, d1118]
  by_cases h2 : 100 < m
  · rw [if_pos (Or.inr h2)]
    simp (config := { maxSteps := 1000000 }) (disch := omega) only [go_sem, ↓reduceIte, Nat.reduceEqDiff, Nat.reduceAdd, Int.reduceToNat, reduceCtorEq, Nat.reduceLeDiff, Nat.reduceSub, Nat.reduceDiv, Nat.reduceMod, Nat.reduceMul, d1118]
  obtain ⟨k, rfl⟩ := Int.eq_ofNat_of_zero_le (show 0 ≤ m by omega)
  rw [if_neg (by omega), Int.toNat_natCast]
  simp (config := { maxSteps := 1000000 }) (disch := omega) only [go_sem, ↓reduceIte, Nat.reduceEqDiff, Nat.reduceAdd, Int.reduceToNat, reduceCtorEq, Nat.reduceLeDiff, Nat.reduceSub, Nat.reduceDiv, Nat.reduceMod, Nat.reduceMul, d1118, tile_nils]
  refine Ev_loop0 (dealS p k) p.length (by simp [dealS, dealR_zero]) (fun i hi => deal_step hp (by omega) (by omega) hi) ?_
  have l1 := dealR_len p k p.length
  simp only [dealS]
  simp (config := { maxSteps := 1000000 }) (disch := omega) only [go_sem, ↓reduceIte, Nat.reduceEqDiff, Nat.reduceAdd, Int.reduceToNat, reduceCtorEq, Nat.reduceLeDiff, Nat.reduceSub, Nat.reduceDiv, Nat.reduceMod, Nat.reduceMul, d1118_b0]
end Go.Proofs.Ytimiedahbmfkhaa
