/- Layer 11: OrderNumbers, OrderEnds. -/
import Derived.Test.YtjebbkpbaglooaaOg
namespace Go.Proofs.Ytjebbkpbaglooaa
set_option linter.unusedSimpArgs false
set_option linter.unusedVariables false
set_option maxHeartbeats 4000000
set_option maxRecDepth 100000
theorem cons_at0 (x : Int) (l : List Int) : (x :: l).getD 0 0 = x := rfl
theorem cons_atS (x : Int) (l : List Int) (i : Nat) : (x :: l).getD (i + 1) 0 = l.getD i 0 := rfl
theorem nthR_less : ∀ {m : Nat} {left : List Int} {k q : Nat}, left.length = m → left.Pairwise (· < ·) → k < q → q < fac m →
    ∃ i, i < m ∧ (∀ j, j < i → (nthR m left k).getD j 0 = (nthR m left q).getD j 0) ∧ (nthR m left k).getD i 0 < (nthR m left q).getD i 0
  | 0, left, k, q, hl, hp, h1, h2 => by simp only [fac] at h2; omega
  | m + 1, left, k, q, hl, hp, h1, h2 => by
    have fp := fac_pos m
    have d1 := div_lt (m := m) (k := k) (by omega)
    have d2 := div_lt (m := m) (k := q) h2
    have hle : k / fac m ≤ q / fac m := Nat.div_le_div_right (by omega)
    rw [nthR, nthR]
    by_cases he : k / fac m = q / fac m
    · have hk := Nat.div_add_mod k (fac m)
      have hq := Nat.div_add_mod q (fac m)
      rw [he] at hk
      have hlt : k % fac m < q % fac m := by omega
      have hs : (left.take (q / fac m) ++ left.drop (q / fac m + 1)).Pairwise (· < ·) := by
        refine hp.sublist ?_
        conv => rhs; rw [← List.take_append_drop (q / fac m) left]
        exact List.Sublist.append (List.Sublist.refl _) (List.drop_sublist_drop_left _ (Nat.le_succ _))
      obtain ⟨i, h3, h4, h5⟩ := nthR_less (m := m) (left := left.take (q / fac m) ++ left.drop (q / fac m + 1)) (by rw [List.length_append, List.length_take, List.length_drop, hl]; omega) hs hlt (Nat.mod_lt _ fp)
      rw [he]
      refine ⟨i + 1, by omega, fun j hj => ?_, by rw [cons_atS, cons_atS]; exact h5⟩
      cases j with
      | zero => rfl
      | succ j => rw [cons_atS, cons_atS]; exact h4 j (by omega)
    · refine ⟨0, by omega, fun j hj => absurd hj (Nat.not_lt_zero _), ?_⟩
      rw [cons_at0, cons_at0]
      exact inc_at hp (by omega) (by omega)
theorem nth_ordL {n k : Nat} (hk : k < fac n) : OrdL (nthR n (upI n) k) := by
  rw [ordL_perm, nthR_len]
  exact nthR_perm (upI_len n) hk
theorem nthA_yes {n k : Nat} (hn : n ≤ 12) (hk : k < fac n) : nthA (n : Int) (k : Int) = .tup [.vec 1 (ints (nthR n (upI n) k)), .int .i64 0] := by
  rw [nthA, if_pos ⟨by omega, by omega, by omega, by rw [Int.toNat_natCast]; omega⟩, Int.toNat_natCast, Int.toNat_natCast]
theorem nthA_no {n k : Nat} (hk : ¬ k < fac n) : nthA (n : Int) (k : Int) = .tup [.vec 1 [], .int .i64 1] := by
  rw [nthA, if_neg (by rw [Int.toNat_natCast]; omega)]
theorem onums_run {n k : Int} (hn : I64 n) (hk : I64 k) : runP tab 1173 [.int .i64 n, .int .i64 k] [] = some (.bool true, []) := by
  refine runP_fn t1173 rfl ?_
  have gt := exm_run
  have hn0 := hn
  have hk0 := hk
  obtain ⟨n1, n2⟩ := hn
  obtain ⟨k1, k2⟩ := hk
  by_cases h1 : n < 0
  · simp (config := { maxSteps := 1000000 }) (disch := omega) only [go_sem, ↓reduceIte, Nat.reduceEqDiff, Nat.reduceAdd, Int.reduceToNat, reduceCtorEq, Nat.reduceLeDiff, Nat.reduceSub, Nat.reduceDiv, Nat.reduceMod, Nat.reduceMul, d1173, gt]
  by_cases h2 : 12 < n
  · simp (config := { maxSteps := 1000000 }) (disch := omega) only [go_sem, ↓reduceIte, Nat.reduceEqDiff, Nat.reduceAdd, Int.reduceToNat, reduceCtorEq, Nat.reduceLeDiff, Nat.reduceSub, Nat.reduceDiv, Nat.reduceMod, Nat.reduceMul, d1173, gt]
  by_cases h3 : k < 0
  · simp (config := { maxSteps := 1000000 }) (disch := omega) only [go_sem, ↓reduceIte, Nat.reduceEqDiff, Nat.reduceAdd, Int.reduceToNat, reduceCtorEq, Nat.reduceLeDiff, Nat.reduceSub, Nat.reduceDiv, Nat.reduceMod, Nat.reduceMul, d1173, gt]
  by_cases h4 : 479001600 < k
  · simp (config := { maxSteps := 1000000 }) (disch := omega) only [go_sem, ↓reduceIte, Nat.reduceEqDiff, Nat.reduceAdd, Int.reduceToNat, reduceCtorEq, Nat.reduceLeDiff, Nat.reduceSub, Nat.reduceDiv, Nat.reduceMod, Nat.reduceMul, d1173, gt]
  obtain ⟨n, rfl⟩ := Int.eq_ofNat_of_zero_le (show 0 ≤ n by omega)
  obtain ⟨k, rfl⟩ := Int.eq_ofNat_of_zero_le (show 0 ≤ k by omega)
  have g1 := nth_run hn0 hk0
  have g2 := nth_run (n := (n : Int)) (k := (k : Int) + 1) hn0 ⟨by omega, by omega⟩
  rw [show (k : Int) + 1 = ((k + 1 : Nat) : Int) by omega] at g2
  have ek : (k : Int) + 1 = ((k + 1 : Nat) : Int) := by omega
  by_cases hk : k < fac n
  · rw [nthA_yes (by omega) hk] at g1
    have ho := nth_ordL hk
    have hl := nthR_len n (upI n) k
    have g3 := turns_run (l := nthR n (upI n) k) (by omega)
    rw [turA, if_pos ⟨by omega, isO_yes ho⟩, hl, rank_nth (upI_len n) (upI_nodup n) hk] at g3
    have g4 := isord_run (l := nthR n (upI n) k) (n := (n : Int)) (by omega)
    rw [show isN (nthR n (upI n) k) (n : Int) = true by simp [isN, hl, isO_yes ho]] at g4
    by_cases hq : k + 1 < fac n
    · rw [nthA_yes (by omega) hq, ← ek] at g2
      obtain ⟨i, i1, i2, i3⟩ := nthR_less (upI_len n) (upI_inc n) (Nat.lt_succ_self k) hq
      have hl2 := nthR_len n (upI n) (k + 1)
      generalize nthR n (upI n) (k + 1) = b at *
      generalize nthR n (upI n) k = a at *
      simp (config := { maxSteps := 1000000 }) (disch := omega) only [go_sem, ↓reduceIte, Nat.reduceEqDiff, Nat.reduceAdd, Int.reduceToNat, reduceCtorEq, Nat.reduceLeDiff, Nat.reduceSub, Nat.reduceDiv, Nat.reduceMod, Nat.reduceMul, d1173, g1, g2, g3, g4]
      refine Ev_loop0 (fun i => ⟨[(0, .int .i64 (n : Int)), (5, .own 1 0), (7, .own 1 1), (11, .int .i64 (i : Int))], [.row false (ints a), .row false (ints b)], 0, [(0, 2, [0, 5, 7, 11], [(5, 0), (7, 1)])]⟩) i rfl (fun j hj => ?_) ?_
      · have e := i2 j hj
        simp (config := { maxSteps := 1000000 }) (disch := omega) only [go_sem, ↓reduceIte, Nat.reduceEqDiff, Nat.reduceAdd, Int.reduceToNat, reduceCtorEq, Nat.reduceLeDiff, Nat.reduceSub, Nat.reduceDiv, Nat.reduceMod, Nat.reduceMul, d1173_b0, e]
      · simp (config := { maxSteps := 1000000 }) (disch := omega) only [go_sem, ↓reduceIte, Nat.reduceEqDiff, Nat.reduceAdd, Int.reduceToNat, reduceCtorEq, Nat.reduceLeDiff, Nat.reduceSub, Nat.reduceDiv, Nat.reduceMod, Nat.reduceMul, d1173_b0, gt]
    · rw [nthA_no hq, ← ek] at g2
      generalize nthR n (upI n) k = a at *
      simp (config := { maxSteps := 1000000 }) (disch := omega) only [go_sem, ↓reduceIte, Nat.reduceEqDiff, Nat.reduceAdd, Int.reduceToNat, reduceCtorEq, Nat.reduceLeDiff, Nat.reduceSub, Nat.reduceDiv, Nat.reduceMod, Nat.reduceMul, d1173, g1, g2, g3, g4, gt]
  · rw [nthA_no hk] at g1
    rw [nthA_no (by omega), ← ek] at g2
    simp (config := { maxSteps := 1000000 }) (disch := omega) only [go_sem, ↓reduceIte, Nat.reduceEqDiff, Nat.reduceAdd, Int.reduceToNat, reduceCtorEq, Nat.reduceLeDiff, Nat.reduceSub, Nat.reduceDiv, Nat.reduceMod, Nat.reduceMul, d1173, g1, g2, gt]
def dwn (n i : Nat) : List Int := (List.range i).map fun j : Nat => (n : Int) - 1 - (j : Int)
theorem dwn_len (n i : Nat) : (dwn n i).length = i := by simp [dwn]
theorem dwn_succ (n i : Nat) : dwn n (i + 1) = dwn n i ++ [(n : Int) - 1 - (i : Int)] := by simp [dwn, List.range_succ]
theorem dwn_at {n i j : Nat} (h : j < i) : (dwn n i).getD j 0 = (n : Int) - 1 - (j : Int) := by
  simp [dwn, List.getD_eq_getElem?_getD, h]
theorem dwn_ordL (n : Nat) : OrdL (dwn n n) := by
  constructor
  · intro x hx
    obtain ⟨i, hi, rfl⟩ := memI.1 hx
    rw [dwn_len] at hi ⊢
    rw [dwn_at hi]; omega
  · unfold dwn List.Nodup
    rw [List.pairwise_map]
    exact (List.nodup_range (n := n)).imp fun h e => h (by omega)
theorem rank_last : ∀ {l left : List Int}, l.Perm left → l.Pairwise (fun x y => y < x) → left.Pairwise (· < ·) → rankR left l + 1 = fac l.length
  | [], left, h, _, _ => by rw [rankR]; rfl
  | x :: l, left, h, hf, hp => by
    have hm : x ∈ left := h.mem_iff.1 (by simp)
    have h1 := ixI_lt hm
    have h2 := ixI_at hm
    have hpp := pick_perm h1
    rw [h2] at hpp
    have h3 : l.Perm (left.take (ixI left x) ++ left.drop (ixI left x + 1)) := (h.trans hpp.symm).cons_inv
    have hll := h.length_eq
    rw [List.length_cons] at hll
    have e : ixI left x = l.length := by
      rcases Nat.lt_or_ge (ixI left x + 1) left.length with hlt | hge
      · have hy : left.getD (left.length - 1) 0 ∈ left := getD_mem (by omega)
        have h4 := inc_at hp (i := ixI left x) (j := left.length - 1) (by omega) (by omega)
        rw [h2] at h4
        have h5 := h.mem_iff.2 hy
        rw [List.mem_cons] at h5
        rcases h5 with h5 | h5
        · omega
        · have := (List.pairwise_cons.1 hf).1 _ h5
          omega
      · omega
    have hs : (left.take (ixI left x) ++ left.drop (ixI left x + 1)).Pairwise (· < ·) := by
      refine hp.sublist ?_
      conv => rhs; rw [← List.take_append_drop (ixI left x) left]
      exact List.Sublist.append (List.Sublist.refl _) (List.drop_sublist_drop_left _ (Nat.le_succ _))
    have ih := rank_last h3 (List.pairwise_cons.1 hf).2 hs
    rw [rankR, List.length_cons, fac, Nat.mul_succ, e]
    rw [e] at ih
    rw [Nat.mul_comm]
    omega
theorem dwn_fall (n : Nat) : (dwn n n).Pairwise (fun x y => y < x) := by
  unfold dwn
  rw [List.pairwise_map]
  exact (List.pairwise_lt_range (n := n)).imp fun h => by omega
theorem nthR_zero : ∀ {m : Nat} {left : List Int}, left.length = m → nthR m left 0 = left
  | 0, left, h => by rw [nthR, List.eq_nil_of_length_eq_zero h]
  | m + 1, x :: left, h => by
    rw [nthR, Nat.zero_div, Nat.zero_mod]
    show x :: nthR m (([] : List Int) ++ left) 0 = _
    rw [List.nil_append, nthR_zero (by simpa using h)]
theorem oends_run {n : Int} (hn : I64 n) : runP tab 1174 [.int .i64 n] [] = some (.bool true, []) := by
  refine runP_fn t1174 rfl ?_
  have gt := exm_run
  have hn0 := hn
  obtain ⟨n1, n2⟩ := hn
  by_cases h1 : n < 0
  · simp (config := { maxSteps := 1000000 }) (disch := omega) only [go_sem, ↓reduceIte, Nat.reduceEqDiff, Nat.reduceAdd, Int.reduceToNat, reduceCtorEq, Nat.reduceLeDiff, Nat.reduceSub, Nat.reduceDiv, Nat.reduceMod, Nat.reduceMul, d1174, gt]
  by_cases h2 : 12 < n
  · simp (config := { maxSteps := 1000000 }) (disch := omega) only [go_sem, ↓reduceIte, Nat.reduceEqDiff, Nat.reduceAdd, Int.reduceToNat, reduceCtorEq, Nat.reduceLeDiff, Nat.reduceSub, Nat.reduceDiv, Nat.reduceMod, Nat.reduceMul, d1174, gt]
  obtain ⟨n, rfl⟩ := Int.eq_ofNat_of_zero_le (show 0 ≤ n by omega)
  have hf := fac_le (n := n) (by omega)
  have fp := fac_pos n
  have ho := dwn_ordL n
  have hdl := dwn_len n n
  have hp : (dwn n n).Perm (upI n) := by have := ordL_perm.1 ho; rwa [hdl] at this
  have hr := rank_last hp (dwn_fall n) (upI_inc n)
  rw [hdl] at hr
  have g1 := nth_run (n := (n : Int)) (k := ((0 : Nat) : Int)) hn0 ⟨by omega, by omega⟩
  rw [nthA_yes (by omega) fp, nthR_zero (upI_len n), Int.cast_ofNat_Int] at g1
  have g2 := turns_run (l := dwn n n) (by omega)
  rw [turA, if_pos ⟨by omega, isO_yes ho⟩, hdl] at g2
  have g3 := nth_run (n := (n : Int)) (k := ((rankR (upI n) (dwn n n) : Nat) : Int)) hn0 ⟨by omega, by omega⟩
  have hnr := nth_rank hp
  rw [hdl] at hnr
  rw [nthA_yes (by omega) (by omega), hnr] at g3
  have g4 := nth_run (n := (n : Int)) (k := ((rankR (upI n) (dwn n n) + 1 : Nat) : Int)) hn0 ⟨by omega, by omega⟩
  have ek : ((rankR (upI n) (dwn n n) : Nat) : Int) + 1 = ((rankR (upI n) (dwn n n) + 1 : Nat) : Int) := by omega
  rw [nthA_no (by omega), ← ek] at g4
  have g5 := ints_run (a := dwn n n) (b := dwn n n) (by omega) (by omega)
  rw [beq_self_eq_true] at g5
  have hu := upI_len n
  generalize rankR (upI n) (dwn n n) = k at *
  simp (config := { maxSteps := 1000000 }) (disch := omega) only [go_sem, ↓reduceIte, Nat.reduceEqDiff, Nat.reduceAdd, Int.reduceToNat, reduceCtorEq, Nat.reduceLeDiff, Nat.reduceSub, Nat.reduceDiv, Nat.reduceMod, Nat.reduceMul, d1174]
  refine Ev_loop0 (fun i => ⟨[(0, .int .i64 (n : Int)), (3, .own 1 0), (4, .int .i64 ((n : Int) - 1 - (i : Int)))], [.row false (ints (dwn n i))], 0, [(0, 1, [0, 3, 4], [(3, 0)])]⟩) n (by simp [dwn, ints]) (fun i hi => ?_) ?_
  · rw [dwn_succ]
    have hle := dwn_len n i
    have e : (n : Int) - 1 - ((i + 1 : Nat) : Int) = (n : Int) - 1 - (i : Int) - 1 := by omega
    rw [e]
    simp (config := { maxSteps := 1000000 }) (disch := omega) only [go_sem, ↓reduceIte, Nat.reduceEqDiff, Nat.reduceAdd, Int.reduceToNat, reduceCtorEq, Nat.reduceLeDiff, Nat.reduceSub, Nat.reduceDiv, Nat.reduceMod, Nat.reduceMul, d1174_b0]
  · have e : ∀ i, i < n → (upI n).getD i 0 = (i : Int) := fun i hi => upI_at hi
    generalize dwn n n = D at *
    generalize upI n = U at *
    simp (config := { maxSteps := 1000000 }) (disch := omega) only [go_sem, ↓reduceIte, Nat.reduceEqDiff, Nat.reduceAdd, Int.reduceToNat, reduceCtorEq, Nat.reduceLeDiff, Nat.reduceSub, Nat.reduceDiv, Nat.reduceMod, Nat.reduceMul, d1174_b0, g1, g2, g3, g4]
    refine Ev_loop0 (fun i => ⟨[(0, .int .i64 (n : Int)), (3, .own 1 0), (5, .own 1 1), (6, .int .i64 0), (8, .int .i64 0), (9, .own 1 2), (10, .int .i64 0), (12, .int .i64 1), (13, .int .i64 (i : Int))], [.row false (ints D), .row false (ints U), .row false (ints D), .row false []], 0, [(1, 4, [0, 3, 5, 6, 8, 9, 10, 12, 13], [(3, 0), (5, 1), (9, 2)]), (0, 1, [0, 3, 4], [(3, 0)])]⟩) n rfl (fun i hi => ?_) ?_
    · have e2 := e i hi
      simp (config := { maxSteps := 1000000 }) (disch := omega) only [go_sem, ↓reduceIte, Nat.reduceEqDiff, Nat.reduceAdd, Int.reduceToNat, reduceCtorEq, Nat.reduceLeDiff, Nat.reduceSub, Nat.reduceDiv, Nat.reduceMod, Nat.reduceMul, d1174_b1, e2]
    · simp (config := { maxSteps := 1000000 }) (disch := omega) only [go_sem, ↓reduceIte, Nat.reduceEqDiff, Nat.reduceAdd, Int.reduceToNat, reduceCtorEq, Nat.reduceLeDiff, Nat.reduceSub, Nat.reduceDiv, Nat.reduceMod, Nat.reduceMul, d1174_b1, gt, g5]
end Go.Proofs.Ytjebbkpbaglooaa
