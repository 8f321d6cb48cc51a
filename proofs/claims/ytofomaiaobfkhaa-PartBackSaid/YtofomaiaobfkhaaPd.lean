/- Layer 6: PartWhole, PartBack. -/
import Derived.Test.YtofomaiaobfkhaaPb
namespace Go.Proofs.Ytofomaiaobfkhaa
set_option linter.unusedSimpArgs false
set_option linter.unusedVariables false
set_option maxHeartbeats 4000000
set_option maxRecDepth 100000
theorem count_parts (h : Int → Int) (l : List Int) (x : Int) : ∀ N : Nat, ((List.range N).map fun w : Nat => l.filter fun v => h v == (w : Int)).flatten.count x = if 0 ≤ h x ∧ h x < N then l.count x else 0
  | 0 => by rw [if_neg (by omega)]; rfl
  | N + 1 => by
    rw [List.range_succ, List.map_append, List.flatten_append, List.count_append, count_parts h l x N]
    simp only [List.map_cons, List.map_nil, List.flatten_cons, List.flatten_nil, List.append_nil]
    by_cases e : h x = (N : Int)
    · rw [if_neg (by omega), if_pos (by omega), List.count_filter (p := fun v => h v == (N : Int)) (by rw [e]; simp)]; omega
    · have hz : (l.filter fun v => h v == (N : Int)).count x = 0 := List.count_eq_zero_of_not_mem (by simp [e])
      rw [hz]
      by_cases h1 : 0 ≤ h x ∧ h x < N
      · rw [if_pos h1, if_pos (by omega)]; rfl
      · rw [if_neg h1, if_neg (by omega)]
theorem parts_perm {h : Int → Int} {l : List Int} {N : Nat} (hl : ∀ v ∈ l, 0 ≤ h v ∧ h v < N) : ((List.range N).map fun w : Nat => l.filter fun v => h v == (w : Int)).flatten.Perm l := by
  rw [List.perm_iff_count]
  intro x
  rw [count_parts]
  split
  · rfl
  · rename_i hn
    exact (List.count_eq_zero_of_not_mem fun hx => hn (hl x hx)).symm
theorem prts_perm {l : List Int} {n : Int} (h : splOk l n = true) : (prts l n n.toNat).flatten.Perm l := by
  obtain ⟨h1, h2, h3⟩ := splOk_n h
  refine parts_perm (h := fun v => hmR v n) (N := n.toNat) fun v hv => ?_
  have := hm_lt (h3 v hv)
  omega
theorem sorted_congr {a b : List Int} (h : a.Perm b) : sorted ltI a = sorted ltI b :=
  srtd_uni ordrI (sorted_srtd ordrI a) (sorted_srtd ordrI b) (((sorted_perm a).trans h).trans (sorted_perm b).symm)
theorem prts_at {l : List Int} {n : Int} {k w : Nat} (h : w < k) : (prts l n k).getD w [] = prt l n w := by
  rw [prts, List.getD_eq_getElem?_getD, List.getElem?_map, List.getElem?_range h]; rfl
theorem hmR_one {v n : Int} (h : hmOk v n = true) : hmOk v 1 = true ∧ hmR v 1 = 0 := by
  simp only [hmOk, decide_eq_true_eq] at h
  have h1 : hmOk v 1 = true := by simp [hmOk]; omega
  refine ⟨h1, ?_⟩
  have := hm_lt h1
  omega
theorem back_law {l : List Int} {w : Int} : runP tab 1235 [.sl 1 (ints l), .int .i64 w] [] = some (.bool true, []) := by
  refine runP_fn t1235 rfl ?_
  by_cases h : 100 < l.length
  · simp (config := { maxSteps := 1000000 }) (disch := omega) only [go_sem, ↓reduceIte, Nat.reduceEqDiff, Nat.reduceAdd, Int.reduceToNat, reduceCtorEq, Nat.reduceLeDiff, Nat.reduceSub, Nat.reduceDiv, Nat.reduceMod, Nat.reduceMul, d1235]
  have gp := parted_run
  have g1 := split_run (l := l) (n := w) (by omega)
  cases hs : splOk l w with
  | false =>
    rw [splA, if_neg (by rw [hs]; simp)] at g1
    simp (config := { maxSteps := 1000000 }) (disch := omega) only [go_sem, ↓reduceIte, Nat.reduceEqDiff, Nat.reduceAdd, Int.reduceToNat, reduceCtorEq, Nat.reduceLeDiff, Nat.reduceSub, Nat.reduceDiv, Nat.reduceMod, Nat.reduceMul, d1235, g1, gp]
  | true =>
    rw [splA, if_pos hs] at g1
    obtain ⟨h1, h2, h3⟩ := splOk_n hs
    have hs1 : splOk l 1 = true := by
      simp only [splOk, Bool.and_eq_true, decide_eq_true_eq, List.all_eq_true]
      exact ⟨by omega, fun v hv => (hmR_one (h3 v hv)).1⟩
    have e1 : prts l 1 1 = [l] := by
      have : prt l 1 0 = l := by
        rw [prt, List.filter_eq_self]
        intro v hv
        rw [(hmR_one (h3 v hv)).2]; rfl
      simp [prts, this, List.range_succ]
    have g2 := split_run (l := l) (n := 1) (by omega)
    rw [splA, if_pos hs1, show (1 : Int).toNat = 1 from rfl, e1] at g2
    have hp := prts_perm hs
    obtain ⟨k, rfl⟩ := Int.eq_ofNat_of_zero_le (show 0 ≤ w by omega)
    rw [Int.toNat_natCast] at *
    have hl := prts_len l (k : Int) k
    have g3 := merge_run (l := prts l k k) (by omega) (by rw [hp.length_eq]; omega)
    have g4 := merge_run (l := [l]) (by simp) (by simp; omega)
    rw [sorted_congr hp] at g3
    rw [show [l].flatten = l by simp] at g4
    have hz := sorted_len (lt := ltI) l
    have g5 := ints_run (a := sorted ltI l) (b := sorted ltI l) (by omega) (by omega)
    have g6 := ints_run (a := l) (b := l) (by omega) (by omega)
    rw [beq_self_eq_true] at g5 g6
    simp only [owS, owV, rwL, rwV, List.map_cons, List.map_nil] at g2 g4
    simp (config := { maxSteps := 1000000 }) (disch := omega) only [go_sem, ↓reduceIte, Nat.reduceEqDiff, Nat.reduceAdd, Int.reduceToNat, reduceCtorEq, Nat.reduceLeDiff, Nat.reduceSub, Nat.reduceDiv, Nat.reduceMod, Nat.reduceMul, d1235, g1, g2, g3, g4, g5, g6, gp, hl]
theorem uptoI_getD {k i : Nat} (h : i < k) : (uptoI k).getD i 0 = (i : Int) := by
  rw [uptoI, List.getD_eq_getElem?_getD, List.getElem?_map, List.getElem?_range h]; rfl
theorem uptoI_inc (k : Nat) : (uptoI k).Pairwise (· < ·) := by
  rw [uptoI, List.pairwise_map]
  exact List.pairwise_lt_range.imp (by omega)
theorem uptoI_srtd (k : Nat) : srtd ltI (uptoI k) := (uptoI_inc k).imp fun h => by simp [ltI]; omega
theorem uptoI_mem {k : Nat} {v : Int} (h : v ∈ uptoI k) : 0 ≤ v ∧ v < k := by
  simp only [uptoI, List.mem_map, List.mem_range] at h
  obtain ⟨i, hi, rfl⟩ := h
  omega
theorem upto_ok {k : Nat} {w : Int} (hk : k ≤ 200) (hw : 1 ≤ w ∧ w ≤ 16) : splOk (uptoI k) w = true := by
  simp only [splOk, Bool.and_eq_true, decide_eq_true_eq, List.all_eq_true]
  refine ⟨hw, fun v hv => ?_⟩
  have := uptoI_mem hv
  simp only [hmOk, decide_eq_true_eq]; omega
theorem upto_bad {l : List Int} {w : Int} (hw : ¬ (1 ≤ w ∧ w ≤ 16)) : splOk l w = false := by simp [splOk]; intro h; omega
theorem prt_inc (k : Nat) (n w : Int) : (prt (uptoI k) n w).Pairwise (· < ·) := List.Pairwise.sublist List.filter_sublist (uptoI_inc k)
theorem prt_getD {k : Nat} {n w : Int} {i : Nat} (h : i < (prt (uptoI k) n w).length) : hmR ((prt (uptoI k) n w).getD i 0) n = w ∧ 0 ≤ (prt (uptoI k) n w).getD i 0 ∧ (prt (uptoI k) n w).getD i 0 < k := by
  have hm : (prt (uptoI k) n w).getD i 0 ∈ prt (uptoI k) n w := by
    rw [List.getD_eq_getElem?_getD, List.getElem?_eq_getElem h]; exact List.getElem_mem h
  generalize (prt (uptoI k) n w).getD i 0 = v at *
  simp only [prt, List.mem_filter, beq_iff_eq] at hm
  have := uptoI_mem hm.1
  exact ⟨hm.2, this.1, this.2⟩
def wh0 (R : List (List Int)) (k n i : Nat) : St := ⟨[(0, .int .i64 (k : Int)), (1, .int .i64 (n : Int)), (5, .own 1 0), (7, .int .i64 (i : Int))], [.row false (owV R)], 0, [(0, 1, [0, 1, 5, 7], [(5, 0)])]⟩
def wh1 (R : List (List Int)) (k n i j : Nat) : St := ⟨[(0, .int .i64 (k : Int)), (1, .int .i64 (n : Int)), (5, .own 1 0), (7, .int .i64 (i : Int)), (8, .int .i64 (j : Int))], [.row false (owV R)], 0, [(1, 1, [0, 1, 5, 7, 8], [(5, 0)]), (0, 1, [0, 1, 5, 7], [(5, 0)])]⟩
theorem owV_facts {R : List (List Int)} {u : Nat} (h : u < R.length) : ((owV R).drop u).take 1 = [.vec 1 (ints (R.getD u []))] ∧ rdc (((owV R).set u (.own 1 1)).drop u) none = some (.own 1 1) ∧ (((owV R).set u (.own 1 1)).drop u).take 1 = [.own 1 1] ∧ allL (pidlt 1) ((owV R).set u (.own 1 1)) = false ∧
    pkL 1 [.dead, .row false (ints (R.getD u []))] ((owV R).set u (.own 1 1)) = some (owV R, [.dead, .dead]) := by
  have m1 : (owV R).length = R.length := owV_len R
  refine ⟨owV_cut h, set_rdc (by omega), set_cut1 (by omega), allL_setno rfl (by omega), ?_⟩
  have := owV_pkset (n := 1) (id := 1) (hp := [.dead, .row false (ints (R.getD u []))]) (by omega) (R := R) (u := u) (r := R.getD u []) h rfl
  have es : R.set u (R.getD u []) = R := by
    refine List.ext_getElem (by simp) fun j a b => ?_
    rw [List.getElem_set]
    split
    · rename_i e; subst e; rw [List.getD_eq_getElem?_getD, List.getElem?_eq_getElem b]; rfl
    · rfl
  rw [es] at this
  exact this
theorem whole_law {n w : Int} : runP tab 1234 [.int .i64 n, .int .i64 w] [] = some (.bool true, []) := by
  refine runP_fn t1234 rfl ?_
  have gp := parted_run
  have g1 := parts_run (n := n) (w := w)
  unfold partsA at g1
  by_cases h1 : n < 0
  · rw [if_pos (Or.inl h1)] at g1
    simp (config := { maxSteps := 1000000 }) (disch := omega) only [go_sem, ↓reduceIte, Nat.reduceEqDiff, Nat.reduceAdd, Int.reduceToNat, reduceCtorEq, Nat.reduceLeDiff, Nat.reduceSub, Nat.reduceDiv, Nat.reduceMod, Nat.reduceMul, d1234, g1, gp]
  by_cases h2 : 200 < n
  · rw [if_pos (Or.inr h2)] at g1
    simp (config := { maxSteps := 1000000 }) (disch := omega) only [go_sem, ↓reduceIte, Nat.reduceEqDiff, Nat.reduceAdd, Int.reduceToNat, reduceCtorEq, Nat.reduceLeDiff, Nat.reduceSub, Nat.reduceDiv, Nat.reduceMod, Nat.reduceMul, d1234, g1, gp]
  rw [if_neg (by omega)] at g1
  obtain ⟨k, rfl⟩ := Int.eq_ofNat_of_zero_le (show 0 ≤ n by omega)
  rw [Int.toNat_natCast] at g1
  by_cases h3 : w < 1
  · rw [splA, if_neg (by rw [upto_bad (by omega)]; simp)] at g1
    simp (config := { maxSteps := 1000000 }) (disch := omega) only [go_sem, ↓reduceIte, Nat.reduceEqDiff, Nat.reduceAdd, Int.reduceToNat, reduceCtorEq, Nat.reduceLeDiff, Nat.reduceSub, Nat.reduceDiv, Nat.reduceMod, Nat.reduceMul, d1234, g1, gp]
  by_cases h4 : 16 < w
  · rw [splA, if_neg (by rw [upto_bad (by omega)]; simp)] at g1
    simp (config := { maxSteps := 1000000 }) (disch := omega) only [go_sem, ↓reduceIte, Nat.reduceEqDiff, Nat.reduceAdd, Int.reduceToNat, reduceCtorEq, Nat.reduceLeDiff, Nat.reduceSub, Nat.reduceDiv, Nat.reduceMod, Nat.reduceMul, d1234, g1, gp]
  have hs := upto_ok (k := k) (w := w) (by omega) (by omega)
  rw [splA, if_pos hs] at g1
  have hp := prts_perm hs
  obtain ⟨m, rfl⟩ := Int.eq_ofNat_of_zero_le (show 0 ≤ w by omega)
  rw [Int.toNat_natCast] at *
  have hl := prts_len (uptoI k) (m : Int) m
  have hk := uptoI_len k
  have g3 := merge_run (l := prts (uptoI k) m m) (by omega) (by rw [hp.length_eq]; omega)
  rw [srtd_uni ordrI (sorted_srtd ordrI _) (uptoI_srtd k) ((sorted_perm _).trans hp)] at g3
  simp (config := { maxSteps := 1000000 }) (disch := omega) only [go_sem, ↓reduceIte, Nat.reduceEqDiff, Nat.reduceAdd, Int.reduceToNat, reduceCtorEq, Nat.reduceLeDiff, Nat.reduceSub, Nat.reduceDiv, Nat.reduceMod, Nat.reduceMul, d1234, g1]
  refine Ev_loop0 (wh0 (prts (uptoI k) m m) k m) m rfl (fun i hi => ?_) ?_
  · have hpt := prts_at (l := uptoI k) (n := m) hi
    obtain ⟨c1, er1, er2, hI, hP⟩ := owV_facts (R := prts (uptoI k) m m) (u := i) (by omega)
    have hinc := prt_inc k m i
    have hget := fun j => prt_getD (k := k) (n := m) (w := i) (i := j)
    have hle : (prt (uptoI k) m i).length ≤ k := by have := prt_len (uptoI k) m i k; rwa [List.take_of_length_le (by omega), hk] at this
    rw [hpt] at c1 hP
    simp only [wh0]
    simp (config := { maxSteps := 1000000 }) (disch := omega) only [go_sem, ↓reduceIte, Nat.reduceEqDiff, Nat.reduceAdd, Int.reduceToNat, reduceCtorEq, Nat.reduceLeDiff, Nat.reduceSub, Nat.reduceDiv, Nat.reduceMod, Nat.reduceMul, d1234_b0, hl]
    refine Ev_loop0 (wh1 (prts (uptoI k) m m) k m i) (prt (uptoI k) m i).length rfl (fun j hj => ?_) ?_
    · have gh := home_run (v := (prt (uptoI k) m i).getD j 0) (w := m)
      obtain ⟨q1, q2, q3⟩ := hget j hj
      rw [q1, show hmOk ((prt (uptoI k) m i).getD j 0) m = true by simp only [hmOk, decide_eq_true_eq]; omega] at gh
      simp only [wh1]
      have m1 : (owV (prts (uptoI k) m m)).length = m := by rw [owV_len, hl]
      by_cases j0 : j = 0
      · subst j0
        have hz : rdc (ints (prt (uptoI k) m i)) none = some (.int .i64 ((prt (uptoI k) m i).getD 0 0)) := by
          have := ints_rdc0 (l := prt (uptoI k) m i) (i := 0) hj
          rwa [List.drop_zero] at this
        simp (config := { maxSteps := 1000000 }) (disch := omega) only [go_sem, ↓reduceIte, Nat.reduceEqDiff, Nat.reduceAdd, Int.reduceToNat, reduceCtorEq, Nat.reduceLeDiff, Nat.reduceSub, Nat.reduceDiv, Nat.reduceMod, Nat.reduceMul, d1234_b1, c1, er1, er2, List.set_set, hI, hP, m1, gh, hz]
      · have hlt : (prt (uptoI k) m i).getD (j - 1) 0 < (prt (uptoI k) m i).getD j 0 := inc_at hinc (by omega) hj
        have e1 : (j : Int) - 1 = ((j - 1 : Nat) : Int) := by omega
        simp (config := { maxSteps := 1000000 }) (disch := omega) only [go_sem, ↓reduceIte, Nat.reduceEqDiff, Nat.reduceAdd, Int.reduceToNat, reduceCtorEq, Nat.reduceLeDiff, Nat.reduceSub, Nat.reduceDiv, Nat.reduceMod, Nat.reduceMul, d1234_b1, c1, er1, er2, List.set_set, hI, hP, m1, gh, e1]
    · have m1 : (owV (prts (uptoI k) m m)).length = m := by rw [owV_len, hl]
      simp only [wh1]
      simp (config := { maxSteps := 1000000 }) (disch := omega) only [go_sem, ↓reduceIte, Nat.reduceEqDiff, Nat.reduceAdd, Int.reduceToNat, reduceCtorEq, Nat.reduceLeDiff, Nat.reduceSub, Nat.reduceDiv, Nat.reduceMod, Nat.reduceMul, d1234_b1, c1, er1, er2, List.set_set, hI, hP, m1]
  · simp only [wh0]
    simp (config := { maxSteps := 1000000 }) (disch := omega) only [go_sem, ↓reduceIte, Nat.reduceEqDiff, Nat.reduceAdd, Int.reduceToNat, reduceCtorEq, Nat.reduceLeDiff, Nat.reduceSub, Nat.reduceDiv, Nat.reduceMod, Nat.reduceMul, d1234_b0, hl, g3]
    refine Ev_loop0 (fun i => ⟨[(0, .int .i64 (k : Int)), (1, .int .i64 (m : Int)), (5, .own 1 0), (11, .own 1 1), (12, .int .i64 (i : Int))], [.row false (owV (prts (uptoI k) m m)), .row false (ints (uptoI k))], 0, [(2, 2, [0, 1, 5, 11, 12], [(5, 0), (11, 1)]), (0, 1, [0, 1, 5, 7], [(5, 0)])]⟩) k rfl (fun i hi => ?_) ?_
    · have hg := uptoI_getD hi
      simp (config := { maxSteps := 1000000 }) (disch := omega) only [go_sem, ↓reduceIte, Nat.reduceEqDiff, Nat.reduceAdd, Int.reduceToNat, reduceCtorEq, Nat.reduceLeDiff, Nat.reduceSub, Nat.reduceDiv, Nat.reduceMod, Nat.reduceMul, d1234_b2, hg]
    · simp (config := { maxSteps := 1000000 }) (disch := omega) only [go_sem, ↓reduceIte, Nat.reduceEqDiff, Nat.reduceAdd, Int.reduceToNat, reduceCtorEq, Nat.reduceLeDiff, Nat.reduceSub, Nat.reduceDiv, Nat.reduceMod, Nat.reduceMul, d1234_b2, hl, hk, gp]
end Go.Proofs.Ytofomaiaobfkhaa
