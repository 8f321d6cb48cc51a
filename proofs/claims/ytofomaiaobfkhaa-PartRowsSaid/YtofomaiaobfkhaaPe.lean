/- Layer 6: PartMerges, PartRows. -/
import Derived.Test.YtofomaiaobfkhaaPd
import Derived.Test.YtofomaiaobfkhaaLb
namespace Go.Proofs.Ytofomaiaobfkhaa
set_option linter.unusedSimpArgs false
set_option linter.unusedVariables false
set_option maxHeartbeats 4000000
set_option maxRecDepth 100000
theorem fit_rowsB {v : AV} (h : FitB (.sl 1 [.sl 1 [.int .i64]]) v) : ∃ l : List (List Int), v = .sl 1 (owS l) ∧ l.length ≤ 140737488351232 ∧ ∀ i, (l.getD i []).length ≤ 140737488351232 := by
  obtain ⟨rows, rfl, hl, hr⟩ := h
  have : ∃ l : List (List Int), rows.flatten = owS l ∧ l.length = rows.length ∧ ∀ r ∈ l, r.length ≤ 140737488351232 := by
    clear hl
    induction rows with
    | nil => exact ⟨[], rfl, rfl, by simp⟩
    | cons r rows ih =>
      obtain ⟨l, h1, h2, h3⟩ := ih (fun r hr' => hr r (by simp [hr']))
      have h4 := hr r (by simp)
      simp only [FitLB] at h4
      obtain ⟨v, us, rfl, h5, rfl⟩ := h4
      obtain ⟨n, rfl, h6, h7⟩ := fitB_ints h5
      refine ⟨n :: l, by simp [h1, owS, rwL], by simp [h2], fun x hx => ?_⟩
      rcases List.mem_cons.1 hx with rfl | hx
      · exact h6
      · exact h3 x hx
  obtain ⟨l, h1, h2, h3⟩ := this
  refine ⟨l, by rw [h1], by rw [h2]; exact hl, fun i => ?_⟩
  by_cases hi : i < l.length
  · rw [List.getD_eq_getElem?_getD, List.getElem?_eq_getElem hi]; exact h3 _ (List.getElem_mem hi)
  · rw [List.getD_eq_getElem?_getD, List.getElem?_eq_none (by omega)]; simp
theorem flat_bound {l : List (List Int)} {M : Nat} (hr : ∀ i, (l.getD i []).length ≤ M) : ∀ i, i ≤ l.length → (l.take i).flatten.length ≤ i * M
  | 0, _ => by simp
  | i + 1, h => by
    have h1 := flat_bound hr i (by omega)
    have h2 := hr i
    rw [flat_snoc (by omega), List.length_append, Nat.add_mul]; omega
def bgW (l : List (List Int)) : Nat → Int
  | 0 => 0
  | i + 1 => IntKind.i64.wrap (bgW l i + ((l.getD i []).length : Int))
theorem bgW_eq {l : List (List Int)} (h : l.length ≤ 60) (hr : ∀ i, (l.getD i []).length ≤ 140737488351232) : ∀ i, i ≤ l.length → bgW l i = ((l.take i).flatten.length : Int)
  | 0, _ => by simp [bgW]
  | i + 1, hi => by
    have h1 := bgW_eq h hr i (by omega)
    have h2 := flat_bound hr i (by omega)
    have h3 := hr i
    have h4 : i * 140737488351232 ≤ 60 * 140737488351232 := Nat.mul_le_mul_right _ (by omega)
    rw [bgW, h1, flat_snoc (by omega), List.length_append, wrap_id (by omega) (by omega)]; omega
def bigQ6 (l : List (List Int)) : Bool := decide (60 < l.length ∨ 150 < l.flatten.length)
theorem big06_run {l : List (List Int)} (hl : l.length ≤ 140737488351232) (hr : ∀ i, (l.getD i []).length ≤ 140737488351232) : runP tab 1244 [.sl 1 (owS l)] [] = some (.bool (bigQ6 l), []) := by
  refine runP_fn t1244 rfl ?_
  simp (config := { maxSteps := 1000000 }) (disch := omega) only [go_sem, ↓reduceIte, Nat.reduceEqDiff, Nat.reduceAdd, Int.reduceToNat, reduceCtorEq, Nat.reduceLeDiff, Nat.reduceSub, Nat.reduceDiv, Nat.reduceMod, Nat.reduceMul, d1244]
  refine Ev_loop0 (fun i => ⟨[(0, .sl 1 (owS l)), (3, .int .i64 (bgW l i)), (4, .int .i64 (i : Int))], [], 0, [(0, 0, [0, 3, 4], [])]⟩) l.length rfl (fun i hi => ?_) ?_
  · have h3 := hr i
    have e : bgW l (i + 1) = IntKind.i64.wrap (bgW l i + ((l.getD i []).length : Int)) := rfl
    simp (config := { maxSteps := 1000000 }) (disch := omega) only [go_sem, ↓reduceIte, Nat.reduceEqDiff, Nat.reduceAdd, Int.reduceToNat, reduceCtorEq, Nat.reduceLeDiff, Nat.reduceSub, Nat.reduceDiv, Nat.reduceMod, Nat.reduceMul, d1244_b0, e]
  · by_cases h60 : 60 < l.length
    · have hb : bigQ6 l = true := by simp [bigQ6, h60]
      simp (config := { maxSteps := 1000000 }) (disch := omega) only [go_sem, ↓reduceIte, Nat.reduceEqDiff, Nat.reduceAdd, Int.reduceToNat, reduceCtorEq, Nat.reduceLeDiff, Nat.reduceSub, Nat.reduceDiv, Nat.reduceMod, Nat.reduceMul, d1244_b0, hb]
    · have e := bgW_eq (by omega) hr l.length (Nat.le_refl _)
      rw [List.take_length] at e
      by_cases h150 : 150 < l.flatten.length
      · have hb : bigQ6 l = true := by rw [bigQ6, decide_eq_true_eq]; exact .inr h150
        simp (config := { maxSteps := 1000000 }) (disch := omega) only [go_sem, ↓reduceIte, Nat.reduceEqDiff, Nat.reduceAdd, Int.reduceToNat, reduceCtorEq, Nat.reduceLeDiff, Nat.reduceSub, Nat.reduceDiv, Nat.reduceMod, Nat.reduceMul, d1244_b0, hb, e]
      · have hb : bigQ6 l = false := by rw [bigQ6, decide_eq_false_iff_not]; omega
        simp (config := { maxSteps := 1000000 }) (disch := omega) only [go_sem, ↓reduceIte, Nat.reduceEqDiff, Nat.reduceAdd, Int.reduceToNat, reduceCtorEq, Nat.reduceLeDiff, Nat.reduceSub, Nat.reduceDiv, Nat.reduceMod, Nat.reduceMul, d1244_b0, hb, e]
theorem own06_run {l : List (List Int)} (hl : l.length ≤ 1000000) (hr : ∀ i, (l.getD i []).length ≤ 1000000) : runP tab 1245 [.sl 1 (owS l)] [] = some (.vec 1 (owV l), []) := by
  refine runP_fn t1245 rfl ?_
  simp (config := { maxSteps := 1000000 }) (disch := omega) only [go_sem, ↓reduceIte, Nat.reduceEqDiff, Nat.reduceAdd, Int.reduceToNat, reduceCtorEq, Nat.reduceLeDiff, Nat.reduceSub, Nat.reduceDiv, Nat.reduceMod, Nat.reduceMul, d1245]
  refine Ev_loop0 (fun i => ⟨[(0, .sl 1 (owS l)), (3, .own 1 0), (4, .int .i64 (i : Int))], [.row false (owV (l.take i))], 0, [(0, 1, [0, 3, 4], [(3, 0)])]⟩) l.length rfl (fun i hi => ?_) ?_
  · have g := owni_run (l := l.getD i []) (hr i)
    have e : l.take (i + 1) = l.take i ++ [l.getD i []] := take_succ_getD hi
    have e2 : (l.take i).length = i := by rw [List.length_take]; omega
    simp (config := { maxSteps := 1000000 }) (disch := omega) only [go_sem, ↓reduceIte, Nat.reduceEqDiff, Nat.reduceAdd, Int.reduceToNat, reduceCtorEq, Nat.reduceLeDiff, Nat.reduceSub, Nat.reduceDiv, Nat.reduceMod, Nat.reduceMul, d1245_b0, g, e, e2]
  · simp (config := { maxSteps := 1000000 }) (disch := omega) only [go_sem, ↓reduceIte, Nat.reduceEqDiff, Nat.reduceAdd, Int.reduceToNat, reduceCtorEq, Nat.reduceLeDiff, Nat.reduceSub, Nat.reduceDiv, Nat.reduceMod, Nat.reduceMul, d1245_b0, List.take_length]
theorem cnt_succ {l : List Int} {i : Nat} (n : Int) (h : i < l.length) : (l.take (i + 1)).count n = (l.take i).count n + if l.getD i 0 = n then 1 else 0 := by
  rw [take_succ_getD h, List.count_append]
  have : l.getD i default = l.getD i 0 := rfl
  rw [this, List.count_singleton]
  by_cases e : l.getD i 0 = n
  · rw [if_pos e, if_pos (by simpa using e)]
  · rw [if_neg e, if_neg (by simpa using e)]
theorem cntn_le (l : List Int) (n : Int) (i : Nat) : (l.take i).count n ≤ i := by
  have h1 := List.count_le_length (a := n) (l := l.take i)
  rw [List.length_take] at h1; omega
theorem count_run {l : List Int} {n : Int} (hl : l.length ≤ 1000000) : runP tab 1249 [.sl 1 (ints l), .int .i64 n] [] = some (.int .i64 (l.count n : Int), []) := by
  refine runP_fn t1249 rfl ?_
  simp (config := { maxSteps := 1000000 }) (disch := omega) only [go_sem, ↓reduceIte, Nat.reduceEqDiff, Nat.reduceAdd, Int.reduceToNat, reduceCtorEq, Nat.reduceLeDiff, Nat.reduceSub, Nat.reduceDiv, Nat.reduceMod, Nat.reduceMul, d1249]
  refine Ev_loop0 (fun i => ⟨[(0, .sl 1 (ints l)), (1, .int .i64 n), (5, .int .i64 ((l.take i).count n : Int)), (6, .int .i64 (i : Int))], [], 0, [(0, 0, [0, 1, 5, 6], [])]⟩) l.length (by simp) (fun i hi => ?_) ?_
  · have h1 := cnt_succ n hi
    have h2 := cntn_le l n i
    by_cases e : l.getD i 0 = n
    · rw [if_pos e] at h1
      simp (config := { maxSteps := 1000000 }) (disch := omega) only [go_sem, ↓reduceIte, Nat.reduceEqDiff, Nat.reduceAdd, Int.reduceToNat, reduceCtorEq, Nat.reduceLeDiff, Nat.reduceSub, Nat.reduceDiv, Nat.reduceMod, Nat.reduceMul, d1249_b0, h1]
    · rw [if_neg e] at h1
      simp (config := { maxSteps := 1000000 }) (disch := omega) only [go_sem, ↓reduceIte, Nat.reduceEqDiff, Nat.reduceAdd, Int.reduceToNat, reduceCtorEq, Nat.reduceLeDiff, Nat.reduceSub, Nat.reduceDiv, Nat.reduceMod, Nat.reduceMul, d1249_b0, h1]
  · simp (config := { maxSteps := 1000000 }) (disch := omega) only [go_sem, ↓reduceIte, Nat.reduceEqDiff, Nat.reduceAdd, Int.reduceToNat, reduceCtorEq, Nat.reduceLeDiff, Nat.reduceSub, Nat.reduceDiv, Nat.reduceMod, Nat.reduceMul, d1249_b0, List.take_length]
theorem many_run {l : List (List Int)} {n : Int} (hl : l.length ≤ 1000000) (hf : l.flatten.length ≤ 1000000) : runP tab 1248 [.sl 1 (owS l), .int .i64 n] [] = some (.int .i64 (l.flatten.count n : Int), []) := by
  refine runP_fn t1248 rfl ?_
  simp (config := { maxSteps := 1000000 }) (disch := omega) only [go_sem, ↓reduceIte, Nat.reduceEqDiff, Nat.reduceAdd, Int.reduceToNat, reduceCtorEq, Nat.reduceLeDiff, Nat.reduceSub, Nat.reduceDiv, Nat.reduceMod, Nat.reduceMul, d1248]
  refine Ev_loop0 (fun i => ⟨[(0, .sl 1 (owS l)), (1, .int .i64 n), (5, .int .i64 ((l.take i).flatten.count n : Int)), (6, .int .i64 (i : Int))], [], 0, [(0, 0, [0, 1, 5, 6], [])]⟩) l.length (by simp) (fun i hi => ?_) ?_
  · have h1 := flat_snoc hi
    have h2 := List.count_le_length (a := n) (l := (l.take i).flatten)
    have h3 := flat_take_le l i
    have h4 := row_le hi
    have h5 := List.count_le_length (a := n) (l := l.getD i [])
    have g := count_run (l := l.getD i []) (n := n) (by omega)
    rw [h1, List.count_append]
    simp (config := { maxSteps := 1000000 }) (disch := omega) only [go_sem, ↓reduceIte, Nat.reduceEqDiff, Nat.reduceAdd, Int.reduceToNat, reduceCtorEq, Nat.reduceLeDiff, Nat.reduceSub, Nat.reduceDiv, Nat.reduceMod, Nat.reduceMul, d1248_b0, g]
  · simp (config := { maxSteps := 1000000 }) (disch := omega) only [go_sem, ↓reduceIte, Nat.reduceEqDiff, Nat.reduceAdd, Int.reduceToNat, reduceCtorEq, Nat.reduceLeDiff, Nat.reduceSub, Nat.reduceDiv, Nat.reduceMod, Nat.reduceMul, d1248_b0, List.take_length]
theorem merges_law {l : List (List Int)} (hl : l.length ≤ 140737488351232) (hr : ∀ i, (l.getD i []).length ≤ 140737488351232) : runP tab 1233 [.sl 1 (owS l)] [] = some (.bool true, []) := by
  refine runP_fn t1233 rfl ?_
  have g0 := big06_run hl hr
  cases hb : bigQ6 l with
  | true =>
    rw [hb] at g0
    simp (config := { maxSteps := 1000000 }) (disch := omega) only [go_sem, ↓reduceIte, Nat.reduceEqDiff, Nat.reduceAdd, Int.reduceToNat, reduceCtorEq, Nat.reduceLeDiff, Nat.reduceSub, Nat.reduceDiv, Nat.reduceMod, Nat.reduceMul, d1233, g0]
  | false =>
    rw [hb] at g0
    simp only [bigQ6, decide_eq_false_iff_not] at hb
    have hrow : ∀ i, (l.getD i []).length ≤ 150 := fun i => by
      by_cases hi : i < l.length
      · have := row_le hi; omega
      · rw [List.getD_eq_getElem?_getD, List.getElem?_eq_none (by omega)]; simp
    have gp := parted_run
    have g1 := own06_run (l := l) (by omega) (fun i => by have := hrow i; omega)
    have g2 := merge_run (l := l) (by omega) (by omega)
    have g3 := rmerge_run (l := l) (by omega) (by omega)
    have hz := sorted_len (lt := ltI) l.flatten
    have g4 := ints_run (a := sorted ltI l.flatten) (b := sorted ltI l.flatten) (by omega) (by omega)
    have g5 := same06_run (a := l) (b := l) (by omega) (by omega) (fun i => by have := hrow i; omega) (fun i => by have := hrow i; omega)
    rw [beq_self_eq_true] at g4 g5
    simp (config := { maxSteps := 1000000 }) (disch := omega) only [go_sem, ↓reduceIte, Nat.reduceEqDiff, Nat.reduceAdd, Int.reduceToNat, reduceCtorEq, Nat.reduceLeDiff, Nat.reduceSub, Nat.reduceDiv, Nat.reduceMod, Nat.reduceMul, d1233, g0, g1, g2, g3, g4, g5, gp]
theorem srtd_getD {l : List Int} (h : srtd ltI l) {i j : Nat} (hij : i < j) (hj : j < l.length) : l.getD i 0 ≤ l.getD j 0 := by
  have := List.pairwise_iff_getElem.1 h i j (by omega) hj hij
  rw [List.getD_eq_getElem?_getD, List.getElem?_eq_getElem (by omega), List.getD_eq_getElem?_getD, List.getElem?_eq_getElem hj]
  simpa [ltI] using this
theorem rows_law {l : List (List Int)} (hl : l.length ≤ 140737488351232) (hr : ∀ i, (l.getD i []).length ≤ 140737488351232) : runP tab 1236 [.sl 1 (owS l)] [] = some (.bool true, []) := by
  refine runP_fn t1236 rfl ?_
  have g0 := big06_run hl hr
  cases hb : bigQ6 l with
  | true =>
    rw [hb] at g0
    simp (config := { maxSteps := 1000000 }) (disch := omega) only [go_sem, ↓reduceIte, Nat.reduceEqDiff, Nat.reduceAdd, Int.reduceToNat, reduceCtorEq, Nat.reduceLeDiff, Nat.reduceSub, Nat.reduceDiv, Nat.reduceMod, Nat.reduceMul, d1236, g0]
  | false =>
    rw [hb] at g0
    simp only [bigQ6, decide_eq_false_iff_not] at hb
    have gp := parted_run
    have g2 := merge_run (l := l) (by omega) (by omega)
    have hz := sorted_len (lt := ltI) l.flatten
    have hq : l.reverse.flatten.Perm l.flatten := List.Perm.flatten (List.reverse_perm l)
    have hql := hq.length_eq
    have g3 := merge_run (l := l.reverse) (by simp; omega) (by omega)
    rw [sorted_congr hq] at g3
    have g4 := ints_run (a := sorted ltI l.flatten) (b := sorted ltI l.flatten) (by omega) (by omega)
    rw [beq_self_eq_true] at g4
    have hs := sorted_srtd ordrI l.flatten
    have hcount : ∀ x, (sorted ltI l.flatten).count x = l.flatten.count x := fun x => (sorted_perm (lt := ltI) l.flatten).count_eq x
    have gm := fun x => many_run (l := l) (n := x) (by omega) (by omega)
    have gc := fun x => count_run (l := sorted ltI l.flatten) (n := x) (by omega)
    simp only [hcount] at gc
    have hsd : ∀ {i j : Nat}, i < j → j < (sorted ltI l.flatten).length → (sorted ltI l.flatten).getD i 0 ≤ (sorted ltI l.flatten).getD j 0 := fun h1 h2 => srtd_getD hs h1 h2
    simp (config := { maxSteps := 1000000 }) (disch := omega) only [go_sem, ↓reduceIte, Nat.reduceEqDiff, Nat.reduceAdd, Int.reduceToNat, reduceCtorEq, Nat.reduceLeDiff, Nat.reduceSub, Nat.reduceDiv, Nat.reduceMod, Nat.reduceMul, d1236, g0, g2]
    clear hcount hs hq
    generalize sorted ltI l.flatten = m at *
    generalize hqq : l.reverse = q at *
    have hqlen : q.length = l.length := by rw [← hqq]; simp
    have hqg : ∀ t, t < l.length → q.getD t [] = l.getD (l.length - 1 - t) [] := fun t ht => by
      rw [← hqq, List.getD_eq_getElem?_getD, List.getElem?_reverse (by omega), List.getD_eq_getElem?_getD]
    refine Ev_loop0 (fun t => ⟨[(0, .sl 1 (owS l)), (3, .own 1 0), (4, .int .i64 ((q.take t).flatten.length : Int)), (5, .own 1 1), (6, .int .i64 ((l.length : Int) - 1 - (t : Int)))], [.row false (ints m), .row false (owS (q.take t))], 0, [(0, 2, [0, 3, 4, 5, 6], [(3, 0), (5, 1)])]⟩) l.length (by simp [owS]) (fun t ht => ?_) ?_
    · have h1 := flat_snoc (l := q) (i := t) (by omega)
      have h2 : q.take (t + 1) = q.take t ++ [q.getD t []] := take_succ_getD (by omega)
      have h3 := flat_take_le q t
      have h4 := row_le (l := q) (i := t) (by omega)
      have h5 := hqg t ht
      have e : (l.length : Int) - 1 - (t : Int) = ((l.length - 1 - t : Nat) : Int) := by omega
      have e2 : (q.take t).length = t := by rw [List.length_take]; omega
      have e3 : owS (q.take t) ++ [.sl 1 (ints (q.getD t []))] = owS (q.take t ++ [q.getD t []]) := by simp [owS, rwL]
      have e5 : (l.length : Int) - 1 - ((t + 1 : Nat) : Int) = ((l.length - 1 - t : Nat) : Int) - 1 := by omega
      rw [h1, h2, List.length_append, e, e5]
      rw [h5] at h1 h2 h4 e3 ⊢
      simp (config := { maxSteps := 1000000 }) (disch := omega) only [go_sem, ↓reduceIte, Nat.reduceEqDiff, Nat.reduceAdd, Int.reduceToNat, reduceCtorEq, Nat.reduceLeDiff, Nat.reduceSub, Nat.reduceDiv, Nat.reduceMod, Nat.reduceMul, d1236_b0, e2, e3]
    · have e0 : (l.length : Int) - 1 - (l.length : Int) = -1 := by omega
      rw [e0, ← hqlen, List.take_length, hql]
      simp (config := { maxSteps := 1000000 }) (disch := omega) only [go_sem, ↓reduceIte, Nat.reduceEqDiff, Nat.reduceAdd, Int.reduceToNat, reduceCtorEq, Nat.reduceLeDiff, Nat.reduceSub, Nat.reduceDiv, Nat.reduceMod, Nat.reduceMul, d1236_b0]
      refine Ev_loop0 (fun i => ⟨[(0, .sl 1 (owS l)), (3, .own 1 0), (4, .int .i64 (l.flatten.length : Int)), (5, .own 1 1), (7, .int .i64 (i : Int))], [.row false (ints m), .row false (owS q)], 0, [(1, 2, [0, 3, 4, 5, 7], [(3, 0), (5, 1)]), (0, 2, [0, 3, 4, 5, 6], [(3, 0), (5, 1)])]⟩) m.length rfl (fun i hi => ?_) ?_
      · have g5 := gm (m.getD i 0)
        have g6 := gc (m.getD i 0)
        by_cases i0 : i = 0
        · subst i0
          have hz0 : rdc (ints m) none = some (.int .i64 (m.getD 0 0)) := by
            have := ints_rdc0 (l := m) (i := 0) hi
            rwa [List.drop_zero] at this
          simp (config := { maxSteps := 1000000 }) (disch := omega) only [go_sem, ↓reduceIte, Nat.reduceEqDiff, Nat.reduceAdd, Int.reduceToNat, reduceCtorEq, Nat.reduceLeDiff, Nat.reduceSub, Nat.reduceDiv, Nat.reduceMod, Nat.reduceMul, d1236_b1, hz0, g5, g6]
        · have h7 := hsd (i := i - 1) (j := i) (by omega) hi
          have e1 : (i : Int) - 1 = ((i - 1 : Nat) : Int) := by omega
          simp (config := { maxSteps := 1000000 }) (disch := omega) only [go_sem, ↓reduceIte, Nat.reduceEqDiff, Nat.reduceAdd, Int.reduceToNat, reduceCtorEq, Nat.reduceLeDiff, Nat.reduceSub, Nat.reduceDiv, Nat.reduceMod, Nat.reduceMul, d1236_b1, e1, g5, g6]
      · simp (config := { maxSteps := 1000000 }) (disch := omega) only [go_sem, ↓reduceIte, Nat.reduceEqDiff, Nat.reduceAdd, Int.reduceToNat, reduceCtorEq, Nat.reduceLeDiff, Nat.reduceSub, Nat.reduceDiv, Nat.reduceMod, Nat.reduceMul, d1236_b1, gp, g3, g4, hz]
end Go.Proofs.Ytofomaiaobfkhaa
