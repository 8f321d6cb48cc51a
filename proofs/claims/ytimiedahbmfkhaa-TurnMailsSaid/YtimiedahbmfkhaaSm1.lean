/- The library's sort of messages: its loops. -/
import Derived.Test.YtimiedahbmfkhaaSm
namespace Go.Proofs.Ytimiedahbmfkhaa
set_option linter.unusedSimpArgs false
set_option linter.unusedVariables false
set_option maxHeartbeats 4000000
set_option maxRecDepth 100000
open Go.Sort (insInner insOuter insertionSort siftDown heapBuild heapPop heapSort scanUp scanDown partLoop partition partEqLoop partitionEqual scanSorted shiftDown shiftUp partialIns partialInsertionSort reverseLoop reverseRange size_swp)
section
variable [Coe Ky Int]
def minsI (a b i j : Nat) (d : Array Ky) : St := ⟨[(0, .own 4 0), (1, .int .i64 (a : Int)), (2, .int .i64 (b : Int)), (3, .clo 1129 [.agg [.clo 1053 [] []]] []), (8, .int .i64 (i : Int)), (9, .int .i64 (j : Int))], [.row false (mfs d.toList)], 1, [(1, 1, [0, 1, 2, 3, 8, 9], [(0, 0)]), (0, 1, [0, 1, 2, 3, 8], [(0, 0)])]⟩
def minsO (a b i : Nat) (d : Array Ky) : St := ⟨[(0, .own 4 0), (1, .int .i64 (a : Int)), (2, .int .i64 (b : Int)), (3, .clo 1129 [.agg [.clo 1053 [] []]] []), (8, .int .i64 (i : Int))], [.row false (mfs d.toList)], 1, [(0, 1, [0, 1, 2, 3, 8], [(0, 0)])]⟩
theorem mins_rd {a b i j : Nat} {d : Array Ky} (ha : a ≤ j) (hj : j + 1 < d.size) (hs : d.size ≤ 1000000) (hl : ltT d[j + 1]! d[j]! = true) :
    Ev tab d1134_b1 (minsI a b i (j + 1) d) (fun x st => x = .normal ∧ st = minsI a b i j (Go.Sort.swp d (j + 1) j)) := by
  simp (config := { maxSteps := 1000000 }) (disch := omega) only [go_sem, ↓reduceIte, Nat.reduceEqDiff, Nat.reduceAdd, Int.reduceToNat, reduceCtorEq, Nat.reduceLeDiff, Nat.reduceSub, Nat.reduceDiv, Nat.reduceMod, Nat.reduceMul, at_m, swp_m, ordt_lt, gc_m, size_swp, arr_len, Int.add_sub_cancel, Int.natCast_mul, tn1, tnA, tnB, tnC, tnD, tnE, d1134_b1, minsI, hl]
theorem mins_inner {a b i : Nat} : ∀ (j : Nat) (d : Array Ky) (Q : AX → St → Prop), a ≤ j → j < d.size → d.size ≤ 1000000 →
    (∀ k, a ≤ k → k ≤ j → (k = a ∨ ∃ m, k = m + 1 ∧ ltT (insInner ltT a j d)[m + 1]! (insInner ltT a j d)[m]! = false) → Ev tab d1134_b1 (minsI a b i k (insInner ltT a j d)) (fun x st => x ≠ .normal ∧ Q x st)) → Ev tab (.loop d1134_b1) (minsI a b i j d) Q
  | 0, d, Q, ha, hj, hs, hq => by
    refine Ev_stop ?_
    have := hq 0 ha (Nat.le_refl _) (.inl (by omega))
    simpa [insInner] using this
  | j + 1, d, Q, ha, hj, hs, hq => by
    by_cases h : (decide (j + 1 > a) && ltT d[j + 1]! d[j]!) = true
    · have h2 := h
      simp only [Bool.and_eq_true, decide_eq_true_eq] at h2
      have e : insInner ltT a (j + 1) d = insInner ltT a j (Go.Sort.swp d (j + 1) j) := by rw [insInner, if_pos h]
      rw [e] at hq
      refine Ev_step (mins_rd (by omega) (by omega) hs h2.2) (mins_inner j _ Q (by omega) (by rw [size_swp]; omega) (by rw [size_swp]; exact hs) fun k h1 h2 h3 => hq k h1 (by omega) h3)
    · have e : insInner ltT a (j + 1) d = d := by rw [insInner, if_neg h]
      rw [e] at hq
      refine Ev_stop (hq (j + 1) ha (Nat.le_refl _) ?_)
      by_cases hc : j + 1 = a
      · exact .inl hc
      · refine .inr ⟨j, rfl, ?_⟩
        cases hl : ltT d[j + 1]! d[j]! with
        | false => rfl
        | true => exact absurd (by rw [hl]; simp; omega) h
end
theorem minsInner_sz (a : Nat) : ∀ (j : Nat) (d : Array Ky), (insInner ltT a j d).size = d.size
  | 0, d => rfl
  | j + 1, d => by
    rw [insInner]; split
    · rw [minsInner_sz, size_swp]
    · rfl
section
variable [Coe Ky Int]
theorem mins_out {a b i : Nat} {d : Array Ky} (ha : a + 1 ≤ i) (hi : i < b) (hb : b ≤ d.size) (hs : d.size ≤ 1000000) :
    Ev tab d1134_b0 (minsO a b i d) (fun x st => x = .normal ∧ st = minsO a b (i + 1) (insInner ltT a i d)) := by
  simp (config := { maxSteps := 1000000 }) (disch := omega) only [go_sem, ↓reduceIte, Nat.reduceEqDiff, Nat.reduceAdd, Int.reduceToNat, reduceCtorEq, Nat.reduceLeDiff, Nat.reduceSub, Nat.reduceDiv, Nat.reduceMod, Nat.reduceMul, at_m, swp_m, ordt_lt, gc_m, size_swp, arr_len, Int.add_sub_cancel, Int.natCast_mul, tn1, tnA, tnB, tnC, tnD, tnE, d1134_b0, minsO]
  have sz := minsInner_sz a i d
  refine mins_inner (b := b) i d _ (by omega) (by omega) hs (fun k h1 h2 h3 => ?_)
  generalize insInner ltT a i d = d' at *
  rcases h3 with rfl | ⟨m, rfl, h3⟩
  · simp (config := { maxSteps := 1000000 }) (disch := omega) only [go_sem, ↓reduceIte, Nat.reduceEqDiff, Nat.reduceAdd, Int.reduceToNat, reduceCtorEq, Nat.reduceLeDiff, Nat.reduceSub, Nat.reduceDiv, Nat.reduceMod, Nat.reduceMul, at_m, swp_m, ordt_lt, gc_m, size_swp, arr_len, Int.add_sub_cancel, Int.natCast_mul, tn1, tnA, tnB, tnC, tnD, tnE, d1134_b1, minsI]
  · by_cases hk : a < m + 1
    · simp (config := { maxSteps := 1000000 }) (disch := omega) only [go_sem, ↓reduceIte, Nat.reduceEqDiff, Nat.reduceAdd, Int.reduceToNat, reduceCtorEq, Nat.reduceLeDiff, Nat.reduceSub, Nat.reduceDiv, Nat.reduceMod, Nat.reduceMul, at_m, swp_m, ordt_lt, gc_m, size_swp, arr_len, Int.add_sub_cancel, Int.natCast_mul, tn1, tnA, tnB, tnC, tnD, tnE, d1134_b1, minsI, h3]
    · simp (config := { maxSteps := 1000000 }) (disch := omega) only [go_sem, ↓reduceIte, Nat.reduceEqDiff, Nat.reduceAdd, Int.reduceToNat, reduceCtorEq, Nat.reduceLeDiff, Nat.reduceSub, Nat.reduceDiv, Nat.reduceMod, Nat.reduceMul, at_m, swp_m, ordt_lt, gc_m, size_swp, arr_len, Int.add_sub_cancel, Int.natCast_mul, tn1, tnA, tnB, tnC, tnD, tnE, d1134_b1, minsI]
theorem mins_loop {a b : Nat} {Q : AX → St → Prop} : ∀ (n i : Nat) (d : Array Ky), b - i = n → a + 1 ≤ i → b ≤ d.size → d.size ≤ 1000000 →
    (∀ k, b ≤ k → k ≤ d.size + 1 → Ev tab d1134_b0 (minsO a b k (insOuter ltT a b i d)) (fun x st => x ≠ .normal ∧ Q x st)) → i ≤ d.size + 1 → Ev tab (.loop d1134_b0) (minsO a b i d) Q
  | 0, i, d, hn, ha, hb, hs, hq, hi => by
    refine Ev_stop ?_
    have := hq i (by omega) hi
    rwa [insOuter, if_neg (by omega)] at this
  | n + 1, i, d, hn, ha, hb, hs, hq, hi => by
    rw [insOuter, if_pos (by omega)] at hq
    have sz := minsInner_sz a i d
    exact Ev_step (mins_out ha (by omega) hb hs) (mins_loop n (i + 1) _ (by omega) (by omega) (by omega) (by omega) (by rw [sz]; exact hq) (by omega))
end
theorem minsOuter_sz {a b : Nat} : ∀ (n i : Nat) (d : Array Ky), b - i = n → (insOuter ltT a b i d).size = d.size
  | 0, i, d, h => by rw [insOuter, if_neg (by omega)]
  | n + 1, i, d, h => by rw [insOuter, if_pos (by omega), minsOuter_sz n (i + 1) _ (by omega), minsInner_sz]
section
variable [Coe Ky Int]
theorem mins_run {a b : Nat} {d : Array Ky} (hab : a ≤ b) (hb : b ≤ d.size) (hs : d.size ≤ 1000000) : runP tab 1134 [.own 4 0, .int .i64 (a : Int), .int .i64 (b : Int), .clo 1129 [.agg [.clo 1053 [] []]] []] [.row false (mfs d.toList)] = some (.tup [], [.row false (mfs (insertionSort ltT d a b).toList)]) := by
  refine runP_fn t1134 rfl ?_
  simp (config := { maxSteps := 1000000 }) (disch := omega) only [go_sem, ↓reduceIte, Nat.reduceEqDiff, Nat.reduceAdd, Int.reduceToNat, reduceCtorEq, Nat.reduceLeDiff, Nat.reduceSub, Nat.reduceDiv, Nat.reduceMod, Nat.reduceMul, at_m, swp_m, ordt_lt, gc_m, size_swp, arr_len, Int.add_sub_cancel, Int.natCast_mul, tn1, tnA, tnB, tnC, tnD, tnE, d1134]
  refine mins_loop (a := a) (b := b) _ (a + 1) d rfl (by omega) hb hs (fun k hk1 hk2 => ?_) (by omega)
  have sz := minsOuter_sz (a := a) (b := b) _ (a + 1) d rfl
  rw [insertionSort]
  generalize insOuter ltT a b (a + 1) d = d' at *
  simp (config := { maxSteps := 1000000 }) (disch := omega) only [go_sem, ↓reduceIte, Nat.reduceEqDiff, Nat.reduceAdd, Int.reduceToNat, reduceCtorEq, Nat.reduceLeDiff, Nat.reduceSub, Nat.reduceDiv, Nat.reduceMod, Nat.reduceMul, at_m, swp_m, ordt_lt, gc_m, size_swp, arr_len, Int.add_sub_cancel, Int.natCast_mul, tn1, tnA, tnB, tnC, tnD, tnE, d1134_b0, minsO]
def msifS (a hi first root : Nat) (d : Array Ky) : St := ⟨[(0, .own 4 0), (2, .int .i64 (hi : Int)), (3, .int .i64 (first : Int)), (4, .clo 1129 [.agg [.clo 1053 [] []]] []), (10, .int .i64 (root : Int))], [.row false (mfs d.toList)], 1, [(0, 1, [0, 2, 3, 4, 10], [(0, 0)])]⟩
end
theorem msift_sz (hi first : Nat) : ∀ (n root : Nat) (d : Array Ky), hi - root = n → (siftDown ltT hi first root d).size = d.size := by
  intro n
  induction n using Nat.strongRecOn with
  | _ n ih =>
    intro root d hn
    rw [siftDown]
    split
    · rfl
    · split
      · split
        · rfl
        · split
          · rw [ih (hi - (2 * root + 2)) (by omega) _ _ rfl, size_swp]
          · rfl
      · split
        · rfl
        · rw [ih (hi - (2 * root + 1)) (by omega) _ _ rfl, size_swp]
section
variable [Coe Ky Int]
theorem msift_loop {a hi first : Nat} {Q : AX → St → Prop} : ∀ (n root : Nat) (d : Array Ky), hi - root = n → first + hi ≤ d.size → d.size ≤ 1000000 → root ≤ 1000000 →
    (∀ x env, (x = .exit 0 ∨ x = .ret) → Q x ⟨env, [.row false (mfs (siftDown ltT hi first root d).toList)], 1, [(0, 1, [0, 2, 3, 4, 10], [(0, 0)])]⟩) → Ev tab (.loop d1142_b0) (msifS a hi first root d) Q := by
  intro n
  induction n using Nat.strongRecOn with
  | _ n ih =>
    intro root d hn hb hs hr hq
    rw [siftDown] at hq
    by_cases h1 : 2 * root + 1 ≥ hi
    · rw [dif_pos h1] at hq
      refine Ev_stop ?_
      simp (config := { maxSteps := 1000000 }) (disch := omega) only [go_sem, ↓reduceIte, Nat.reduceEqDiff, Nat.reduceAdd, Int.reduceToNat, reduceCtorEq, Nat.reduceLeDiff, Nat.reduceSub, Nat.reduceDiv, Nat.reduceMod, Nat.reduceMul, at_m, swp_m, ordt_lt, gc_m, size_swp, arr_len, Int.add_sub_cancel, Int.natCast_mul, tn1, tnA, tnB, tnC, tnD, tnE, d1142_b0, msifS]
      exact hq _ _ (.inl rfl)
    · rw [dif_neg h1] at hq
      by_cases h2 : 2 * root + 1 + 1 < hi
      · cases h3 : ltT d[first + (2 * root + 1)]! d[first + (2 * root + 1) + 1]! with
        | true =>
          rw [if_pos (by rw [h3]; simpa using h2)] at hq
          cases h4 : ltT d[first + root]! d[first + (2 * root + 2)]! with
          | true =>
            rw [h4, if_neg (by simp), dif_pos (by omega)] at hq
            refine Ev_step (st' := msifS a hi first (2 * root + 2) (Go.Sort.swp d (first + root) (first + (2 * root + 2)))) ?_ (ih (hi - (2 * root + 2)) (by omega) _ _ rfl (by rw [size_swp]; omega) (by rw [size_swp]; omega) (by omega) hq)
            simp (config := { maxSteps := 1000000 }) (disch := omega) only [go_sem, ↓reduceIte, Nat.reduceEqDiff, Nat.reduceAdd, Int.reduceToNat, reduceCtorEq, Nat.reduceLeDiff, Nat.reduceSub, Nat.reduceDiv, Nat.reduceMod, Nat.reduceMul, at_m, swp_m, ordt_lt, gc_m, size_swp, arr_len, Int.add_sub_cancel, Int.natCast_mul, tn1, tnA, tnB, tnC, tnD, tnE, d1142_b0, msifS, h3, h4]
          | false =>
            rw [h4, if_pos (by simp)] at hq
            refine Ev_stop ?_
            simp (config := { maxSteps := 1000000 }) (disch := omega) only [go_sem, ↓reduceIte, Nat.reduceEqDiff, Nat.reduceAdd, Int.reduceToNat, reduceCtorEq, Nat.reduceLeDiff, Nat.reduceSub, Nat.reduceDiv, Nat.reduceMod, Nat.reduceMul, at_m, swp_m, ordt_lt, gc_m, size_swp, arr_len, Int.add_sub_cancel, Int.natCast_mul, tn1, tnA, tnB, tnC, tnD, tnE, d1142_b0, msifS, h3, h4]
            exact hq _ _ (.inr rfl)
        | false =>
          rw [if_neg (by rw [h3]; simp)] at hq
          cases h4 : ltT d[first + root]! d[first + (2 * root + 1)]! with
          | true =>
            rw [h4, if_neg (by simp)] at hq
            refine Ev_step (st' := msifS a hi first (2 * root + 1) (Go.Sort.swp d (first + root) (first + (2 * root + 1)))) ?_ (ih (hi - (2 * root + 1)) (by omega) _ _ rfl (by rw [size_swp]; omega) (by rw [size_swp]; omega) (by omega) hq)
            simp (config := { maxSteps := 1000000 }) (disch := omega) only [go_sem, ↓reduceIte, Nat.reduceEqDiff, Nat.reduceAdd, Int.reduceToNat, reduceCtorEq, Nat.reduceLeDiff, Nat.reduceSub, Nat.reduceDiv, Nat.reduceMod, Nat.reduceMul, at_m, swp_m, ordt_lt, gc_m, size_swp, arr_len, Int.add_sub_cancel, Int.natCast_mul, tn1, tnA, tnB, tnC, tnD, tnE, d1142_b0, msifS, h3, h4]
          | false =>
            rw [h4, if_pos (by simp)] at hq
            refine Ev_stop ?_
            simp (config := { maxSteps := 1000000 }) (disch := omega) only [go_sem, ↓reduceIte, Nat.reduceEqDiff, Nat.reduceAdd, Int.reduceToNat, reduceCtorEq, Nat.reduceLeDiff, Nat.reduceSub, Nat.reduceDiv, Nat.reduceMod, Nat.reduceMul, at_m, swp_m, ordt_lt, gc_m, size_swp, arr_len, Int.add_sub_cancel, Int.natCast_mul, tn1, tnA, tnB, tnC, tnD, tnE, d1142_b0, msifS, h3, h4]
            exact hq _ _ (.inr rfl)
      · rw [if_neg (by simp; omega)] at hq
        cases h4 : ltT d[first + root]! d[first + (2 * root + 1)]! with
        | true =>
          rw [h4, if_neg (by simp)] at hq
          refine Ev_step (st' := msifS a hi first (2 * root + 1) (Go.Sort.swp d (first + root) (first + (2 * root + 1)))) ?_ (ih (hi - (2 * root + 1)) (by omega) _ _ rfl (by rw [size_swp]; omega) (by rw [size_swp]; omega) (by omega) hq)
          simp (config := { maxSteps := 1000000 }) (disch := omega) only [go_sem, ↓reduceIte, Nat.reduceEqDiff, Nat.reduceAdd, Int.reduceToNat, reduceCtorEq, Nat.reduceLeDiff, Nat.reduceSub, Nat.reduceDiv, Nat.reduceMod, Nat.reduceMul, at_m, swp_m, ordt_lt, gc_m, size_swp, arr_len, Int.add_sub_cancel, Int.natCast_mul, tn1, tnA, tnB, tnC, tnD, tnE, d1142_b0, msifS, h4]
        | false =>
          rw [h4, if_pos (by simp)] at hq
          refine Ev_stop ?_
          simp (config := { maxSteps := 1000000 }) (disch := omega) only [go_sem, ↓reduceIte, Nat.reduceEqDiff, Nat.reduceAdd, Int.reduceToNat, reduceCtorEq, Nat.reduceLeDiff, Nat.reduceSub, Nat.reduceDiv, Nat.reduceMod, Nat.reduceMul, at_m, swp_m, ordt_lt, gc_m, size_swp, arr_len, Int.add_sub_cancel, Int.natCast_mul, tn1, tnA, tnB, tnC, tnD, tnE, d1142_b0, msifS, h4]
          exact hq _ _ (.inr rfl)
theorem msift_run {hi first root : Nat} {d : Array Ky} (hb : first + hi ≤ d.size) (hs : d.size ≤ 1000000) (hr : root ≤ 1000000) : runP tab 1142 [.own 4 0, .int .i64 (root : Int), .int .i64 (hi : Int), .int .i64 (first : Int), .clo 1129 [.agg [.clo 1053 [] []]] []] [.row false (mfs d.toList)] = some (.tup [], [.row false (mfs (siftDown ltT hi first root d).toList)]) := by
  refine runP_fn t1142 rfl ?_
  simp (config := { maxSteps := 1000000 }) (disch := omega) only [go_sem, ↓reduceIte, Nat.reduceEqDiff, Nat.reduceAdd, Int.reduceToNat, reduceCtorEq, Nat.reduceLeDiff, Nat.reduceSub, Nat.reduceDiv, Nat.reduceMod, Nat.reduceMul, at_m, swp_m, ordt_lt, gc_m, size_swp, arr_len, Int.add_sub_cancel, Int.natCast_mul, tn1, tnA, tnB, tnC, tnD, tnE, d1142]
  refine msift_loop (a := 0) _ root d rfl hb hs hr (fun x env hx => ?_)
  rcases hx with rfl | rfl <;> simp (config := { maxSteps := 1000000 }) (disch := omega) only [go_sem, ↓reduceIte, Nat.reduceEqDiff, Nat.reduceAdd, Int.reduceToNat, reduceCtorEq, Nat.reduceLeDiff, Nat.reduceSub, Nat.reduceDiv, Nat.reduceMod, Nat.reduceMul, at_m, swp_m, ordt_lt, gc_m, size_swp, arr_len, Int.add_sub_cancel, Int.natCast_mul, tn1, tnA, tnB, tnC, tnD, tnE]
def mhpB (hi first : Nat) (i : Int) (d : Array Ky) : St := ⟨[(0, .own 4 0), (3, .clo 1129 [.agg [.clo 1053 [] []]] []), (8, .int .i64 (first : Int)), (9, .int .i64 0), (10, .int .i64 (hi : Int)), (11, .int .i64 i)], [.row false (mfs d.toList)], 1, [(0, 1, [0, 3, 8, 9, 10, 11], [(0, 0)])]⟩
theorem mhb_loop {hi first : Nat} {Q : AX → St → Prop} : ∀ (k : Nat) (d : Array Ky), first + hi ≤ d.size → d.size ≤ 1000000 → k ≤ 1000000 →
    (Ev tab d1135_b0 (mhpB hi first (-1) (heapBuild ltT hi first k d)) (fun x st => x ≠ .normal ∧ Q x st)) → Ev tab (.loop d1135_b0) (mhpB hi first ((k : Int) - 1) d) Q
  | 0, d, hb, hs, hk, hq => Ev_stop hq
  | k + 1, d, hb, hs, hk, hq => by
    have sz := msift_sz hi first _ k d rfl
    refine Ev_step (st' := mhpB hi first ((k : Int) - 1) (siftDown ltT hi first k d)) ?_ (mhb_loop k _ (by omega) (by omega) (by omega) hq)
    have g := msift_run (root := k) hb hs (by omega)
    generalize siftDown ltT hi first k d = d' at *
    simp (config := { maxSteps := 1000000 }) (disch := omega) only [go_sem, ↓reduceIte, Nat.reduceEqDiff, Nat.reduceAdd, Int.reduceToNat, reduceCtorEq, Nat.reduceLeDiff, Nat.reduceSub, Nat.reduceDiv, Nat.reduceMod, Nat.reduceMul, at_m, swp_m, ordt_lt, gc_m, size_swp, arr_len, Int.add_sub_cancel, Int.natCast_mul, tn1, tnA, tnB, tnC, tnD, tnE, d1135_b0, mhpB, g]
end
theorem mhb_sz (hi first : Nat) : ∀ (k : Nat) (d : Array Ky), (heapBuild ltT hi first k d).size = d.size
  | 0, d => rfl
  | k + 1, d => by rw [heapBuild, mhb_sz hi first k, msift_sz hi first _ k d rfl]
section
variable [Coe Ky Int]
def mhpP (first : Nat) (i : Int) (d : Array Ky) : St := ⟨[(0, .own 4 0), (3, .clo 1129 [.agg [.clo 1053 [] []]] []), (8, .int .i64 (first : Int)), (9, .int .i64 0), (12, .int .i64 i)], [.row false (mfs d.toList)], 1, [(1, 1, [0, 3, 8, 9, 12], [(0, 0)]), (0, 1, [0, 3, 8, 9, 10, 11], [(0, 0)])]⟩
theorem mhp_loop {first : Nat} {Q : AX → St → Prop} : ∀ (k : Nat) (d : Array Ky), first + k ≤ d.size → d.size ≤ 1000000 →
    (Ev tab d1135_b1 (mhpP first (-1) (heapPop ltT first k d)) (fun x st => x ≠ .normal ∧ Q x st)) → Ev tab (.loop d1135_b1) (mhpP first ((k : Int) - 1) d) Q
  | 0, d, hb, hs, hq => Ev_stop hq
  | k + 1, d, hb, hs, hq => by
    have sz := msift_sz k first _ 0 (Go.Sort.swp d first (first + k)) rfl
    have g := msift_run (root := 0) (hi := k) (first := first) (d := Go.Sort.swp d first (first + k)) (by rw [size_swp]; omega) (by rw [size_swp]; omega) (by omega)
    refine Ev_step (st' := mhpP first ((k : Int) - 1) (siftDown ltT k first 0 (Go.Sort.swp d first (first + k)))) ?_ (mhp_loop k _ (by rw [sz, size_swp]; omega) (by rw [sz, size_swp]; omega) hq)
    generalize siftDown ltT k first 0 (Go.Sort.swp d first (first + k)) = d' at *
    rw [Int.cast_ofNat_Int] at g
    simp (config := { maxSteps := 1000000 }) (disch := omega) only [go_sem, ↓reduceIte, Nat.reduceEqDiff, Nat.reduceAdd, Int.reduceToNat, reduceCtorEq, Nat.reduceLeDiff, Nat.reduceSub, Nat.reduceDiv, Nat.reduceMod, Nat.reduceMul, at_m, swp_m, ordt_lt, gc_m, size_swp, arr_len, Int.add_sub_cancel, Int.natCast_mul, tn1, tnA, tnB, tnC, tnD, tnE, d1135_b1, mhpP, g]
end
theorem mhp_sz (first : Nat) : ∀ (k : Nat) (d : Array Ky), (heapPop ltT first k d).size = d.size
  | 0, d => rfl
  | k + 1, d => by rw [heapPop, mhp_sz first k, msift_sz k first _ 0 _ rfl, size_swp]
section
variable [Coe Ky Int]
theorem mheap_run {a b : Nat} {d : Array Ky} (hab : a ≤ b) (hb : b ≤ d.size) (hs : d.size ≤ 1000000) (h2 : a < b) : runP tab 1135 [.own 4 0, .int .i64 (a : Int), .int .i64 (b : Int), .clo 1129 [.agg [.clo 1053 [] []]] []] [.row false (mfs d.toList)] = some (.tup [], [.row false (mfs (heapSort ltT d a b).toList)]) := by
  refine runP_fn t1135 rfl ?_
  obtain ⟨n, rfl⟩ : ∃ n, b = a + n := ⟨b - a, by omega⟩
  have q1 : ((a : Int) + (n : Int)) - (a : Int) = (n : Int) := by omega
  have q2 : ((n : Int) - 1).tdiv 2 = (((n - 1) / 2 + 1 : Nat) : Int) - 1 := by
    rw [show (n : Int) - 1 = ((n - 1 : Nat) : Int) by omega]
    rw [show ((n - 1 : Nat) : Int).tdiv 2 = (((n - 1) / 2 : Nat) : Int) from rfl]
    omega
  have q3 : (((n - 1) / 2 : Nat) : Int) = (((n - 1) / 2 + 1 : Nat) : Int) - 1 := by omega
  rw [heapSort, show a + n - a = n by omega]
  simp (config := { maxSteps := 1000000 }) (disch := omega) only [go_sem, ↓reduceIte, Nat.reduceEqDiff, Nat.reduceAdd, Int.reduceToNat, reduceCtorEq, Nat.reduceLeDiff, Nat.reduceSub, Nat.reduceDiv, Nat.reduceMod, Nat.reduceMul, at_m, swp_m, ordt_lt, gc_m, size_swp, arr_len, Int.add_sub_cancel, Int.natCast_mul, tn1, tnA, tnB, tnC, tnD, tnE, d1135, q1, q2]
  rw [q3]
  refine mhb_loop (hi := n) ((n - 1) / 2 + 1) d (by omega) hs (by omega) ?_
  have sz := mhb_sz n a ((n - 1) / 2 + 1) d
  generalize heapBuild ltT n a ((n - 1) / 2 + 1) d = d' at *
  simp (config := { maxSteps := 1000000 }) (disch := omega) only [go_sem, ↓reduceIte, Nat.reduceEqDiff, Nat.reduceAdd, Int.reduceToNat, reduceCtorEq, Nat.reduceLeDiff, Nat.reduceSub, Nat.reduceDiv, Nat.reduceMod, Nat.reduceMul, at_m, swp_m, ordt_lt, gc_m, size_swp, arr_len, Int.add_sub_cancel, Int.natCast_mul, tn1, tnA, tnB, tnC, tnD, tnE, d1135_b0, mhpB]
  refine mhp_loop n d' (by omega) (by omega) ?_
  have sz2 := mhp_sz a n d'
  generalize heapPop ltT a n d' = d'' at *
  simp (config := { maxSteps := 1000000 }) (disch := omega) only [go_sem, ↓reduceIte, Nat.reduceEqDiff, Nat.reduceAdd, Int.reduceToNat, reduceCtorEq, Nat.reduceLeDiff, Nat.reduceSub, Nat.reduceDiv, Nat.reduceMod, Nat.reduceMul, at_m, swp_m, ordt_lt, gc_m, size_swp, arr_len, Int.add_sub_cancel, Int.natCast_mul, tn1, tnA, tnB, tnC, tnD, tnE, d1135_b1, mhpP]
def mrevS (i j : Nat) (d : Array Ky) : St := ⟨[(0, .own 4 0), (8, .int .i64 (i : Int)), (9, .int .i64 (j : Int))], [.row false (mfs d.toList)], 1, [(0, 1, [0, 8, 9], [(0, 0)])]⟩
theorem mrev_loop {Q : AX → St → Prop} : ∀ (n i j : Nat) (d : Array Ky), j - i ≤ n → j < d.size → i < d.size → d.size ≤ 1000000 →
    (∀ env, Q (.exit 0) ⟨env, [.row false (mfs (reverseLoop i j d).toList)], 1, [(0, 1, [0, 8, 9], [(0, 0)])]⟩) → Ev tab (.loop d1138_b0) (mrevS i j d) Q := by
  intro n
  induction n with
  | zero =>
    intro i j d hn hj hi hs hq
    rw [reverseLoop, if_neg (by omega)] at hq
    refine Ev_stop ?_
    simp (config := { maxSteps := 1000000 }) (disch := omega) only [go_sem, ↓reduceIte, Nat.reduceEqDiff, Nat.reduceAdd, Int.reduceToNat, reduceCtorEq, Nat.reduceLeDiff, Nat.reduceSub, Nat.reduceDiv, Nat.reduceMod, Nat.reduceMul, at_m, swp_m, ordt_lt, gc_m, size_swp, arr_len, Int.add_sub_cancel, Int.natCast_mul, tn1, tnA, tnB, tnC, tnD, tnE, d1138_b0, mrevS]
    exact hq _
  | succ n ih =>
    intro i j d hn hj hi hs hq
    by_cases h : i < j
    · rw [reverseLoop, if_pos h] at hq
      obtain ⟨k, rfl⟩ : ∃ k, j = k + 1 := ⟨j - 1, by omega⟩
      refine Ev_step (st' := mrevS (i + 1) k (Go.Sort.swp d i (k + 1))) ?_ (ih (i + 1) k _ (by omega) (by rw [size_swp]; omega) (by rw [size_swp]; omega) (by rw [size_swp]; exact hs) hq)
      simp (config := { maxSteps := 1000000 }) (disch := omega) only [go_sem, ↓reduceIte, Nat.reduceEqDiff, Nat.reduceAdd, Int.reduceToNat, reduceCtorEq, Nat.reduceLeDiff, Nat.reduceSub, Nat.reduceDiv, Nat.reduceMod, Nat.reduceMul, at_m, swp_m, ordt_lt, gc_m, size_swp, arr_len, Int.add_sub_cancel, Int.natCast_mul, tn1, tnA, tnB, tnC, tnD, tnE, d1138_b0, mrevS]
    · rw [reverseLoop, if_neg h] at hq
      refine Ev_stop ?_
      simp (config := { maxSteps := 1000000 }) (disch := omega) only [go_sem, ↓reduceIte, Nat.reduceEqDiff, Nat.reduceAdd, Int.reduceToNat, reduceCtorEq, Nat.reduceLeDiff, Nat.reduceSub, Nat.reduceDiv, Nat.reduceMod, Nat.reduceMul, at_m, swp_m, ordt_lt, gc_m, size_swp, arr_len, Int.add_sub_cancel, Int.natCast_mul, tn1, tnA, tnB, tnC, tnD, tnE, d1138_b0, mrevS]
      exact hq _
theorem mrev_run {a b : Nat} {d : Array Ky} (hab : a < b) (hb : b ≤ d.size) (hs : d.size ≤ 1000000) : runP tab 1138 [.own 4 0, .int .i64 (a : Int), .int .i64 (b : Int), .clo 1129 [.agg [.clo 1053 [] []]] []] [.row false (mfs d.toList)] = some (.tup [], [.row false (mfs (reverseRange d a b).toList)]) := by
  refine runP_fn t1138 rfl ?_
  have q : (b : Int) - 1 = ((b - 1 : Nat) : Int) := by omega
  simp (config := { maxSteps := 1000000 }) (disch := omega) only [go_sem, ↓reduceIte, Nat.reduceEqDiff, Nat.reduceAdd, Int.reduceToNat, reduceCtorEq, Nat.reduceLeDiff, Nat.reduceSub, Nat.reduceDiv, Nat.reduceMod, Nat.reduceMul, at_m, swp_m, ordt_lt, gc_m, size_swp, arr_len, Int.add_sub_cancel, Int.natCast_mul, tn1, tnA, tnB, tnC, tnD, tnE, d1138, q]
  refine mrev_loop _ a (b - 1) d (Nat.le_refl _) (by omega) (by omega) hs (fun env => ?_)
  rw [reverseRange]
  simp (config := { maxSteps := 1000000 }) (disch := omega) only [go_sem, ↓reduceIte, Nat.reduceEqDiff, Nat.reduceAdd, Int.reduceToNat, reduceCtorEq, Nat.reduceLeDiff, Nat.reduceSub, Nat.reduceDiv, Nat.reduceMod, Nat.reduceMul, at_m, swp_m, ordt_lt, gc_m, size_swp, arr_len, Int.add_sub_cancel, Int.natCast_mul, tn1, tnA, tnB, tnC, tnD, tnE]
end
end Go.Proofs.Ytimiedahbmfkhaa
