/- The library's sort of hits: its loops. -/
import Derived.Test.YtpanhbaiimnlhaaSh
namespace Go.Proofs.Ytpanhbaiimnlhaa
set_option linter.unusedSimpArgs false
set_option linter.unusedVariables false
set_option maxHeartbeats 4000000
set_option maxRecDepth 100000
open Go.Sort (insInner insOuter insertionSort siftDown heapBuild heapPop heapSort scanUp scanDown partLoop partition partEqLoop partitionEqual scanSorted shiftDown shiftUp partialIns partialInsertionSort reverseLoop reverseRange size_swp)
def hinsI (a b i j : Nat) (d : Array Ed) : St := ⟨[(0, .own 2 0), (1, .int .i64 (a : Int)), (2, .int .i64 (b : Int)), (3, .clo 1495 [] []), (8, .int .i64 (i : Int)), (9, .int .i64 (j : Int))], [.row false (prs d.toList)], 1, [(1, 1, [0, 1, 2, 3, 8, 9], [(0, 0)]), (0, 1, [0, 1, 2, 3, 8], [(0, 0)])]⟩
def hinsO (a b i : Nat) (d : Array Ed) : St := ⟨[(0, .own 2 0), (1, .int .i64 (a : Int)), (2, .int .i64 (b : Int)), (3, .clo 1495 [] []), (8, .int .i64 (i : Int))], [.row false (prs d.toList)], 1, [(0, 1, [0, 1, 2, 3, 8], [(0, 0)])]⟩
theorem hins_rd {a b i j : Nat} {d : Array Ed} (ha : a ≤ j) (hj : j + 1 < d.size) (hs : d.size ≤ 1000000) (hl : ltH d[j + 1]! d[j]! = true) :
    Ev tab d1500_b1 (hinsI a b i (j + 1) d) (fun x st => x = .normal ∧ st = hinsI a b i j (Go.Sort.swp d (j + 1) j)) := by
  simp (config := { maxSteps := 1000000 }) (disch := omega) only [go_sem, ↓reduceIte, Nat.reduceEqDiff, Nat.reduceAdd, Int.reduceToNat, reduceCtorEq, Nat.reduceLeDiff, Nat.reduceSub, Nat.reduceDiv, Nat.reduceMod, Nat.reduceMul, at_e, swp_e, ordh_lt, gc_h, size_swp, arr_len, Int.add_sub_cancel, Int.natCast_mul, tn1, tnA, tnB, tnC, tnD, tnE, d1500_b1, hinsI, hl]
theorem hins_inner {a b i : Nat} : ∀ (j : Nat) (d : Array Ed) (Q : AX → St → Prop), a ≤ j → j < d.size → d.size ≤ 1000000 →
    (∀ k, a ≤ k → k ≤ j → (k = a ∨ ∃ m, k = m + 1 ∧ ltH (insInner ltH a j d)[m + 1]! (insInner ltH a j d)[m]! = false) → Ev tab d1500_b1 (hinsI a b i k (insInner ltH a j d)) (fun x st => x ≠ .normal ∧ Q x st)) → Ev tab (.loop d1500_b1) (hinsI a b i j d) Q
  | 0, d, Q, ha, hj, hs, hq => by
    refine Ev_stop ?_
    have := hq 0 ha (Nat.le_refl _) (.inl (by omega))
    simpa [insInner] using this
  | j + 1, d, Q, ha, hj, hs, hq => by
    by_cases h : (decide (j + 1 > a) && ltH d[j + 1]! d[j]!) = true
    · have h2 := h
      simp only [Bool.and_eq_true, decide_eq_true_eq] at h2
      have e : insInner ltH a (j + 1) d = insInner ltH a j (Go.Sort.swp d (j + 1) j) := by rw [insInner, if_pos h]
      rw [e] at hq
      refine Ev_step (hins_rd (by omega) (by omega) hs h2.2) (hins_inner j _ Q (by omega) (by rw [size_swp]; omega) (by rw [size_swp]; exact hs) fun k h1 h2 h3 => hq k h1 (by omega) h3)
    · have e : insInner ltH a (j + 1) d = d := by rw [insInner, if_neg h]
      rw [e] at hq
      refine Ev_stop (hq (j + 1) ha (Nat.le_refl _) ?_)
      by_cases hc : j + 1 = a
      · exact .inl hc
      · refine .inr ⟨j, rfl, ?_⟩
        cases hl : ltH d[j + 1]! d[j]! with
        | false => rfl
        | true => exact absurd (by rw [hl]; simp; omega) h
theorem hinsInner_sz (a : Nat) : ∀ (j : Nat) (d : Array Ed), (insInner ltH a j d).size = d.size
  | 0, d => rfl
  | j + 1, d => by
    rw [insInner]; split
    · rw [hinsInner_sz, size_swp]
    · rfl
theorem hins_out {a b i : Nat} {d : Array Ed} (ha : a + 1 ≤ i) (hi : i < b) (hb : b ≤ d.size) (hs : d.size ≤ 1000000) :
    Ev tab d1500_b0 (hinsO a b i d) (fun x st => x = .normal ∧ st = hinsO a b (i + 1) (insInner ltH a i d)) := by
  simp (config := { maxSteps := 1000000 }) (disch := omega) only [go_sem, ↓reduceIte, Nat.reduceEqDiff, Nat.reduceAdd, Int.reduceToNat, reduceCtorEq, Nat.reduceLeDiff, Nat.reduceSub, Nat.reduceDiv, Nat.reduceMod, Nat.reduceMul, at_e, swp_e, ordh_lt, gc_h, size_swp, arr_len, Int.add_sub_cancel, Int.natCast_mul, tn1, tnA, tnB, tnC, tnD, tnE, d1500_b0, hinsO]
  have sz := hinsInner_sz a i d
  refine hins_inner (b := b) i d _ (by omega) (by omega) hs (fun k h1 h2 h3 => ?_)
  generalize insInner ltH a i d = d' at *
  rcases h3 with rfl | ⟨m, rfl, h3⟩
  · simp (config := { maxSteps := 1000000 }) (disch := omega) only [go_sem, ↓reduceIte, Nat.reduceEqDiff, Nat.reduceAdd, Int.reduceToNat, reduceCtorEq, Nat.reduceLeDiff, Nat.reduceSub, Nat.reduceDiv, Nat.reduceMod, Nat.reduceMul, at_e, swp_e, ordh_lt, gc_h, size_swp, arr_len, Int.add_sub_cancel, Int.natCast_mul, tn1, tnA, tnB, tnC, tnD, tnE, d1500_b1, hinsI]
  · by_cases hk : a < m + 1
    · simp (config := { maxSteps := 1000000 }) (disch := omega) only [go_sem, ↓reduceIte, Nat.reduceEqDiff, Nat.reduceAdd, Int.reduceToNat, reduceCtorEq, Nat.reduceLeDiff, Nat.reduceSub, Nat.reduceDiv, Nat.reduceMod, Nat.reduceMul, at_e, swp_e, ordh_lt, gc_h, size_swp, arr_len, Int.add_sub_cancel, Int.natCast_mul, tn1, tnA, tnB, tnC, tnD, tnE, d1500_b1, hinsI, h3]
    · simp (config := { maxSteps := 1000000 }) (disch := omega) only [go_sem, ↓reduceIte, Nat.reduceEqDiff, Nat.reduceAdd, Int.reduceToNat, reduceCtorEq, Nat.reduceLeDiff, Nat.reduceSub, Nat.reduceDiv, Nat.reduceMod, Nat.reduceMul, at_e, swp_e, ordh_lt, gc_h, size_swp, arr_len, Int.add_sub_cancel, Int.natCast_mul, tn1, tnA, tnB, tnC, tnD, tnE, d1500_b1, hinsI]
theorem hins_loop {a b : Nat} {Q : AX → St → Prop} : ∀ (n i : Nat) (d : Array Ed), b - i = n → a + 1 ≤ i → b ≤ d.size → d.size ≤ 1000000 →
    (∀ k, b ≤ k → k ≤ d.size + 1 → Ev tab d1500_b0 (hinsO a b k (insOuter ltH a b i d)) (fun x st => x ≠ .normal ∧ Q x st)) → i ≤ d.size + 1 → Ev tab (.loop d1500_b0) (hinsO a b i d) Q
  | 0, i, d, hn, ha, hb, hs, hq, hi => by
    refine Ev_stop ?_
    have := hq i (by omega) hi
    rwa [insOuter, if_neg (by omega)] at this
  | n + 1, i, d, hn, ha, hb, hs, hq, hi => by
    rw [insOuter, if_pos (by omega)] at hq
    have sz := hinsInner_sz a i d
    exact Ev_step (hins_out ha (by omega) hb hs) (hins_loop n (i + 1) _ (by omega) (by omega) (by omega) (by omega) (by rw [sz]; exact hq) (by omega))
theorem hinsOuter_sz {a b : Nat} : ∀ (n i : Nat) (d : Array Ed), b - i = n → (insOuter ltH a b i d).size = d.size
  | 0, i, d, h => by rw [insOuter, if_neg (by omega)]
  | n + 1, i, d, h => by rw [insOuter, if_pos (by omega), hinsOuter_sz n (i + 1) _ (by omega), hinsInner_sz]
theorem hins_run {a b : Nat} {d : Array Ed} (hab : a ≤ b) (hb : b ≤ d.size) (hs : d.size ≤ 1000000) : runP tab 1500 [.own 2 0, .int .i64 (a : Int), .int .i64 (b : Int), .clo 1495 [] []] [.row false (prs d.toList)] = some (.tup [], [.row false (prs (insertionSort ltH d a b).toList)]) := by
  refine runP_fn t1500 rfl ?_
  simp (config := { maxSteps := 1000000 }) (disch := omega) only [go_sem, ↓reduceIte, Nat.reduceEqDiff, Nat.reduceAdd, Int.reduceToNat, reduceCtorEq, Nat.reduceLeDiff, Nat.reduceSub, Nat.reduceDiv, Nat.reduceMod, Nat.reduceMul, at_e, swp_e, ordh_lt, gc_h, size_swp, arr_len, Int.add_sub_cancel, Int.natCast_mul, tn1, tnA, tnB, tnC, tnD, tnE, d1500]
  refine hins_loop (a := a) (b := b) _ (a + 1) d rfl (by omega) hb hs (fun k hk1 hk2 => ?_) (by omega)
  have sz := hinsOuter_sz (a := a) (b := b) _ (a + 1) d rfl
  rw [insertionSort]
  generalize insOuter ltH a b (a + 1) d = d' at *
  simp (config := { maxSteps := 1000000 }) (disch := omega) only [go_sem, ↓reduceIte, Nat.reduceEqDiff, Nat.reduceAdd, Int.reduceToNat, reduceCtorEq, Nat.reduceLeDiff, Nat.reduceSub, Nat.reduceDiv, Nat.reduceMod, Nat.reduceMul, at_e, swp_e, ordh_lt, gc_h, size_swp, arr_len, Int.add_sub_cancel, Int.natCast_mul, tn1, tnA, tnB, tnC, tnD, tnE, d1500_b0, hinsO]
def hsifS (a hi first root : Nat) (d : Array Ed) : St := ⟨[(0, .own 2 0), (2, .int .i64 (hi : Int)), (3, .int .i64 (first : Int)), (4, .clo 1495 [] []), (10, .int .i64 (root : Int))], [.row false (prs d.toList)], 1, [(0, 1, [0, 2, 3, 4, 10], [(0, 0)])]⟩
theorem hsift_sz (hi first : Nat) : ∀ (n root : Nat) (d : Array Ed), hi - root = n → (siftDown ltH hi first root d).size = d.size := by
  intro n
  induction n using Nat.strongRecOn with
  | _ n ih =>
    intro root d hn
    rw [siftDown]
    split
    · rfl
    · split
      · split
        · rfl
        · split
          · rw [ih (hi - (2 * root + 2)) (by omega) _ _ rfl, size_swp]
          · rfl
      · split
        · rfl
        · rw [ih (hi - (2 * root + 1)) (by omega) _ _ rfl, size_swp]
theorem hsift_loop {a hi first : Nat} {Q : AX → St → Prop} : ∀ (n root : Nat) (d : Array Ed), hi - root = n → first + hi ≤ d.size → d.size ≤ 1000000 → root ≤ 1000000 →
    (∀ x env, (x = .exit 0 ∨ x = .ret) → Q x ⟨env, [.row false (prs (siftDown ltH hi first root d).toList)], 1, [(0, 1, [0, 2, 3, 4, 10], [(0, 0)])]⟩) → Ev tab (.loop d1508_b0) (hsifS a hi first root d) Q := by
  intro n
  induction n using Nat.strongRecOn with
  | _ n ih =>
    intro root d hn hb hs hr hq
    rw [siftDown] at hq
    by_cases h1 : 2 * root + 1 ≥ hi
    · rw [dif_pos h1] at hq
      refine Ev_stop ?_
      simp (config := { maxSteps := 1000000 }) (disch := omega) only [go_sem, ↓reduceIte, Nat.reduceEqDiff, Nat.reduceAdd, Int.reduceToNat, reduceCtorEq, Nat.reduceLeDiff, Nat.reduceSub, Nat.reduceDiv, Nat.reduceMod, Nat.reduceMul, at_e, swp_e, ordh_lt, gc_h, size_swp, arr_len, Int.add_sub_cancel, Int.natCast_mul, tn1, tnA, tnB, tnC, tnD, tnE, d1508_b0, hsifS]
      exact hq _ _ (.inl rfl)
    · rw [dif_neg h1] at hq
      by_cases h2 : 2 * root + 1 + 1 < hi
      · cases h3 : ltH d[first + (2 * root + 1)]! d[first + (2 * root + 1) + 1]! with
        | true =>
          rw [if_pos (by rw [h3]; simpa using h2)] at hq
          cases h4 : ltH d[first + root]! d[first + (2 * root + 2)]! with
          | true =>
            rw [h4, if_neg (by simp), dif_pos (by omega)] at hq
            refine Ev_step (st' := hsifS a hi first (2 * root + 2) (Go.Sort.swp d (first + root) (first + (2 * root + 2)))) ?_ (ih (hi - (2 * root + 2)) (by omega) _ _ rfl (by rw [size_swp]; omega) (by rw [size_swp]; omega) (by omega) hq)
            simp (config := { maxSteps := 1000000 }) (disch := omega) only [go_sem, ↓reduceIte, Nat.reduceEqDiff, Nat.reduceAdd, Int.reduceToNat, reduceCtorEq, Nat.reduceLeDiff, Nat.reduceSub, Nat.reduceDiv, Nat.reduceMod, Nat.reduceMul, at_e, swp_e, ordh_lt, gc_h, size_swp, arr_len, Int.add_sub_cancel, Int.natCast_mul, tn1, tnA, tnB, tnC, tnD, tnE, d1508_b0, hsifS, h3, h4]
          | false =>
            rw [h4, if_pos (by simp)] at hq
            refine Ev_stop ?_
            simp (config := { maxSteps := 1000000 }) (disch := omega) only [go_sem, ↓reduceIte, Nat.reduceEqDiff, Nat.reduceAdd, Int.reduceToNat, reduceCtorEq, Nat.reduceLeDiff, Nat.reduceSub, Nat.reduceDiv, Nat.reduceMod, Nat.reduceMul, at_e, swp_e, ordh_lt, gc_h, size_swp, arr_len, Int.add_sub_cancel, Int.natCast_mul, tn1, tnA, tnB, tnC, tnD, tnE, d1508_b0, hsifS, h3, h4]
            exact hq _ _ (.inr rfl)
        | false =>
          rw [if_neg (by rw [h3]; simp)] at hq
          cases h4 : ltH d[first + root]! d[first + (2 * root + 1)]! with
          | true =>
            rw [h4, if_neg (by simp)] at hq
            refine Ev_step (st' := hsifS a hi first (2 * root + 1) (Go.Sort.swp d (first + root) (first + (2 * root + 1)))) ?_ (ih (hi - (2 * root + 1)) (by omega) _ _ rfl (by rw [size_swp]; omega) (by rw [size_swp]; omega) (by omega) hq)
            simp (config := { maxSteps := 1000000 }) (disch := omega) only [go_sem, ↓reduceIte, Nat.reduceEqDiff, Nat.reduceAdd, Int.reduceToNat, reduceCtorEq, Nat.reduceLeDiff, Nat.reduceSub, Nat.reduceDiv, Nat.reduceMod, Nat.reduceMul, at_e, swp_e, ordh_lt, gc_h, size_swp, arr_len, Int.add_sub_cancel, Int.natCast_mul, tn1, tnA, tnB, tnC, tnD, tnE, d1508_b0, hsifS, h3, h4]
          | false =>
            rw [h4, if_pos (by simp)] at hq
            refine Ev_stop ?_
            simp (config := { maxSteps := 1000000 }) (disch := omega) only [go_sem, ↓reduceIte, Nat.reduceEqDiff, Nat.reduceAdd, Int.reduceToNat, reduceCtorEq, Nat.reduceLeDiff, Nat.reduceSub, Nat.reduceDiv, Nat.reduceMod, Nat.reduceMul, at_e, swp_e, ordh_lt, gc_h, size_swp, arr_len, Int.add_sub_cancel, Int.natCast_mul, tn1, tnA, tnB, tnC, tnD, tnE, d1508_b0, hsifS, h3, h4]
            exact hq _ _ (.inr rfl)
      · rw [if_neg (by simp; omega)] at hq
        cases h4 : ltH d[first + root]! d[first + (2 * root + 1)]! with
        | true =>
          rw [h4, if_neg (by simp)] at hq
          refine Ev_step (st' := hsifS a hi first (2 * root + 1) (Go.Sort.swp d (first + root) (first + (2 * root + 1)))) ?_ (ih (hi - (2 * root + 1)) (by omega) _ _ rfl (by rw [size_swp]; omega) (by rw [size_swp]; omega) (by omega) hq)
          simp (config := { maxSteps := 1000000 }) (disch := omega) only [go_sem, ↓reduceIte, Nat.reduceEqDiff, Nat.reduceAdd, Int.reduceToNat, reduceCtorEq, Nat.reduceLeDiff, Nat.reduceSub, Nat.reduceDiv, Nat.reduceMod, Nat.reduceMul, at_e, swp_e, ordh_lt, gc_h, size_swp, arr_len, Int.add_sub_cancel, Int.natCast_mul, tn1, tnA, tnB, tnC, tnD, tnE, d1508_b0, hsifS, h4]
        | false =>
          rw [h4, if_pos (by simp)] at hq
          refine Ev_stop ?_
          simp (config := { maxSteps := 1000000 }) (disch := omega) only [go_sem, ↓reduceIte, Nat.reduceEqDiff, Nat.reduceAdd, Int.reduceToNat, reduceCtorEq, Nat.reduceLeDiff, Nat.reduceSub, Nat.reduceDiv, Nat.reduceMod, Nat.reduceMul, at_e, swp_e, ordh_lt, gc_h, size_swp, arr_len, Int.add_sub_cancel, Int.natCast_mul, tn1, tnA, tnB, tnC, tnD, tnE, d1508_b0, hsifS, h4]
          exact hq _ _ (.inr rfl)
theorem hsift_run {hi first root : Nat} {d : Array Ed} (hb : first + hi ≤ d.size) (hs : d.size ≤ 1000000) (hr : root ≤ 1000000) : runP tab 1508 [.own 2 0, .int .i64 (root : Int), .int .i64 (hi : Int), .int .i64 (first : Int), .clo 1495 [] []] [.row false (prs d.toList)] = some (.tup [], [.row false (prs (siftDown ltH hi first root d).toList)]) := by
  refine runP_fn t1508 rfl ?_
  simp (config := { maxSteps := 1000000 }) (disch := omega) only [go_sem, ↓reduceIte, Nat.reduceEqDiff, Nat.reduceAdd, Int.reduceToNat, reduceCtorEq, Nat.reduceLeDiff, Nat.reduceSub, Nat.reduceDiv, Nat.reduceMod, Nat.reduceMul, at_e, swp_e, ordh_lt, gc_h, size_swp, arr_len, Int.add_sub_cancel, Int.natCast_mul, tn1, tnA, tnB, tnC, tnD, tnE, d1508]
  refine hsift_loop (a := 0) _ root d rfl hb hs hr (fun x env hx => ?_)
  rcases hx with rfl | rfl <;> simp (config := { maxSteps := 1000000 }) (disch := omega) only [go_sem, ↓reduceIte, Nat.reduceEqDiff, Nat.reduceAdd, Int.reduceToNat, reduceCtorEq, Nat.reduceLeDiff, Nat.reduceSub, Nat.reduceDiv, Nat.reduceMod, Nat.reduceMul, at_e, swp_e, ordh_lt, gc_h, size_swp, arr_len, Int.add_sub_cancel, Int.natCast_mul, tn1, tnA, tnB, tnC, tnD, tnE]
def hhpB (hi first : Nat) (i : Int) (d : Array Ed) : St := ⟨[(0, .own 2 0), (3, .clo 1495 [] []), (8, .int .i64 (first : Int)), (9, .int .i64 0), (10, .int .i64 (hi : Int)), (11, .int .i64 i)], [.row false (prs d.toList)], 1, [(0, 1, [0, 3, 8, 9, 10, 11], [(0, 0)])]⟩
theorem hhb_loop {hi first : Nat} {Q : AX → St → Prop} : ∀ (k : Nat) (d : Array Ed), first + hi ≤ d.size → d.size ≤ 1000000 → k ≤ 1000000 →
    (Ev tab d1501_b0 (hhpB hi first (-1) (heapBuild ltH hi first k d)) (fun x st => x ≠ .normal ∧ Q x st)) → Ev tab (.loop d1501_b0) (hhpB hi first ((k : Int) - 1) d) Q
  | 0, d, hb, hs, hk, hq => Ev_stop hq
  | k + 1, d, hb, hs, hk, hq => by
    have sz := hsift_sz hi first _ k d rfl
    refine Ev_step (st' := hhpB hi first ((k : Int) - 1) (siftDown ltH hi first k d)) ?_ (hhb_loop k _ (by omega) (by omega) (by omega) hq)
    have g := hsift_run (root := k) hb hs (by omega)
    generalize siftDown ltH hi first k d = d' at *
    simp (config := { maxSteps := 1000000 }) (disch := omega) only [go_sem, ↓reduceIte, Nat.reduceEqDiff, Nat.reduceAdd, Int.reduceToNat, reduceCtorEq, Nat.reduceLeDiff, Nat.reduceSub, Nat.reduceDiv, Nat.reduceMod, Nat.reduceMul, at_e, swp_e, ordh_lt, gc_h, size_swp, arr_len, Int.add_sub_cancel, Int.natCast_mul, tn1, tnA, tnB, tnC, tnD, tnE, d1501_b0, hhpB, g]
theorem hhb_sz (hi first : Nat) : ∀ (k : Nat) (d : Array Ed), (heapBuild ltH hi first k d).size = d.size
  | 0, d => rfl
  | k + 1, d => by rw [heapBuild, hhb_sz hi first k, hsift_sz hi first _ k d rfl]
def hhpP (first : Nat) (i : Int) (d : Array Ed) : St := ⟨[(0, .own 2 0), (3, .clo 1495 [] []), (8, .int .i64 (first : Int)), (9, .int .i64 0), (12, .int .i64 i)], [.row false (prs d.toList)], 1, [(1, 1, [0, 3, 8, 9, 12], [(0, 0)]), (0, 1, [0, 3, 8, 9, 10, 11], [(0, 0)])]⟩
theorem hhp_loop {first : Nat} {Q : AX → St → Prop} : ∀ (k : Nat) (d : Array Ed), first + k ≤ d.size → d.size ≤ 1000000 →
    (Ev tab d1501_b1 (hhpP first (-1) (heapPop ltH first k d)) (fun x st => x ≠ .normal ∧ Q x st)) → Ev tab (.loop d1501_b1) (hhpP first ((k : Int) - 1) d) Q
  | 0, d, hb, hs, hq => Ev_stop hq
  | k + 1, d, hb, hs, hq => by
    have sz := hsift_sz k first _ 0 (Go.Sort.swp d first (first + k)) rfl
    have g := hsift_run (root := 0) (hi := k) (first := first) (d := Go.Sort.swp d first (first + k)) (by rw [size_swp]; omega) (by rw [size_swp]; omega) (by omega)
    refine Ev_step (st' := hhpP first ((k : Int) - 1) (siftDown ltH k first 0 (Go.Sort.swp d first (first + k)))) ?_ (hhp_loop k _ (by rw [sz, size_swp]; omega) (by rw [sz, size_swp]; omega) hq)
    generalize siftDown ltH k first 0 (Go.Sort.swp d first (first + k)) = d' at *
    rw [Int.cast_ofNat_Int] at g
    simp (config := { maxSteps := 1000000 }) (disch := omega) only [go_sem, ↓reduceIte, Nat.reduceEqDiff, Nat.reduceAdd, Int.reduceToNat, reduceCtorEq, Nat.reduceLeDiff, Nat.reduceSub, Nat.reduceDiv, Nat.reduceMod, Nat.reduceMul, at_e, swp_e, ordh_lt, gc_h, size_swp, arr_len, Int.add_sub_cancel, Int.natCast_mul, tn1, tnA, tnB, tnC, tnD, tnE, d1501_b1, hhpP, g]
theorem hhp_sz (first : Nat) : ∀ (k : Nat) (d : Array Ed), (heapPop ltH first k d).size = d.size
  | 0, d => rfl
  | k + 1, d => by rw [heapPop, hhp_sz first k, hsift_sz k first _ 0 _ rfl, size_swp]
theorem hheap_run {a b : Nat} {d : Array Ed} (hab : a ≤ b) (hb : b ≤ d.size) (hs : d.size ≤ 1000000) (h2 : a < b) : runP tab 1501 [.own 2 0, .int .i64 (a : Int), .int .i64 (b : Int), .clo 1495 [] []] [.row false (prs d.toList)] = some (.tup [], [.row false (prs (heapSort ltH d a b).toList)]) := by
  refine runP_fn t1501 rfl ?_
  obtain ⟨n, rfl⟩ : ∃ n, b = a + n := ⟨b - a, by omega⟩
  have q1 : ((a : Int) + (n : Int)) - (a : Int) = (n : Int) := by omega
  have q2 : ((n : Int) - 1).tdiv 2 = (((n - 1) / 2 + 1 : Nat) : Int) - 1 := by
    rw [show (n : Int) - 1 = ((n - 1 : Nat) : Int) by omega]
    rw [show ((n - 1 : Nat) : Int).tdiv 2 = (((n - 1) / 2 : Nat) : Int) from rfl]
    omega
  have q3 : (((n - 1) / 2 : Nat) : Int) = (((n - 1) / 2 + 1 : Nat) : Int) - 1 := by omega
  rw [heapSort, show a + n - a = n by omega]
  simp (config := { maxSteps := 1000000 }) (disch := omega) only [go_sem, ↓reduceIte, Nat.reduceEqDiff, Nat.reduceAdd, Int.reduceToNat, reduceCtorEq, Nat.reduceLeDiff, Nat.reduceSub, Nat.reduceDiv, Nat.reduceMod, Nat.reduceMul, at_e, swp_e, ordh_lt, gc_h, size_swp, arr_len, Int.add_sub_cancel, Int.natCast_mul, tn1, tnA, tnB, tnC, tnD, tnE, d1501, q1, q2]
  rw [q3]
  refine hhb_loop (hi := n) ((n - 1) / 2 + 1) d (by omega) hs (by omega) ?_
  have sz := hhb_sz n a ((n - 1) / 2 + 1) d
  generalize heapBuild ltH n a ((n - 1) / 2 + 1) d = d' at *
  simp (config := { maxSteps := 1000000 }) (disch := omega) only [go_sem, ↓reduceIte, Nat.reduceEqDiff, Nat.reduceAdd, Int.reduceToNat, reduceCtorEq, Nat.reduceLeDiff, Nat.reduceSub, Nat.reduceDiv, Nat.reduceMod, Nat.reduceMul, at_e, swp_e, ordh_lt, gc_h, size_swp, arr_len, Int.add_sub_cancel, Int.natCast_mul, tn1, tnA, tnB, tnC, tnD, tnE, d1501_b0, hhpB]
  refine hhp_loop n d' (by omega) (by omega) ?_
  have sz2 := hhp_sz a n d'
  generalize heapPop ltH a n d' = d'' at *
  simp (config := { maxSteps := 1000000 }) (disch := omega) only [go_sem, ↓reduceIte, Nat.reduceEqDiff, Nat.reduceAdd, Int.reduceToNat, reduceCtorEq, Nat.reduceLeDiff, Nat.reduceSub, Nat.reduceDiv, Nat.reduceMod, Nat.reduceMul, at_e, swp_e, ordh_lt, gc_h, size_swp, arr_len, Int.add_sub_cancel, Int.natCast_mul, tn1, tnA, tnB, tnC, tnD, tnE, d1501_b1, hhpP]
def hrevS (i j : Nat) (d : Array Ed) : St := ⟨[(0, .own 2 0), (8, .int .i64 (i : Int)), (9, .int .i64 (j : Int))], [.row false (prs d.toList)], 1, [(0, 1, [0, 8, 9], [(0, 0)])]⟩
theorem hrev_loop {Q : AX → St → Prop} : ∀ (n i j : Nat) (d : Array Ed), j - i ≤ n → j < d.size → i < d.size → d.size ≤ 1000000 →
    (∀ env, Q (.exit 0) ⟨env, [.row false (prs (reverseLoop i j d).toList)], 1, [(0, 1, [0, 8, 9], [(0, 0)])]⟩) → Ev tab (.loop d1504_b0) (hrevS i j d) Q := by
  intro n
  induction n with
  | zero =>
    intro i j d hn hj hi hs hq
    rw [reverseLoop, if_neg (by omega)] at hq
    refine Ev_stop ?_
    simp (config := { maxSteps := 1000000 }) (disch := omega) only [go_sem, ↓reduceIte, Nat.reduceEqDiff, Nat.reduceAdd, Int.reduceToNat, reduceCtorEq, Nat.reduceLeDiff, Nat.reduceSub, Nat.reduceDiv, Nat.reduceMod, Nat.reduceMul, at_e, swp_e, ordh_lt, gc_h, size_swp, arr_len, Int.add_sub_cancel, Int.natCast_mul, tn1, tnA, tnB, tnC, tnD, tnE, d1504_b0, hrevS]
    exact hq _
  | succ n ih =>
    intro i j d hn hj hi hs hq
    by_cases h : i < j
    · rw [reverseLoop, if_pos h] at hq
      obtain ⟨k, rfl⟩ : ∃ k, j = k + 1 := ⟨j - 1, by omega⟩
      refine Ev_step (st' := hrevS (i + 1) k (Go.Sort.swp d i (k + 1))) ?_ (ih (i + 1) k _ (by omega) (by rw [size_swp]; omega) (by rw [size_swp]; omega) (by rw [size_swp]; exact hs) hq)
      simp (config := { maxSteps := 1000000 }) (disch := omega) only [go_sem, ↓reduceIte, Nat.reduceEqDiff, Nat.reduceAdd, Int.reduceToNat, reduceCtorEq, Nat.reduceLeDiff, Nat.reduceSub, Nat.reduceDiv, Nat.reduceMod, Nat.reduceMul, at_e, swp_e, ordh_lt, gc_h, size_swp, arr_len, Int.add_sub_cancel, Int.natCast_mul, tn1, tnA, tnB, tnC, tnD, tnE, d1504_b0, hrevS]
    · rw [reverseLoop, if_neg h] at hq
      refine Ev_stop ?_
      simp (config := { maxSteps := 1000000 }) (disch := omega) only [go_sem, ↓reduceIte, Nat.reduceEqDiff, Nat.reduceAdd, Int.reduceToNat, reduceCtorEq, Nat.reduceLeDiff, Nat.reduceSub, Nat.reduceDiv, Nat.reduceMod, Nat.reduceMul, at_e, swp_e, ordh_lt, gc_h, size_swp, arr_len, Int.add_sub_cancel, Int.natCast_mul, tn1, tnA, tnB, tnC, tnD, tnE, d1504_b0, hrevS]
      exact hq _
theorem hrev_run {a b : Nat} {d : Array Ed} (hab : a < b) (hb : b ≤ d.size) (hs : d.size ≤ 1000000) : runP tab 1504 [.own 2 0, .int .i64 (a : Int), .int .i64 (b : Int), .clo 1495 [] []] [.row false (prs d.toList)] = some (.tup [], [.row false (prs (reverseRange d a b).toList)]) := by
  refine runP_fn t1504 rfl ?_
  have q : (b : Int) - 1 = ((b - 1 : Nat) : Int) := by omega
  simp (config := { maxSteps := 1000000 }) (disch := omega) only [go_sem, ↓reduceIte, Nat.reduceEqDiff, Nat.reduceAdd, Int.reduceToNat, reduceCtorEq, Nat.reduceLeDiff, Nat.reduceSub, Nat.reduceDiv, Nat.reduceMod, Nat.reduceMul, at_e, swp_e, ordh_lt, gc_h, size_swp, arr_len, Int.add_sub_cancel, Int.natCast_mul, tn1, tnA, tnB, tnC, tnD, tnE, d1504, q]
  refine hrev_loop _ a (b - 1) d (Nat.le_refl _) (by omega) (by omega) hs (fun env => ?_)
  rw [reverseRange]
  simp (config := { maxSteps := 1000000 }) (disch := omega) only [go_sem, ↓reduceIte, Nat.reduceEqDiff, Nat.reduceAdd, Int.reduceToNat, reduceCtorEq, Nat.reduceLeDiff, Nat.reduceSub, Nat.reduceDiv, Nat.reduceMod, Nat.reduceMul, at_e, swp_e, ordh_lt, gc_h, size_swp, arr_len, Int.add_sub_cancel, Int.natCast_mul, tn1, tnA, tnB, tnC, tnD, tnE]
end Go.Proofs.Ytpanhbaiimnlhaa
