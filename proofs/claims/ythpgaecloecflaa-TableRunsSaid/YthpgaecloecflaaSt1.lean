/- The library's sort of keys: its loops. -/
import Derived.Test.YthpgaecloecflaaSt
namespace Go.Proofs.Ythpgaecloecflaa
set_option linter.unusedSimpArgs false
set_option linter.unusedVariables false
set_option maxHeartbeats 4000000
set_option maxRecDepth 100000
open Go.Sort (insInner insOuter insertionSort siftDown heapBuild heapPop heapSort scanUp scanDown partLoop partition partEqLoop partitionEqual scanSorted shiftDown shiftUp partialIns partialInsertionSort reverseLoop reverseRange size_swp)
def tinsI (a b i j : Nat) (d : Array Ky) : St := ⟨[(0, .own 3 0), (1, .int .i64 (a : Int)), (2, .int .i64 (b : Int)), (3, .clo 1053 [] []), (8, .int .i64 (i : Int)), (9, .int .i64 (j : Int))], [.row false (kys d.toList)], 1, [(1, 1, [0, 1, 2, 3, 8, 9], [(0, 0)]), (0, 1, [0, 1, 2, 3, 8], [(0, 0)])]⟩
def tinsO (a b i : Nat) (d : Array Ky) : St := ⟨[(0, .own 3 0), (1, .int .i64 (a : Int)), (2, .int .i64 (b : Int)), (3, .clo 1053 [] []), (8, .int .i64 (i : Int))], [.row false (kys d.toList)], 1, [(0, 1, [0, 1, 2, 3, 8], [(0, 0)])]⟩
theorem tins_rd {a b i j : Nat} {d : Array Ky} (ha : a ≤ j) (hj : j + 1 < d.size) (hs : d.size ≤ 1000000) (hl : ltT d[j + 1]! d[j]! = true) :
    Ev tab d1062_b1 (tinsI a b i (j + 1) d) (fun x st => x = .normal ∧ st = tinsI a b i j (Go.Sort.swp d (j + 1) j)) := by
  simp (config := { maxSteps := 1000000 }) (disch := omega) only [go_sem, ↓reduceIte, Nat.reduceEqDiff, Nat.reduceAdd, Int.reduceToNat, reduceCtorEq, Nat.reduceLeDiff, Nat.reduceSub, Nat.reduceDiv, Nat.reduceMod, Nat.reduceMul, at_t, swp_t, ordt_lt, gc_t, size_swp, arr_len, Int.add_sub_cancel, Int.natCast_mul, tn1, tnA, tnB, tnC, tnD, tnE, d1062_b1, tinsI, hl]
theorem tins_inner {a b i : Nat} : ∀ (j : Nat) (d : Array Ky) (Q : AX → St → Prop), a ≤ j → j < d.size → d.size ≤ 1000000 →
    (∀ k, a ≤ k → k ≤ j → (k = a ∨ ∃ m, k = m + 1 ∧ ltT (insInner ltT a j d)[m + 1]! (insInner ltT a j d)[m]! = false) → Ev tab d1062_b1 (tinsI a b i k (insInner ltT a j d)) (fun x st => x ≠ .normal ∧ Q x st)) → Ev tab (.loop d1062_b1) (tinsI a b i j d) Q
  | 0, d, Q, ha, hj, hs, hq => by
    refine Ev_stop ?_
    have := hq 0 ha (Nat.le_refl _) (.inl (by omega))
    simpa [insInner] using this
  | j + 1, d, Q, ha, hj, hs, hq => by
    by_cases h : (decide (j + 1 > a) && ltT d[j + 1]! d[j]!) = true
    · have h2 := h
      simp only [Bool.and_eq_true, decide_eq_true_eq] at h2
      have e : insInner ltT a (j + 1) d = insInner ltT a j (Go.Sort.swp d (j + 1) j) := by rw [insInner, if_pos h]
      rw [e] at hq
      refine Ev_step (tins_rd (by omega) (by omega) hs h2.2) (tins_inner j _ Q (by omega) (by rw [size_swp]; omega) (by rw [size_swp]; exact hs) fun k h1 h2 h3 => hq k h1 (by omega) h3)
    · have e : insInner ltT a (j + 1) d = d := by rw [insInner, if_neg h]
      rw [e] at hq
      refine Ev_stop (hq (j + 1) ha (Nat.le_refl _) ?_)
      by_cases hc : j + 1 = a
      · exact .inl hc
      · refine .inr ⟨j, rfl, ?_⟩
        cases hl : ltT d[j + 1]! d[j]! with
        | false => rfl
        | true => exact absurd (by rw [hl]; simp; omega) h
theorem tinsInner_sz (a : Nat) : ∀ (j : Nat) (d : Array Ky), (insInner ltT a j d).size = d.size
  | 0, d => rfl
  | j + 1, d => by
    rw [insInner]; split
    · rw [tinsInner_sz, size_swp]
    · rfl
theorem tins_out {a b i : Nat} {d : Array Ky} (ha : a + 1 ≤ i) (hi : i < b) (hb : b ≤ d.size) (hs : d.size ≤ 1000000) :
    Ev tab d1062_b0 (tinsO a b i d) (fun x st => x = .normal ∧ st = tinsO a b (i + 1) (insInner ltT a i d)) := by
  simp (config := { maxSteps := 1000000 }) (disch := omega) only [go_sem, ↓reduceIte, Nat.reduceEqDiff, Nat.reduceAdd, Int.reduceToNat, reduceCtorEq, Nat.reduceLeDiff, Nat.reduceSub, Nat.reduceDiv, Nat.reduceMod, Nat.reduceMul, at_t, swp_t, ordt_lt, gc_t, size_swp, arr_len, Int.add_sub_cancel, Int.natCast_mul, tn1, tnA, tnB, tnC, tnD, tnE, d1062_b0, tinsO]
  have sz := tinsInner_sz a i d
  refine tins_inner (b := b) i d _ (by omega) (by omega) hs (fun k h1 h2 h3 => ?_)
  generalize insInner ltT a i d = d' at *
  rcases h3 with rfl | ⟨m, rfl, h3⟩
  · simp (config := { maxSteps := 1000000 }) (disch := omega) only [go_sem, ↓reduceIte, Nat.reduceEqDiff, Nat.reduceAdd, Int.reduceToNat, reduceCtorEq, Nat.reduceLeDiff, Nat.reduceSub, Nat.reduceDiv, Nat.reduceMod, Nat.reduceMul, at_t, swp_t, ordt_lt, gc_t, size_swp, arr_len, Int.add_sub_cancel, Int.natCast_mul, tn1, tnA, tnB, tnC, tnD, tnE, d1062_b1, tinsI]
  · by_cases hk : a < m + 1
    · simp (config := { maxSteps := 1000000 }) (disch := omega) only [go_sem, ↓reduceIte, Nat.reduceEqDiff, Nat.reduceAdd, Int.reduceToNat, reduceCtorEq, Nat.reduceLeDiff, Nat.reduceSub, Nat.reduceDiv, Nat.reduceMod, Nat.reduceMul, at_t, swp_t, ordt_lt, gc_t, size_swp, arr_len, Int.add_sub_cancel, Int.natCast_mul, tn1, tnA, tnB, tnC, tnD, tnE, d1062_b1, tinsI, h3]
    · simp (config := { maxSteps := 1000000 }) (disch := omega) only [go_sem, ↓reduceIte, Nat.reduceEqDiff, Nat.reduceAdd, Int.reduceToNat, reduceCtorEq, Nat.reduceLeDiff, Nat.reduceSub, Nat.reduceDiv, Nat.reduceMod, Nat.reduceMul, at_t, swp_t, ordt_lt, gc_t, size_swp, arr_len, Int.add_sub_cancel, Int.natCast_mul, tn1, tnA, tnB, tnC, tnD, tnE, d1062_b1, tinsI]
theorem tins_loop {a b : Nat} {Q : AX → St → Prop} : ∀ (n i : Nat) (d : Array Ky), b - i = n → a + 1 ≤ i → b ≤ d.size → d.size ≤ 1000000 →
    (∀ k, b ≤ k → k ≤ d.size + 1 → Ev tab d1062_b0 (tinsO a b k (insOuter ltT a b i d)) (fun x st => x ≠ .normal ∧ Q x st)) → i ≤ d.size + 1 → Ev tab (.loop d1062_b0) (tinsO a b i d) Q
  | 0, i, d, hn, ha, hb, hs, hq, hi => by
    refine Ev_stop ?_
    have := hq i (by omega) hi
    rwa [insOuter, if_neg (by omega)] at this
  | n + 1, i, d, hn, ha, hb, hs, hq, hi => by
    rw [insOuter, if_pos (by omega)] at hq
    have sz := tinsInner_sz a i d
    exact Ev_step (tins_out ha (by omega) hb hs) (tins_loop n (i + 1) _ (by omega) (by omega) (by omega) (by omega) (by rw [sz]; exact hq) (by omega))
theorem tinsOuter_sz {a b : Nat} : ∀ (n i : Nat) (d : Array Ky), b - i = n → (insOuter ltT a b i d).size = d.size
  | 0, i, d, h => by rw [insOuter, if_neg (by omega)]
  | n + 1, i, d, h => by rw [insOuter, if_pos (by omega), tinsOuter_sz n (i + 1) _ (by omega), tinsInner_sz]
theorem tins_run {a b : Nat} {d : Array Ky} (hab : a ≤ b) (hb : b ≤ d.size) (hs : d.size ≤ 1000000) : runP tab 1062 [.own 3 0, .int .i64 (a : Int), .int .i64 (b : Int), .clo 1053 [] []] [.row false (kys d.toList)] = some (.tup [], [.row false (kys (insertionSort ltT d a b).toList)]) := by
  refine runP_fn t1062 rfl ?_
  simp (config := { maxSteps := 1000000 }) (disch := omega) only [go_sem, ↓reduceIte, Nat.reduceEqDiff, Nat.reduceAdd, Int.reduceToNat, reduceCtorEq, Nat.reduceLeDiff, Nat.reduceSub, Nat.reduceDiv, Nat.reduceMod, Nat.reduceMul, at_t, swp_t, ordt_lt, gc_t, size_swp, arr_len, Int.add_sub_cancel, Int.natCast_mul, tn1, tnA, tnB, tnC, tnD, tnE, d1062]
  refine tins_loop (a := a) (b := b) _ (a + 1) d rfl (by omega) hb hs (fun k hk1 hk2 => ?_) (by omega)
  have sz := tinsOuter_sz (a := a) (b := b) _ (a + 1) d rfl
  rw [insertionSort]
  generalize insOuter ltT a b (a + 1) d = d' at *
  simp (config := { maxSteps := 1000000 }) (disch := omega) only [go_sem, ↓reduceIte, Nat.reduceEqDiff, Nat.reduceAdd, Int.reduceToNat, reduceCtorEq, Nat.reduceLeDiff, Nat.reduceSub, Nat.reduceDiv, Nat.reduceMod, Nat.reduceMul, at_t, swp_t, ordt_lt, gc_t, size_swp, arr_len, Int.add_sub_cancel, Int.natCast_mul, tn1, tnA, tnB, tnC, tnD, tnE, d1062_b0, tinsO]
def tsifS (a hi first root : Nat) (d : Array Ky) : St := ⟨[(0, .own 3 0), (2, .int .i64 (hi : Int)), (3, .int .i64 (first : Int)), (4, .clo 1053 [] []), (10, .int .i64 (root : Int))], [.row false (kys d.toList)], 1, [(0, 1, [0, 2, 3, 4, 10], [(0, 0)])]⟩
theorem tsift_sz (hi first : Nat) : ∀ (n root : Nat) (d : Array Ky), hi - root = n → (siftDown ltT hi first root d).size = d.size := by
  intro n
  induction n using Nat.strongRecOn with
  | _ n ih =>
    intro root d hn
    rw [siftDown]
    split
    · rfl
    · split
      · split
        · rfl
        · split
          · rw [ih (hi - (2 * root + 2)) (by omega) _ _ rfl, size_swp]
          · rfl
      · split
        · rfl
        · rw [ih (hi - (2 * root + 1)) (by omega) _ _ rfl, size_swp]
theorem tsift_loop {a hi first : Nat} {Q : AX → St → Prop} : ∀ (n root : Nat) (d : Array Ky), hi - root = n → first + hi ≤ d.size → d.size ≤ 1000000 → root ≤ 1000000 →
    (∀ x env, (x = .exit 0 ∨ x = .ret) → Q x ⟨env, [.row false (kys (siftDown ltT hi first root d).toList)], 1, [(0, 1, [0, 2, 3, 4, 10], [(0, 0)])]⟩) → Ev tab (.loop d1073_b0) (tsifS a hi first root d) Q := by
  intro n
  induction n using Nat.strongRecOn with
  | _ n ih =>
    intro root d hn hb hs hr hq
    rw [siftDown] at hq
    by_cases h1 : 2 * root + 1 ≥ hi
    · rw [dif_pos h1] at hq
      refine Ev_stop ?_
      simp (config := { maxSteps := 1000000 }) (disch := omega) only [go_sem, ↓reduceIte, Nat.reduceEqDiff, Nat.reduceAdd, Int.reduceToNat, reduceCtorEq, Nat.reduceLeDiff, Nat.reduceSub, Nat.reduceDiv, Nat.reduceMod, Nat.reduceMul, at_t, swp_t, ordt_lt, gc_t, size_swp, arr_len, Int.add_sub_cancel, Int.natCast_mul, tn1, tnA, tnB, tnC, tnD, tnE, d1073_b0, tsifS]
      exact hq _ _ (.inl rfl)
    · rw [dif_neg h1] at hq
      by_cases h2 : 2 * root + 1 + 1 < hi
      · cases h3 : ltT d[first + (2 * root + 1)]! d[first + (2 * root + 1) + 1]! with
        | true =>
          rw [if_pos (by rw [h3]; simpa using h2)] at hq
          cases h4 : ltT d[first + root]! d[first + (2 * root + 2)]! with
          | true =>
            rw [h4, if_neg (by simp), dif_pos (by omega)] at hq
            refine Ev_step (st' := tsifS a hi first (2 * root + 2) (Go.Sort.swp d (first + root) (first + (2 * root + 2)))) ?_ (ih (hi - (2 * root + 2)) (by omega) _ _ rfl (by rw [size_swp]; omega) (by rw [size_swp]; omega) (by omega) hq)
            simp (config := { maxSteps := 1000000 }) (disch := omega) only [go_sem, ↓reduceIte, Nat.reduceEqDiff, Nat.reduceAdd, Int.reduceToNat, reduceCtorEq, Nat.reduceLeDiff, Nat.reduceSub, Nat.reduceDiv, Nat.reduceMod, Nat.reduceMul, at_t, swp_t, ordt_lt, gc_t, size_swp, arr_len, Int.add_sub_cancel, Int.natCast_mul, tn1, tnA, tnB, tnC, tnD, tnE, d1073_b0, tsifS, h3, h4]
          | false =>
            rw [h4, if_pos (by simp)] at hq
            refine Ev_stop ?_
            simp (config := { maxSteps := 1000000 }) (disch := omega) only [go_sem, ↓reduceIte, Nat.reduceEqDiff, Nat.reduceAdd, Int.reduceToNat, reduceCtorEq, Nat.reduceLeDiff, Nat.reduceSub, Nat.reduceDiv, Nat.reduceMod, Nat.reduceMul, at_t, swp_t, ordt_lt, gc_t, size_swp, arr_len, Int.add_sub_cancel, Int.natCast_mul, tn1, tnA, tnB, tnC, tnD, tnE, d1073_b0, tsifS, h3, h4]
            exact hq _ _ (.inr rfl)
        | false =>
          rw [if_neg (by rw [h3]; simp)] at hq
          cases h4 : ltT d[first + root]! d[first + (2 * root + 1)]! with
          | true =>
            rw [h4, if_neg (by simp)] at hq
            refine Ev_step (st' := tsifS a hi first (2 * root + 1) (Go.Sort.swp d (first + root) (first + (2 * root + 1)))) ?_ (ih (hi - (2 * root + 1)) (by omega) _ _ rfl (by rw [size_swp]; omega) (by rw [size_swp]; omega) (by omega) hq)
            simp (config := { maxSteps := 1000000 }) (disch := omega) only [go_sem, ↓reduceIte, Nat.reduceEqDiff, Nat.reduceAdd, Int.reduceToNat, reduceCtorEq, Nat.reduceLeDiff, Nat.reduceSub, Nat.reduceDiv, Nat.reduceMod, Nat.reduceMul, at_t, swp_t, ordt_lt, gc_t, size_swp, arr_len, Int.add_sub_cancel, Int.natCast_mul, tn1, tnA, tnB, tnC, tnD, tnE, d1073_b0, tsifS, h3, h4]
          | false =>
            rw [h4, if_pos (by simp)] at hq
            refine Ev_stop ?_
            simp (config := { maxSteps := 1000000 }) (disch := omega) only [go_sem, ↓reduceIte, Nat.reduceEqDiff, Nat.reduceAdd, Int.reduceToNat, reduceCtorEq, Nat.reduceLeDiff, Nat.reduceSub, Nat.reduceDiv, Nat.reduceMod, Nat.reduceMul, at_t, swp_t, ordt_lt, gc_t, size_swp, arr_len, Int.add_sub_cancel, Int.natCast_mul, tn1, tnA, tnB, tnC, tnD, tnE, d1073_b0, tsifS, h3, h4]
            exact hq _ _ (.inr rfl)
      · rw [if_neg (by simp; omega)] at hq
        cases h4 : ltT d[first + root]! d[first + (2 * root + 1)]! with
        | true =>
          rw [h4, if_neg (by simp)] at hq
          refine Ev_step (st' := tsifS a hi first (2 * root + 1) (Go.Sort.swp d (first + root) (first + (2 * root + 1)))) ?_ (ih (hi - (2 * root + 1)) (by omega) _ _ rfl (by rw [size_swp]; omega) (by rw [size_swp]; omega) (by omega) hq)
          simp (config := { maxSteps := 1000000 }) (disch := omega) only [go_sem, ↓reduceIte, Nat.reduceEqDiff, Nat.reduceAdd, Int.reduceToNat, reduceCtorEq, Nat.reduceLeDiff, Nat.reduceSub, Nat.reduceDiv, Nat.reduceMod, Nat.reduceMul, at_t, swp_t, ordt_lt, gc_t, size_swp, arr_len, Int.add_sub_cancel, Int.natCast_mul, tn1, tnA, tnB, tnC, tnD, tnE, d1073_b0, tsifS, h4]
        | false =>
          rw [h4, if_pos (by simp)] at hq
          refine Ev_stop ?_
          simp (config := { maxSteps := 1000000 }) (disch := omega) only [go_sem, ↓reduceIte, Nat.reduceEqDiff, Nat.reduceAdd, Int.reduceToNat, reduceCtorEq, Nat.reduceLeDiff, Nat.reduceSub, Nat.reduceDiv, Nat.reduceMod, Nat.reduceMul, at_t, swp_t, ordt_lt, gc_t, size_swp, arr_len, Int.add_sub_cancel, Int.natCast_mul, tn1, tnA, tnB, tnC, tnD, tnE, d1073_b0, tsifS, h4]
          exact hq _ _ (.inr rfl)
theorem tsift_run {hi first root : Nat} {d : Array Ky} (hb : first + hi ≤ d.size) (hs : d.size ≤ 1000000) (hr : root ≤ 1000000) : runP tab 1073 [.own 3 0, .int .i64 (root : Int), .int .i64 (hi : Int), .int .i64 (first : Int), .clo 1053 [] []] [.row false (kys d.toList)] = some (.tup [], [.row false (kys (siftDown ltT hi first root d).toList)]) := by
  refine runP_fn t1073 rfl ?_
  simp (config := { maxSteps := 1000000 }) (disch := omega) only [go_sem, ↓reduceIte, Nat.reduceEqDiff, Nat.reduceAdd, Int.reduceToNat, reduceCtorEq, Nat.reduceLeDiff, Nat.reduceSub, Nat.reduceDiv, Nat.reduceMod, Nat.reduceMul, at_t, swp_t, ordt_lt, gc_t, size_swp, arr_len, Int.add_sub_cancel, Int.natCast_mul, tn1, tnA, tnB, tnC, tnD, tnE, d1073]
  refine tsift_loop (a := 0) _ root d rfl hb hs hr (fun x env hx => ?_)
  rcases hx with rfl | rfl <;> simp (config := { maxSteps := 1000000 }) (disch := omega) only [go_sem, ↓reduceIte, Nat.reduceEqDiff, Nat.reduceAdd, Int.reduceToNat, reduceCtorEq, Nat.reduceLeDiff, Nat.reduceSub, Nat.reduceDiv, Nat.reduceMod, Nat.reduceMul, at_t, swp_t, ordt_lt, gc_t, size_swp, arr_len, Int.add_sub_cancel, Int.natCast_mul, tn1, tnA, tnB, tnC, tnD, tnE]
def thpB (hi first : Nat) (i : Int) (d : Array Ky) : St := ⟨[(0, .own 3 0), (3, .clo 1053 [] []), (8, .int .i64 (first : Int)), (9, .int .i64 0), (10, .int .i64 (hi : Int)), (11, .int .i64 i)], [.row false (kys d.toList)], 1, [(0, 1, [0, 3, 8, 9, 10, 11], [(0, 0)])]⟩
theorem thb_loop {hi first : Nat} {Q : AX → St → Prop} : ∀ (k : Nat) (d : Array Ky), first + hi ≤ d.size → d.size ≤ 1000000 → k ≤ 1000000 →
    (Ev tab d1063_b0 (thpB hi first (-1) (heapBuild ltT hi first k d)) (fun x st => x ≠ .normal ∧ Q x st)) → Ev tab (.loop d1063_b0) (thpB hi first ((k : Int) - 1) d) Q
  | 0, d, hb, hs, hk, hq => Ev_stop hq
  | k + 1, d, hb, hs, hk, hq => by
    have sz := tsift_sz hi first _ k d rfl
    refine Ev_step (st' := thpB hi first ((k : Int) - 1) (siftDown ltT hi first k d)) ?_ (thb_loop k _ (by omega) (by omega) (by omega) hq)
    have g := tsift_run (root := k) hb hs (by omega)
    generalize siftDown ltT hi first k d = d' at *
    simp (config := { maxSteps := 1000000 }) (disch := omega) only [go_sem, ↓reduceIte, Nat.reduceEqDiff, Nat.reduceAdd, Int.reduceToNat, reduceCtorEq, Nat.reduceLeDiff, Nat.reduceSub, Nat.reduceDiv, Nat.reduceMod, Nat.reduceMul, at_t, swp_t, ordt_lt, gc_t, size_swp, arr_len, Int.add_sub_cancel, Int.natCast_mul, tn1, tnA, tnB, tnC, tnD, tnE, d1063_b0, thpB, g]
theorem thb_sz (hi first : Nat) : ∀ (k : Nat) (d : Array Ky), (heapBuild ltT hi first k d).size = d.size
  | 0, d => rfl
  | k + 1, d => by rw [heapBuild, thb_sz hi first k, tsift_sz hi first _ k d rfl]
def thpP (first : Nat) (i : Int) (d : Array Ky) : St := ⟨[(0, .own 3 0), (3, .clo 1053 [] []), (8, .int .i64 (first : Int)), (9, .int .i64 0), (12, .int .i64 i)], [.row false (kys d.toList)], 1, [(1, 1, [0, 3, 8, 9, 12], [(0, 0)]), (0, 1, [0, 3, 8, 9, 10, 11], [(0, 0)])]⟩
theorem thp_loop {first : Nat} {Q : AX → St → Prop} : ∀ (k : Nat) (d : Array Ky), first + k ≤ d.size → d.size ≤ 1000000 →
    (Ev tab d1063_b1 (thpP first (-1) (heapPop ltT first k d)) (fun x st => x ≠ .normal ∧ Q x st)) → Ev tab (.loop d1063_b1) (thpP first ((k : Int) - 1) d) Q
  | 0, d, hb, hs, hq => Ev_stop hq
  | k + 1, d, hb, hs, hq => by
    have sz := tsift_sz k first _ 0 (Go.Sort.swp d first (first + k)) rfl
    have g := tsift_run (root := 0) (hi := k) (first := first) (d := Go.Sort.swp d first (first + k)) (by rw [size_swp]; omega) (by rw [size_swp]; omega) (by omega)
    refine Ev_step (st' := thpP first ((k : Int) - 1) (siftDown ltT k first 0 (Go.Sort.swp d first (first + k)))) ?_ (thp_loop k _ (by rw [sz, size_swp]; omega) (by rw [sz, size_swp]; omega) hq)
    generalize siftDown ltT k first 0 (Go.Sort.swp d first (first + k)) = d' at *
    rw [Int.cast_ofNat_Int] at g
    simp (config := { maxSteps := 1000000 }) (disch := omega) only [go_sem, ↓reduceIte, Nat.reduceEqDiff, Nat.reduceAdd, Int.reduceToNat, reduceCtorEq, Nat.reduceLeDiff, Nat.reduceSub, Nat.reduceDiv, Nat.reduceMod, Nat.reduceMul, at_t, swp_t, ordt_lt, gc_t, size_swp, arr_len, Int.add_sub_cancel, Int.natCast_mul, tn1, tnA, tnB, tnC, tnD, tnE, d1063_b1, thpP, g]
theorem thp_sz (first : Nat) : ∀ (k : Nat) (d : Array Ky), (heapPop ltT first k d).size = d.size
  | 0, d => rfl
  | k + 1, d => by rw [heapPop, thp_sz first k, tsift_sz k first _ 0 _ rfl, size_swp]
theorem theap_run {a b : Nat} {d : Array Ky} (hab : a ≤ b) (hb : b ≤ d.size) (hs : d.size ≤ 1000000) (h2 : a < b) : runP tab 1063 [.own 3 0, .int .i64 (a : Int), .int .i64 (b : Int), .clo 1053 [] []] [.row false (kys d.toList)] = some (.tup [], [.row false (kys (heapSort ltT d a b).toList)]) := by
  refine runP_fn t1063 rfl ?_
  obtain ⟨n, rfl⟩ : ∃ n, b = a + n := ⟨b - a, by omega⟩
  have q1 : ((a : Int) + (n : Int)) - (a : Int) = (n : Int) := by omega
  have q2 : ((n : Int) - 1).tdiv 2 = (((n - 1) / 2 + 1 : Nat) : Int) - 1 := by
    rw [show (n : Int) - 1 = ((n - 1 : Nat) : Int) by omega]
    rw [show ((n - 1 : Nat) : Int).tdiv 2 = (((n - 1) / 2 : Nat) : Int) from rfl]
    omega
  have q3 : (((n - 1) / 2 : Nat) : Int) = (((n - 1) / 2 + 1 : Nat) : Int) - 1 := by omega
  rw [heapSort, show a + n - a = n by omega]
  simp (config := { maxSteps := 1000000 }) (disch := omega) only [go_sem, ↓reduceIte, Nat.reduceEqDiff, Nat.reduceAdd, Int.reduceToNat, reduceCtorEq, Nat.reduceLeDiff, Nat.reduceSub, Nat.reduceDiv, Nat.reduceMod, Nat.reduceMul, at_t, swp_t, ordt_lt, gc_t, size_swp, arr_len, Int.add_sub_cancel, Int.natCast_mul, tn1, tnA, tnB, tnC, tnD, tnE, d1063, q1, q2]
  rw [q3]
  refine thb_loop (hi := n) ((n - 1) / 2 + 1) d (by omega) hs (by omega) ?_
  have sz := thb_sz n a ((n - 1) / 2 + 1) d
  generalize heapBuild ltT n a ((n - 1) / 2 + 1) d = d' at *
  simp (config := { maxSteps := 1000000 }) (disch := omega) only [go_sem, ↓reduceIte, Nat.reduceEqDiff, Nat.reduceAdd, Int.reduceToNat, reduceCtorEq, Nat.reduceLeDiff, Nat.reduceSub, Nat.reduceDiv, Nat.reduceMod, Nat.reduceMul, at_t, swp_t, ordt_lt, gc_t, size_swp, arr_len, Int.add_sub_cancel, Int.natCast_mul, tn1, tnA, tnB, tnC, tnD, tnE, d1063_b0, thpB]
  refine thp_loop n d' (by omega) (by omega) ?_
  have sz2 := thp_sz a n d'
  generalize heapPop ltT a n d' = d'' at *
  simp (config := { maxSteps := 1000000 }) (disch := omega) only [go_sem, ↓reduceIte, Nat.reduceEqDiff, Nat.reduceAdd, Int.reduceToNat, reduceCtorEq, Nat.reduceLeDiff, Nat.reduceSub, Nat.reduceDiv, Nat.reduceMod, Nat.reduceMul, at_t, swp_t, ordt_lt, gc_t, size_swp, arr_len, Int.add_sub_cancel, Int.natCast_mul, tn1, tnA, tnB, tnC, tnD, tnE, d1063_b1, thpP]
def trevS (i j : Nat) (d : Array Ky) : St := ⟨[(0, .own 3 0), (8, .int .i64 (i : Int)), (9, .int .i64 (j : Int))], [.row false (kys d.toList)], 1, [(0, 1, [0, 8, 9], [(0, 0)])]⟩
theorem trev_loop {Q : AX → St → Prop} : ∀ (n i j : Nat) (d : Array Ky), j - i ≤ n → j < d.size → i < d.size → d.size ≤ 1000000 →
    (∀ env, Q (.exit 0) ⟨env, [.row false (kys (reverseLoop i j d).toList)], 1, [(0, 1, [0, 8, 9], [(0, 0)])]⟩) → Ev tab (.loop d1066_b0) (trevS i j d) Q := by
  intro n
  induction n with
  | zero =>
    intro i j d hn hj hi hs hq
    rw [reverseLoop, if_neg (by omega)] at hq
    refine Ev_stop ?_
    simp (config := { maxSteps := 1000000 }) (disch := omega) only [go_sem, ↓reduceIte, Nat.reduceEqDiff, Nat.reduceAdd, Int.reduceToNat, reduceCtorEq, Nat.reduceLeDiff, Nat.reduceSub, Nat.reduceDiv, Nat.reduceMod, Nat.reduceMul, at_t, swp_t, ordt_lt, gc_t, size_swp, arr_len, Int.add_sub_cancel, Int.natCast_mul, tn1, tnA, tnB, tnC, tnD, tnE, d1066_b0, trevS]
    exact hq _
  | succ n ih =>
    intro i j d hn hj hi hs hq
    by_cases h : i < j
    · rw [reverseLoop, if_pos h] at hq
      obtain ⟨k, rfl⟩ : ∃ k, j = k + 1 := ⟨j - 1, by omega⟩
      refine Ev_step (st' := trevS (i + 1) k (Go.Sort.swp d i (k + 1))) ?_ (ih (i + 1) k _ (by omega) (by rw [size_swp]; omega) (by rw [size_swp]; omega) (by rw [size_swp]; exact hs) hq)
      simp (config := { maxSteps := 1000000 }) (disch := omega) only [go_sem, ↓reduceIte, Nat.reduceEqDiff, Nat.reduceAdd, Int.reduceToNat, reduceCtorEq, Nat.reduceLeDiff, Nat.reduceSub, Nat.reduceDiv, Nat.reduceMod, Nat.reduceMul, at_t, swp_t, ordt_lt, gc_t, size_swp, arr_len, Int.add_sub_cancel, Int.natCast_mul, tn1, tnA, tnB, tnC, tnD, tnE, d1066_b0, trevS]
    · rw [reverseLoop, if_neg h] at hq
      refine Ev_stop ?_
      simp (config := { maxSteps := 1000000 }) (disch := omega) only [go_sem, ↓reduceIte, Nat.reduceEqDiff, Nat.reduceAdd, Int.reduceToNat, reduceCtorEq, Nat.reduceLeDiff, Nat.reduceSub, Nat.reduceDiv, Nat.reduceMod, Nat.reduceMul, at_t, swp_t, ordt_lt, gc_t, size_swp, arr_len, Int.add_sub_cancel, Int.natCast_mul, tn1, tnA, tnB, tnC, tnD, tnE, d1066_b0, trevS]
      exact hq _
theorem trev_run {a b : Nat} {d : Array Ky} (hab : a < b) (hb : b ≤ d.size) (hs : d.size ≤ 1000000) : runP tab 1066 [.own 3 0, .int .i64 (a : Int), .int .i64 (b : Int), .clo 1053 [] []] [.row false (kys d.toList)] = some (.tup [], [.row false (kys (reverseRange d a b).toList)]) := by
  refine runP_fn t1066 rfl ?_
  have q : (b : Int) - 1 = ((b - 1 : Nat) : Int) := by omega
  simp (config := { maxSteps := 1000000 }) (disch := omega) only [go_sem, ↓reduceIte, Nat.reduceEqDiff, Nat.reduceAdd, Int.reduceToNat, reduceCtorEq, Nat.reduceLeDiff, Nat.reduceSub, Nat.reduceDiv, Nat.reduceMod, Nat.reduceMul, at_t, swp_t, ordt_lt, gc_t, size_swp, arr_len, Int.add_sub_cancel, Int.natCast_mul, tn1, tnA, tnB, tnC, tnD, tnE, d1066, q]
  refine trev_loop _ a (b - 1) d (Nat.le_refl _) (by omega) (by omega) hs (fun env => ?_)
  rw [reverseRange]
  simp (config := { maxSteps := 1000000 }) (disch := omega) only [go_sem, ↓reduceIte, Nat.reduceEqDiff, Nat.reduceAdd, Int.reduceToNat, reduceCtorEq, Nat.reduceLeDiff, Nat.reduceSub, Nat.reduceDiv, Nat.reduceMod, Nat.reduceMul, at_t, swp_t, ordt_lt, gc_t, size_swp, arr_len, Int.add_sub_cancel, Int.natCast_mul, tn1, tnA, tnB, tnC, tnD, tnE]
end Go.Proofs.Ythpgaecloecflaa
