/- The library's sort of numbers: what is in order but for a few; pivots. -/
import Derived.Test.YtgjahkebhlphgaaSi2
namespace Go.Proofs.Ytgjahkebhlphgaa
set_option linter.unusedSimpArgs false
set_option linter.unusedVariables false
set_option maxHeartbeats 4000000
set_option maxRecDepth 100000
open Go.Sort (scanSorted shiftDown shiftUp partialIns partialInsertionSort order2 median medianAdjacent size_swp)
def ipaS (M : List Mark) (a b i s : Nat) (d : Array Int) : St := ⟨[(0, .own 1 0), (1, .int .i64 (a : Int)), (2, .int .i64 (b : Int)), (7, .int .i64 (i : Int)), (8, .int .i64 (s : Int))], [.row false (ints d.toList)], 1, M⟩
def ipdS (M : List Mark) (a b i s j : Nat) (d : Array Int) : St := ⟨[(0, .own 1 0), (1, .int .i64 (a : Int)), (2, .int .i64 (b : Int)), (7, .int .i64 (i : Int)), (8, .int .i64 (s : Int)), (9, .int .i64 (j : Int))], [.row false (ints d.toList)], 1, M⟩
def ipuS (M : List Mark) (a b i s j : Nat) (d : Array Int) : St := ⟨[(0, .own 1 0), (1, .int .i64 (a : Int)), (2, .int .i64 (b : Int)), (7, .int .i64 (i : Int)), (8, .int .i64 (s : Int)), (10, .int .i64 (j : Int))], [.row false (ints d.toList)], 1, M⟩
theorem iss {a b s : Nat} {d : Array Int} {M : List Mark} {Q : AX → St → Prop} : ∀ (n k : Nat), b - (k + 1) = n → b ≤ d.size → k + 1 ≤ d.size → d.size ≤ 1000000 → s ≤ 5 →
    (∀ env, lk env 0 = .own 1 0 → lk env 1 = .int .i64 (a : Int) → lk env 2 = .int .i64 (b : Int) → lk env 7 = .int .i64 ((scanSorted ltI d b (k + 1) : Nat) : Int) → lk env 8 = .int .i64 (s : Int) → Q (.exit 2) ⟨env, [.row false (ints d.toList)], 1, (1, 1, [0, 1, 2, 7, 8], [(0, 0)]) :: M⟩) → Ev tab (.loop d1384_b1) (ipaS ((1, 1, [0, 1, 2, 7, 8], [(0, 0)]) :: M) a b (k + 1) s d) Q
  | 0, k, hn, hb, hk, hs, h5, hq => by
    rw [scanSorted, if_neg (by simp; omega)] at hq
    refine Ev_stop ?_
    simp (config := { maxSteps := 1000000 }) (disch := omega) only [go_sem, ↓reduceIte, Nat.reduceEqDiff, Nat.reduceAdd, Int.reduceToNat, reduceCtorEq, Nat.reduceLeDiff, Nat.reduceSub, Nat.reduceDiv, Nat.reduceMod, Nat.reduceMul, at_i, swp_i, gl_i, size_swp, arr_len, Int.add_sub_cancel, Int.natCast_mul, tn1, tnA, tnB, tnC, tnD, tnE, d1384_b1, ipaS]
    exact hq _ rfl rfl rfl rfl rfl
  | n + 1, k, hn, hb, hk, hs, h5, hq => by
    cases h : ltI d[k + 1]! d[k]! with
    | false =>
      rw [scanSorted, if_pos (by rw [Nat.add_sub_cancel, h]; simp; omega)] at hq
      refine Ev_step (st' := ipaS ((1, 1, [0, 1, 2, 7, 8], [(0, 0)]) :: M) a b (k + 1 + 1) s d) ?_ (iss n (k + 1) (by omega) hb (by omega) hs h5 hq)
      simp (config := { maxSteps := 1000000 }) (disch := omega) only [go_sem, ↓reduceIte, Nat.reduceEqDiff, Nat.reduceAdd, Int.reduceToNat, reduceCtorEq, Nat.reduceLeDiff, Nat.reduceSub, Nat.reduceDiv, Nat.reduceMod, Nat.reduceMul, at_i, swp_i, gl_i, size_swp, arr_len, Int.add_sub_cancel, Int.natCast_mul, tn1, tnA, tnB, tnC, tnD, tnE, d1384_b1, ipaS, h]
    | true =>
      rw [scanSorted, if_neg (by rw [Nat.add_sub_cancel, h]; simp)] at hq
      refine Ev_stop ?_
      simp (config := { maxSteps := 1000000 }) (disch := omega) only [go_sem, ↓reduceIte, Nat.reduceEqDiff, Nat.reduceAdd, Int.reduceToNat, reduceCtorEq, Nat.reduceLeDiff, Nat.reduceSub, Nat.reduceDiv, Nat.reduceMod, Nat.reduceMul, at_i, swp_i, gl_i, size_swp, arr_len, Int.add_sub_cancel, Int.natCast_mul, tn1, tnA, tnB, tnC, tnD, tnE, d1384_b1, ipaS, h]
      exact hq _ rfl rfl rfl rfl rfl
theorem isd_sz : ∀ (j : Nat) (d : Array Int), (shiftDown ltI j d).size = d.size
  | 0, d => rfl
  | j + 1, d => by
    rw [shiftDown]; split
    · rfl
    · rw [isd_sz j, size_swp]
theorem isd {a b i s : Nat} {M : List Mark} {Q : AX → St → Prop} : ∀ (j : Nat) (d : Array Int), j < d.size → d.size ≤ 1000000 →
    (∀ env, lk env 0 = .own 1 0 → lk env 1 = .int .i64 (a : Int) → lk env 2 = .int .i64 (b : Int) → lk env 7 = .int .i64 (i : Int) → lk env 8 = .int .i64 (s : Int) → Q (.exit 4) ⟨env, [.row false (ints (shiftDown ltI j d).toList)], 1, (2, 1, [0, 1, 2, 7, 8, 9], [(0, 0)]) :: M⟩) → Ev tab (.loop d1384_b2) (ipdS ((2, 1, [0, 1, 2, 7, 8, 9], [(0, 0)]) :: M) a b i s j d) Q
  | 0, d, hj, hs, hq => by
    rw [shiftDown] at hq
    refine Ev_stop ?_
    simp (config := { maxSteps := 1000000 }) (disch := omega) only [go_sem, ↓reduceIte, Nat.reduceEqDiff, Nat.reduceAdd, Int.reduceToNat, reduceCtorEq, Nat.reduceLeDiff, Nat.reduceSub, Nat.reduceDiv, Nat.reduceMod, Nat.reduceMul, at_i, swp_i, gl_i, size_swp, arr_len, Int.add_sub_cancel, Int.natCast_mul, tn1, tnA, tnB, tnC, tnD, tnE, d1384_b2, ipdS]
    exact hq _ rfl rfl rfl rfl rfl
  | j + 1, d, hj, hs, hq => by
    cases h : ltI d[j + 1]! d[j]! with
    | true =>
      rw [shiftDown, h, if_neg (by simp)] at hq
      refine Ev_step (st' := ipdS ((2, 1, [0, 1, 2, 7, 8, 9], [(0, 0)]) :: M) a b i s j (Go.Sort.swp d (j + 1) j)) ?_ (isd j _ (by rw [size_swp]; omega) (by rw [size_swp]; exact hs) hq)
      simp (config := { maxSteps := 1000000 }) (disch := omega) only [go_sem, ↓reduceIte, Nat.reduceEqDiff, Nat.reduceAdd, Int.reduceToNat, reduceCtorEq, Nat.reduceLeDiff, Nat.reduceSub, Nat.reduceDiv, Nat.reduceMod, Nat.reduceMul, at_i, swp_i, gl_i, size_swp, arr_len, Int.add_sub_cancel, Int.natCast_mul, tn1, tnA, tnB, tnC, tnD, tnE, d1384_b2, ipdS, h]
    | false =>
      rw [shiftDown, h, if_pos (by simp)] at hq
      refine Ev_stop ?_
      simp (config := { maxSteps := 1000000 }) (disch := omega) only [go_sem, ↓reduceIte, Nat.reduceEqDiff, Nat.reduceAdd, Int.reduceToNat, reduceCtorEq, Nat.reduceLeDiff, Nat.reduceSub, Nat.reduceDiv, Nat.reduceMod, Nat.reduceMul, at_i, swp_i, gl_i, size_swp, arr_len, Int.add_sub_cancel, Int.natCast_mul, tn1, tnA, tnB, tnC, tnD, tnE, d1384_b2, ipdS, h]
      exact hq _ rfl rfl rfl rfl rfl
theorem isu_sz {b : Nat} : ∀ (n j : Nat) (d : Array Int), b - j = n → (shiftUp ltI b j d).size = d.size
  | 0, j, d, hn => by rw [shiftUp, if_neg (by omega)]
  | n + 1, j, d, hn => by
    rw [shiftUp, if_pos (by omega)]; split
    · rfl
    · rw [isu_sz n (j + 1) _ (by omega), size_swp]
theorem isu {a b i s : Nat} {M : List Mark} {Q : AX → St → Prop} : ∀ (n k : Nat) (d : Array Int), b - (k + 1) = n → b ≤ d.size → k < d.size → d.size ≤ 1000000 →
    (∀ env, lk env 0 = .own 1 0 → lk env 1 = .int .i64 (a : Int) → lk env 2 = .int .i64 (b : Int) → lk env 7 = .int .i64 (i : Int) → lk env 8 = .int .i64 (s : Int) → Q (.exit 6) ⟨env, [.row false (ints (shiftUp ltI b (k + 1) d).toList)], 1, (3, 1, [0, 1, 2, 7, 8, 10], [(0, 0)]) :: M⟩) → Ev tab (.loop d1384_b3) (ipuS ((3, 1, [0, 1, 2, 7, 8, 10], [(0, 0)]) :: M) a b i s (k + 1) d) Q
  | 0, k, d, hn, hb, hk, hs, hq => by
    rw [shiftUp, if_neg (by omega)] at hq
    refine Ev_stop ?_
    simp (config := { maxSteps := 1000000 }) (disch := omega) only [go_sem, ↓reduceIte, Nat.reduceEqDiff, Nat.reduceAdd, Int.reduceToNat, reduceCtorEq, Nat.reduceLeDiff, Nat.reduceSub, Nat.reduceDiv, Nat.reduceMod, Nat.reduceMul, at_i, swp_i, gl_i, size_swp, arr_len, Int.add_sub_cancel, Int.natCast_mul, tn1, tnA, tnB, tnC, tnD, tnE, d1384_b3, ipuS]
    exact hq _ rfl rfl rfl rfl rfl
  | n + 1, k, d, hn, hb, hk, hs, hq => by
    rw [shiftUp, if_pos (by omega), Nat.add_sub_cancel] at hq
    cases h : ltI d[k + 1]! d[k]! with
    | true =>
      rw [h, if_neg (by simp)] at hq
      refine Ev_step (st' := ipuS ((3, 1, [0, 1, 2, 7, 8, 10], [(0, 0)]) :: M) a b i s (k + 1 + 1) (Go.Sort.swp d (k + 1) k)) ?_ (isu n (k + 1) _ (by omega) (by rw [size_swp]; omega) (by rw [size_swp]; omega) (by rw [size_swp]; exact hs) hq)
      simp (config := { maxSteps := 1000000 }) (disch := omega) only [go_sem, ↓reduceIte, Nat.reduceEqDiff, Nat.reduceAdd, Int.reduceToNat, reduceCtorEq, Nat.reduceLeDiff, Nat.reduceSub, Nat.reduceDiv, Nat.reduceMod, Nat.reduceMul, at_i, swp_i, gl_i, size_swp, arr_len, Int.add_sub_cancel, Int.natCast_mul, tn1, tnA, tnB, tnC, tnD, tnE, d1384_b3, ipuS, h]
    | false =>
      rw [h, if_pos (by simp)] at hq
      refine Ev_stop ?_
      simp (config := { maxSteps := 1000000 }) (disch := omega) only [go_sem, ↓reduceIte, Nat.reduceEqDiff, Nat.reduceAdd, Int.reduceToNat, reduceCtorEq, Nat.reduceLeDiff, Nat.reduceSub, Nat.reduceDiv, Nat.reduceMod, Nat.reduceMul, at_i, swp_i, gl_i, size_swp, arr_len, Int.add_sub_cancel, Int.natCast_mul, tn1, tnA, tnB, tnC, tnD, tnE, d1384_b3, ipuS, h]
      exact hq _ rfl rfl rfl rfl rfl
theorem ifd_sz (a i : Nat) (d : Array Int) : (Go.Sort.fixDown ltI a i d).size = d.size := by
  unfold Go.Sort.fixDown; split
  · exact isd_sz _ _
  · rfl
theorem ifu_sz (b i : Nat) (d : Array Int) : (Go.Sort.fixUp ltI b i d).size = d.size := by
  unfold Go.Sort.fixUp; split
  · exact isu_sz _ _ _ rfl
  · rfl
theorem ipa_loop {a b : Nat} {M : List Mark} {Q : AX → St → Prop} : ∀ (s i t : Nat) (d : Array Int), s + t = 5 → a < i → i ≤ b → b ≤ d.size → d.size ≤ 1000000 →
    ((partialIns ltI a b s i d).2 = true → ∀ env M', lk env 6 = .bool true → Q .ret ⟨env, [.row false (ints ((partialIns ltI a b s i d).1).toList)], 1, M'⟩) →
    ((partialIns ltI a b s i d).2 = false → ∀ env M', lk env 6 = .bool false → Q .ret ⟨env, [.row false (ints ((partialIns ltI a b s i d).1).toList)], 1, M'⟩) →
    ((partialIns ltI a b s i d).2 = false → ∀ env M', Q (.exit 0) ⟨env, [.row false (ints ((partialIns ltI a b s i d).1).toList)], 1, M'⟩) →
    Ev tab (.loop d1384_b0) (ipaS ((0, 1, [0, 1, 2, 7, 8], [(0, 0)]) :: M) a b i t d) Q
  | 0, i, t, d, ht, ha, hi, hb, hs, q1, q2, q3 => by
    refine Ev_stop ?_
    simp (config := { maxSteps := 1000000 }) (disch := omega) only [go_sem, ↓reduceIte, Nat.reduceEqDiff, Nat.reduceAdd, Int.reduceToNat, reduceCtorEq, Nat.reduceLeDiff, Nat.reduceSub, Nat.reduceDiv, Nat.reduceMod, Nat.reduceMul, at_i, swp_i, gl_i, size_swp, arr_len, Int.add_sub_cancel, Int.natCast_mul, tn1, tnA, tnB, tnC, tnD, tnE, d1384_b0, ipaS]
    exact q3 rfl _ _
  | s + 1, i, t, d, ht, ha, hi, hb, hs, q1, q2, q3 => by
    obtain ⟨k, rfl⟩ : ∃ k, i = k + 1 := ⟨i - 1, by omega⟩
    rw [Go.Sort.partialIns_succ] at q1 q2 q3
    have hge : k + 1 ≤ scanSorted ltI d b (k + 1) ∧ scanSorted ltI d b (k + 1) ≤ b := by
      have : ∀ n i, b - i = n → i ≤ b → i ≤ scanSorted ltI d b i ∧ scanSorted ltI d b i ≤ b := by
        intro n
        induction n with
        | zero => intro i h1 h2; rw [scanSorted, if_neg (by simp; omega)]; omega
        | succ n ih =>
          intro i h1 h2
          rw [scanSorted]; split
          · have := ih (i + 1) (by omega) (by omega); omega
          · omega
      exact this _ _ rfl hi
    by_cases c1 : scanSorted ltI d b (k + 1) = b
    · rw [if_pos c1] at q1 q2 q3
      refine Ev_stop ?_
      simp (config := { maxSteps := 1000000 }) (disch := omega) only [go_sem, ↓reduceIte, Nat.reduceEqDiff, Nat.reduceAdd, Int.reduceToNat, reduceCtorEq, Nat.reduceLeDiff, Nat.reduceSub, Nat.reduceDiv, Nat.reduceMod, Nat.reduceMul, at_i, swp_i, gl_i, size_swp, arr_len, Int.add_sub_cancel, Int.natCast_mul, tn1, tnA, tnB, tnC, tnD, tnE, d1384_b0, ipaS]
      refine iss _ k rfl hb (by omega) hs (by omega) (fun env e0 e1 e2 e9 e10 => ?_)
      rw [c1] at e9
      simp (config := { maxSteps := 1000000 }) (disch := omega) only [go_sem, ↓reduceIte, Nat.reduceEqDiff, Nat.reduceAdd, Int.reduceToNat, reduceCtorEq, Nat.reduceLeDiff, Nat.reduceSub, Nat.reduceDiv, Nat.reduceMod, Nat.reduceMul, at_i, swp_i, gl_i, size_swp, arr_len, Int.add_sub_cancel, Int.natCast_mul, tn1, tnA, tnB, tnC, tnD, tnE, e0, e1, e2, e9, e10]
      exact q1 rfl _ _ rfl
    · rw [if_neg c1] at q1 q2 q3
      by_cases c2 : b - a < 50
      · rw [if_pos c2] at q1 q2 q3
        refine Ev_stop ?_
        simp (config := { maxSteps := 1000000 }) (disch := omega) only [go_sem, ↓reduceIte, Nat.reduceEqDiff, Nat.reduceAdd, Int.reduceToNat, reduceCtorEq, Nat.reduceLeDiff, Nat.reduceSub, Nat.reduceDiv, Nat.reduceMod, Nat.reduceMul, at_i, swp_i, gl_i, size_swp, arr_len, Int.add_sub_cancel, Int.natCast_mul, tn1, tnA, tnB, tnC, tnD, tnE, d1384_b0, ipaS]
        refine iss _ k rfl hb (by omega) hs (by omega) (fun env e0 e1 e2 e9 e10 => ?_)
        generalize scanSorted ltI d b (k + 1) = m at *
        simp (config := { maxSteps := 1000000 }) (disch := omega) only [go_sem, ↓reduceIte, Nat.reduceEqDiff, Nat.reduceAdd, Int.reduceToNat, reduceCtorEq, Nat.reduceLeDiff, Nat.reduceSub, Nat.reduceDiv, Nat.reduceMod, Nat.reduceMul, at_i, swp_i, gl_i, size_swp, arr_len, Int.add_sub_cancel, Int.natCast_mul, tn1, tnA, tnB, tnC, tnD, tnE, e0, e1, e2, e9, e10]
        exact q2 rfl _ _ rfl
      · rw [if_neg c2] at q1 q2 q3
        refine Ev_step (st' := ipaS ((0, 1, [0, 1, 2, 7, 8], [(0, 0)]) :: M) a b (scanSorted ltI d b (k + 1)) (t + 1) (Go.Sort.fixUp ltI b (scanSorted ltI d b (k + 1)) (Go.Sort.fixDown ltI a (scanSorted ltI d b (k + 1)) (Go.Sort.swp d (scanSorted ltI d b (k + 1)) (scanSorted ltI d b (k + 1) - 1))))) ?_ (ipa_loop s _ (t + 1) _ (by omega) (by omega) (by omega) (by rw [ifu_sz, ifd_sz, size_swp]; exact hb) (by rw [ifu_sz, ifd_sz, size_swp]; exact hs) q1 q2 q3)
        clear q1 q2 q3
        simp (config := { maxSteps := 1000000 }) (disch := omega) only [go_sem, ↓reduceIte, Nat.reduceEqDiff, Nat.reduceAdd, Int.reduceToNat, reduceCtorEq, Nat.reduceLeDiff, Nat.reduceSub, Nat.reduceDiv, Nat.reduceMod, Nat.reduceMul, at_i, swp_i, gl_i, size_swp, arr_len, Int.add_sub_cancel, Int.natCast_mul, tn1, tnA, tnB, tnC, tnD, tnE, d1384_b0, ipaS]
        refine iss _ k rfl hb (by omega) hs (by omega) (fun env e0 e1 e2 e9 e10 => ?_)
        generalize scanSorted ltI d b (k + 1) = m at *
        obtain ⟨l, rfl⟩ : ∃ l, m = l + 1 := ⟨m - 1, by omega⟩
        rw [Nat.add_sub_cancel]
        have sz := size_swp d (l + 1) l
        unfold Go.Sort.fixDown
        by_cases c3 : l + 1 - a ≥ 2
        · rw [if_pos c3, Nat.add_sub_cancel]
          simp (config := { maxSteps := 1000000 }) (disch := omega) only [go_sem, ↓reduceIte, Nat.reduceEqDiff, Nat.reduceAdd, Int.reduceToNat, reduceCtorEq, Nat.reduceLeDiff, Nat.reduceSub, Nat.reduceDiv, Nat.reduceMod, Nat.reduceMul, at_i, swp_i, gl_i, size_swp, arr_len, Int.add_sub_cancel, Int.natCast_mul, tn1, tnA, tnB, tnC, tnD, tnE, e0, e1, e2, e9, e10]
          refine isd l _ (by omega) (by omega) (fun env e0 e1 e2 e9 e10 => ?_)
          have sz2 := isd_sz l (Go.Sort.swp d (l + 1) l)
          generalize shiftDown ltI l (Go.Sort.swp d (l + 1) l) = d2 at *
          unfold Go.Sort.fixUp
          by_cases c4 : b - (l + 1) ≥ 2
          · rw [if_pos c4]
            simp (config := { maxSteps := 1000000 }) (disch := omega) only [go_sem, ↓reduceIte, Nat.reduceEqDiff, Nat.reduceAdd, Int.reduceToNat, reduceCtorEq, Nat.reduceLeDiff, Nat.reduceSub, Nat.reduceDiv, Nat.reduceMod, Nat.reduceMul, at_i, swp_i, gl_i, size_swp, arr_len, Int.add_sub_cancel, Int.natCast_mul, tn1, tnA, tnB, tnC, tnD, tnE, e0, e1, e2, e9, e10]
            refine isu _ (l + 1) d2 rfl (by omega) (by omega) (by omega) (fun env e0 e1 e2 e9 e10 => ?_)
            generalize shiftUp ltI b (l + 1 + 1) d2 = d3 at *
            simp (config := { maxSteps := 1000000 }) (disch := omega) only [go_sem, ↓reduceIte, Nat.reduceEqDiff, Nat.reduceAdd, Int.reduceToNat, reduceCtorEq, Nat.reduceLeDiff, Nat.reduceSub, Nat.reduceDiv, Nat.reduceMod, Nat.reduceMul, at_i, swp_i, gl_i, size_swp, arr_len, Int.add_sub_cancel, Int.natCast_mul, tn1, tnA, tnB, tnC, tnD, tnE, e0, e1, e2, e9, e10]
          · rw [if_neg c4]
            simp (config := { maxSteps := 1000000 }) (disch := omega) only [go_sem, ↓reduceIte, Nat.reduceEqDiff, Nat.reduceAdd, Int.reduceToNat, reduceCtorEq, Nat.reduceLeDiff, Nat.reduceSub, Nat.reduceDiv, Nat.reduceMod, Nat.reduceMul, at_i, swp_i, gl_i, size_swp, arr_len, Int.add_sub_cancel, Int.natCast_mul, tn1, tnA, tnB, tnC, tnD, tnE, e0, e1, e2, e9, e10]
        · rw [if_neg c3]
          unfold Go.Sort.fixUp
          by_cases c4 : b - (l + 1) ≥ 2
          · rw [if_pos c4]
            simp (config := { maxSteps := 1000000 }) (disch := omega) only [go_sem, ↓reduceIte, Nat.reduceEqDiff, Nat.reduceAdd, Int.reduceToNat, reduceCtorEq, Nat.reduceLeDiff, Nat.reduceSub, Nat.reduceDiv, Nat.reduceMod, Nat.reduceMul, at_i, swp_i, gl_i, size_swp, arr_len, Int.add_sub_cancel, Int.natCast_mul, tn1, tnA, tnB, tnC, tnD, tnE, e0, e1, e2, e9, e10]
            refine isu _ (l + 1) (Go.Sort.swp d (l + 1) l) rfl (by omega) (by omega) (by omega) (fun env e0 e1 e2 e9 e10 => ?_)
            generalize shiftUp ltI b (l + 1 + 1) (Go.Sort.swp d (l + 1) l) = d3 at *
            simp (config := { maxSteps := 1000000 }) (disch := omega) only [go_sem, ↓reduceIte, Nat.reduceEqDiff, Nat.reduceAdd, Int.reduceToNat, reduceCtorEq, Nat.reduceLeDiff, Nat.reduceSub, Nat.reduceDiv, Nat.reduceMod, Nat.reduceMul, at_i, swp_i, gl_i, size_swp, arr_len, Int.add_sub_cancel, Int.natCast_mul, tn1, tnA, tnB, tnC, tnD, tnE, e0, e1, e2, e9, e10]
          · exfalso; omega
theorem ipar_run {a b : Nat} {d : Array Int} (hab : a < b) (hb : b ≤ d.size) (hs : d.size ≤ 1000000) : runP tab 1384 [.own 1 0, .int .i64 (a : Int), .int .i64 (b : Int)] [.row false (ints d.toList)] = some (.bool (partialInsertionSort ltI d a b).2, [.row false (ints ((partialInsertionSort ltI d a b).1).toList)]) := by
  refine runP_fn t1384 rfl ?_
  simp (config := { maxSteps := 1000000 }) (disch := omega) only [go_sem, ↓reduceIte, Nat.reduceEqDiff, Nat.reduceAdd, Int.reduceToNat, reduceCtorEq, Nat.reduceLeDiff, Nat.reduceSub, Nat.reduceDiv, Nat.reduceMod, Nat.reduceMul, at_i, swp_i, gl_i, size_swp, arr_len, Int.add_sub_cancel, Int.natCast_mul, tn1, tnA, tnB, tnC, tnD, tnE, d1384]
  rw [partialInsertionSort]
  refine ipa_loop 5 (a + 1) 0 d rfl (by omega) (by omega) hb hs (fun h env M' e8 => ?_) (fun h env M' e8 => ?_) (fun h env M' => ?_)
  · rw [h]
    generalize (partialIns ltI a b 5 (a + 1) d).1 = d' at *
    simp (config := { maxSteps := 1000000 }) (disch := omega) only [go_sem, ↓reduceIte, Nat.reduceEqDiff, Nat.reduceAdd, Int.reduceToNat, reduceCtorEq, Nat.reduceLeDiff, Nat.reduceSub, Nat.reduceDiv, Nat.reduceMod, Nat.reduceMul, at_i, swp_i, gl_i, size_swp, arr_len, Int.add_sub_cancel, Int.natCast_mul, tn1, tnA, tnB, tnC, tnD, tnE, e8]
  · rw [h]
    generalize (partialIns ltI a b 5 (a + 1) d).1 = d' at *
    simp (config := { maxSteps := 1000000 }) (disch := omega) only [go_sem, ↓reduceIte, Nat.reduceEqDiff, Nat.reduceAdd, Int.reduceToNat, reduceCtorEq, Nat.reduceLeDiff, Nat.reduceSub, Nat.reduceDiv, Nat.reduceMod, Nat.reduceMul, at_i, swp_i, gl_i, size_swp, arr_len, Int.add_sub_cancel, Int.natCast_mul, tn1, tnA, tnB, tnC, tnD, tnE, e8]
  · rw [h]
    generalize (partialIns ltI a b 5 (a + 1) d).1 = d' at *
    simp (config := { maxSteps := 1000000 }) (disch := omega) only [go_sem, ↓reduceIte, Nat.reduceEqDiff, Nat.reduceAdd, Int.reduceToNat, reduceCtorEq, Nat.reduceLeDiff, Nat.reduceSub, Nat.reduceDiv, Nat.reduceMod, Nat.reduceMul, at_i, swp_i, gl_i, size_swp, arr_len, Int.add_sub_cancel, Int.natCast_mul, tn1, tnA, tnB, tnC, tnD, tnE]
theorem iord_run {a b s : Nat} {d : Array Int} (ha : a < d.size) (hb : b < d.size) (hs : d.size ≤ 1000000) (h12 : s ≤ 1000) : runP tab 1392 [.sl 1 (ints d.toList), .int .i64 (a : Int), .int .i64 (b : Int), .ref 0 0] [.row false [.int .i64 (s : Int)]] =
    some (.tup [.int .i64 ((order2 ltI d a b s).1 : Int), .int .i64 ((order2 ltI d a b s).2.1 : Int)], [.row false [.int .i64 ((order2 ltI d a b s).2.2 : Int)]]) := by
  refine runP_fn t1392 rfl ?_
  unfold order2
  cases h : ltI d[b]! d[a]! with
  | true =>
    rw [if_pos rfl]
    simp (config := { maxSteps := 1000000 }) (disch := omega) only [go_sem, ↓reduceIte, Nat.reduceEqDiff, Nat.reduceAdd, Int.reduceToNat, reduceCtorEq, Nat.reduceLeDiff, Nat.reduceSub, Nat.reduceDiv, Nat.reduceMod, Nat.reduceMul, at_i, swp_i, gl_i, size_swp, arr_len, Int.add_sub_cancel, Int.natCast_mul, tn1, tnA, tnB, tnC, tnD, tnE, d1392, h]
  | false =>
    rw [if_neg (by simp)]
    simp (config := { maxSteps := 1000000 }) (disch := omega) only [go_sem, ↓reduceIte, Nat.reduceEqDiff, Nat.reduceAdd, Int.reduceToNat, reduceCtorEq, Nat.reduceLeDiff, Nat.reduceSub, Nat.reduceDiv, Nat.reduceMod, Nat.reduceMul, at_i, swp_i, gl_i, size_swp, arr_len, Int.add_sub_cancel, Int.natCast_mul, tn1, tnA, tnB, tnC, tnD, tnE, d1392, h]
theorem imed_run {a b c s : Nat} {d : Array Int} (ha : a < d.size) (hb : b < d.size) (hc : c < d.size) (hs : d.size ≤ 1000000) (h12 : s ≤ 100) : runP tab 1391 [.sl 1 (ints d.toList), .int .i64 (a : Int), .int .i64 (b : Int), .int .i64 (c : Int), .ref 0 0] [.row false [.int .i64 (s : Int)]] =
    some (.int .i64 ((median ltI d a b c s).1 : Int), [.row false [.int .i64 ((median ltI d a b c s).2 : Int)]]) := by
  refine runP_fn t1391 rfl ?_
  have g1 := iord_run ha hb hs (s := s) (by omega)
  have m1 := Go.Sort.order2_mem ltI d a b s
  have c1 : (order2 ltI d a b s).2.2 ≤ s + 1 := by unfold order2; split <;> simp
  rw [median]
  simp only
  generalize order2 ltI d a b s = r1 at *
  obtain ⟨x1, y1, s1⟩ := r1
  simp only at *
  have g2 := iord_run (a := y1) (b := c) (s := s1) (d := d) (by omega) hc hs (by omega)
  have m2 := Go.Sort.order2_mem ltI d y1 c s1
  have c2 : (order2 ltI d y1 c s1).2.2 ≤ s1 + 1 := by unfold order2; split <;> simp
  generalize order2 ltI d y1 c s1 = r2 at *
  obtain ⟨x2, y2, s2⟩ := r2
  simp only at *
  have g3 := iord_run (a := x1) (b := x2) (s := s2) (d := d) (by omega) (by omega) hs (by omega)
  generalize order2 ltI d x1 x2 s2 = r3 at *
  obtain ⟨x3, y3, s3⟩ := r3
  simp only at *
  simp (config := { maxSteps := 1000000 }) (disch := omega) only [go_sem, ↓reduceIte, Nat.reduceEqDiff, Nat.reduceAdd, Int.reduceToNat, reduceCtorEq, Nat.reduceLeDiff, Nat.reduceSub, Nat.reduceDiv, Nat.reduceMod, Nat.reduceMul, at_i, swp_i, gl_i, size_swp, arr_len, Int.add_sub_cancel, Int.natCast_mul, tn1, tnA, tnB, tnC, tnD, tnE, d1391, g1, g2, g3]
theorem ima_run {a s : Nat} {d : Array Int} (ha : 1 ≤ a) (hb : a + 1 < d.size) (hs : d.size ≤ 1000000) (h12 : s ≤ 100) : runP tab 1390 [.sl 1 (ints d.toList), .int .i64 (a : Int), .ref 0 0] [.row false [.int .i64 (s : Int)]] =
    some (.int .i64 ((medianAdjacent ltI d a s).1 : Int), [.row false [.int .i64 ((medianAdjacent ltI d a s).2 : Int)]]) := by
  refine runP_fn t1390 rfl ?_
  have g := imed_run (a := a - 1) (b := a) (c := a + 1) (s := s) (d := d) (by omega) (by omega) hb hs h12
  have q1 : ((a - 1 : Nat) : Int) = (a : Int) - 1 := by omega
  have q2 : ((a + 1 : Nat) : Int) = (a : Int) + 1 := by omega
  rw [q1, q2] at g
  rw [medianAdjacent]
  simp (config := { maxSteps := 1000000 }) (disch := omega) only [go_sem, ↓reduceIte, Nat.reduceEqDiff, Nat.reduceAdd, Int.reduceToNat, reduceCtorEq, Nat.reduceLeDiff, Nat.reduceSub, Nat.reduceDiv, Nat.reduceMod, Nat.reduceMul, at_i, swp_i, gl_i, size_swp, arr_len, Int.add_sub_cancel, Int.natCast_mul, tn1, tnA, tnB, tnC, tnD, tnE, d1390, g]
theorem ima_cnt (d : Array Int) (a s : Nat) : (medianAdjacent ltI d a s).2 ≤ s + 3 := by
  have c : ∀ a b s, (order2 ltI d a b s).2.2 ≤ s + 1 := fun a b s => by unfold order2; split <;> simp
  unfold medianAdjacent median
  simp only
  have h1 := c (a - 1) a s
  generalize order2 ltI d (a - 1) a s = r1 at *
  have h2 := c r1.2.1 (a + 1) r1.2.2
  generalize order2 ltI d r1.2.1 (a + 1) r1.2.2 = r2 at *
  have h3 := c r1.1 r2.1 r2.2.2
  omega
theorem ipiv_run {a b : Nat} {d : Array Int} (hab : a < b) (hb : b ≤ d.size) (hs : d.size ≤ 1000000) : ∃ p h : Nat, a ≤ p ∧ p < b ∧ h ≤ 2 ∧ runP tab 1382 [.sl 1 (ints d.toList), .int .i64 (a : Int), .int .i64 (b : Int)] [] = some (.tup [.int .i64 (p : Int), .int .i64 (h : Int)], []) := by
  obtain ⟨n, rfl⟩ : ∃ n, b = a + n := ⟨b - a, by omega⟩
  have q1 : ((a : Int) + (n : Int)) - (a : Int) = (n : Int) := by omega
  obtain ⟨m, hm⟩ : ∃ m, m = n / 4 := ⟨_, rfl⟩
  have q2 : (n : Int).tdiv 4 = (m : Int) := by rw [hm]; rfl
  have q3 : (a : Int) + (m : Int) * 1 = ((a + m * 1 : Nat) : Int) := by omega
  have q4 : (a : Int) + (m : Int) * 2 = ((a + m * 2 : Nat) : Int) := by omega
  have q5 : (a : Int) + (m : Int) * 3 = ((a + m * 3 : Nat) : Int) := by omega
  have fin : ∀ (j s : Nat), ∃ h : Nat, h ≤ 2 ∧ (s = 0 → h = 1) ∧ (s ≠ 0 → s = 12 → h = 2) ∧ (s ≠ 0 → s ≠ 12 → h = 0) := fun j s => by
    by_cases h0 : s = 0
    · exact ⟨1, by omega, fun _ => rfl, fun h => absurd h0 h, fun h => absurd h0 h⟩
    · by_cases h1 : s = 12
      · exact ⟨2, by omega, fun h => absurd h h0, fun _ _ => rfl, fun _ h => absurd h1 h⟩
      · exact ⟨0, by omega, fun h => absurd h h0, fun _ h => absurd h h1, fun _ _ => rfl⟩
  by_cases h8 : n < 8
  · refine ⟨a + m * 2, 1, by omega, by omega, by omega, ?_⟩
    refine runP_fn t1382 rfl ?_
    simp (config := { maxSteps := 1000000 }) (disch := omega) only [go_sem, ↓reduceIte, Nat.reduceEqDiff, Nat.reduceAdd, Int.reduceToNat, reduceCtorEq, Nat.reduceLeDiff, Nat.reduceSub, Nat.reduceDiv, Nat.reduceMod, Nat.reduceMul, at_i, swp_i, gl_i, size_swp, arr_len, Int.add_sub_cancel, Int.natCast_mul, tn1, tnA, tnB, tnC, tnD, tnE, d1382, q1, q2]
  · by_cases h50 : n < 50
    · have g := imed_run (a := a + m * 1) (b := a + m * 2) (c := a + m * 3) (s := 0) (d := d) (by omega) (by omega) (by omega) hs (by omega)
      have mm := Go.Sort.median_mem ltI d (a + m * 1) (a + m * 2) (a + m * 3) 0
      generalize median ltI d (a + m * 1) (a + m * 2) (a + m * 3) 0 = r at *
      obtain ⟨p, s⟩ := r
      simp only at *
      obtain ⟨h, hh, f1, f2, f3⟩ := fin p s
      refine ⟨p, h, by omega, by omega, hh, ?_⟩
      refine runP_fn t1382 rfl ?_
      rw [Int.cast_ofNat_Int] at g
      by_cases s0 : s = 0
      · subst s0; rw [f1 rfl]
        generalize a + m * 1 = u1 at *
        generalize a + m * 2 = u2 at *
        generalize a + m * 3 = u3 at *
        simp (config := { maxSteps := 1000000 }) (disch := omega) only [go_sem, ↓reduceIte, Nat.reduceEqDiff, Nat.reduceAdd, Int.reduceToNat, reduceCtorEq, Nat.reduceLeDiff, Nat.reduceSub, Nat.reduceDiv, Nat.reduceMod, Nat.reduceMul, at_i, swp_i, gl_i, size_swp, arr_len, Int.add_sub_cancel, Int.natCast_mul, tn1, tnA, tnB, tnC, tnD, tnE, d1382, q1, q2, q3, q4, q5, g]
      · by_cases s12 : s = 12
        · rw [f2 s0 s12]; subst s12
          generalize a + m * 1 = u1 at *
          generalize a + m * 2 = u2 at *
          generalize a + m * 3 = u3 at *
          simp (config := { maxSteps := 1000000 }) (disch := omega) only [go_sem, ↓reduceIte, Nat.reduceEqDiff, Nat.reduceAdd, Int.reduceToNat, reduceCtorEq, Nat.reduceLeDiff, Nat.reduceSub, Nat.reduceDiv, Nat.reduceMod, Nat.reduceMul, at_i, swp_i, gl_i, size_swp, arr_len, Int.add_sub_cancel, Int.natCast_mul, tn1, tnA, tnB, tnC, tnD, tnE, d1382, q1, q2, q3, q4, q5, g]
        · rw [f3 s0 s12]
          generalize a + m * 1 = u1 at *
          generalize a + m * 2 = u2 at *
          generalize a + m * 3 = u3 at *
          simp (config := { maxSteps := 1000000 }) (disch := omega) only [go_sem, ↓reduceIte, Nat.reduceEqDiff, Nat.reduceAdd, Int.reduceToNat, reduceCtorEq, Nat.reduceLeDiff, Nat.reduceSub, Nat.reduceDiv, Nat.reduceMod, Nat.reduceMul, at_i, swp_i, gl_i, size_swp, arr_len, Int.add_sub_cancel, Int.natCast_mul, tn1, tnA, tnB, tnC, tnD, tnE, d1382, q1, q2, q3, q4, q5, g]
    · have g1 := ima_run (a := a + m * 1) (s := 0) (d := d) (by omega) (by omega) hs (by omega)
      have m1 := Go.Sort.medianAdjacent_mem ltI d (a + m * 1) 0
      have c1 := ima_cnt d (a + m * 1) 0
      generalize medianAdjacent ltI d (a + m * 1) 0 = r1 at *
      obtain ⟨i1, s1⟩ := r1
      simp only at *
      have g2 := ima_run (a := a + m * 2) (s := s1) (d := d) (by omega) (by omega) hs (by omega)
      have m2 := Go.Sort.medianAdjacent_mem ltI d (a + m * 2) s1
      have c2 := ima_cnt d (a + m * 2) s1
      generalize medianAdjacent ltI d (a + m * 2) s1 = r2 at *
      obtain ⟨i2, s2⟩ := r2
      simp only at *
      have g3 := ima_run (a := a + m * 3) (s := s2) (d := d) (by omega) (by omega) hs (by omega)
      have m3 := Go.Sort.medianAdjacent_mem ltI d (a + m * 3) s2
      have c3 := ima_cnt d (a + m * 3) s2
      generalize medianAdjacent ltI d (a + m * 3) s2 = r3 at *
      obtain ⟨i3, s3⟩ := r3
      simp only at *
      have g := imed_run (a := i1) (b := i2) (c := i3) (s := s3) (d := d) (by omega) (by omega) (by omega) hs (by omega)
      have mm := Go.Sort.median_mem ltI d i1 i2 i3 s3
      generalize median ltI d i1 i2 i3 s3 = r at *
      obtain ⟨p, s⟩ := r
      simp only at *
      obtain ⟨h, hh, f1, f2, f3⟩ := fin p s
      refine ⟨p, h, by omega, by omega, hh, ?_⟩
      refine runP_fn t1382 rfl ?_
      rw [Int.cast_ofNat_Int] at g1
      have w1 : a ≤ i1 ∧ i1 < a + n ∧ a ≤ i2 ∧ i2 < a + n ∧ a ≤ i3 ∧ i3 < a + n := by omega
      have w2 : a + m * 1 < a + n ∧ a + m * 2 < a + n ∧ a + m * 3 < a + n := by omega
      clear m1 m2 m3 mm
      generalize a + m * 1 = u1 at *
      generalize a + m * 2 = u2 at *
      generalize a + m * 3 = u3 at *
      by_cases s0 : s = 0
      · subst s0; rw [f1 rfl]
        simp (config := { maxSteps := 1000000 }) (disch := omega) only [go_sem, ↓reduceIte, Nat.reduceEqDiff, Nat.reduceAdd, Int.reduceToNat, reduceCtorEq, Nat.reduceLeDiff, Nat.reduceSub, Nat.reduceDiv, Nat.reduceMod, Nat.reduceMul, at_i, swp_i, gl_i, size_swp, arr_len, Int.add_sub_cancel, Int.natCast_mul, tn1, tnA, tnB, tnC, tnD, tnE, d1382, q1, q2, q3, q4, q5, g1, g2, g3, g]
      · by_cases s12 : s = 12
        · rw [f2 s0 s12]; subst s12
          simp (config := { maxSteps := 1000000 }) (disch := omega) only [go_sem, ↓reduceIte, Nat.reduceEqDiff, Nat.reduceAdd, Int.reduceToNat, reduceCtorEq, Nat.reduceLeDiff, Nat.reduceSub, Nat.reduceDiv, Nat.reduceMod, Nat.reduceMul, at_i, swp_i, gl_i, size_swp, arr_len, Int.add_sub_cancel, Int.natCast_mul, tn1, tnA, tnB, tnC, tnD, tnE, d1382, q1, q2, q3, q4, q5, g1, g2, g3, g]
        · rw [f3 s0 s12]
          simp (config := { maxSteps := 1000000 }) (disch := omega) only [go_sem, ↓reduceIte, Nat.reduceEqDiff, Nat.reduceAdd, Int.reduceToNat, reduceCtorEq, Nat.reduceLeDiff, Nat.reduceSub, Nat.reduceDiv, Nat.reduceMod, Nat.reduceMul, at_i, swp_i, gl_i, size_swp, arr_len, Int.add_sub_cancel, Int.natCast_mul, tn1, tnA, tnB, tnC, tnD, tnE, d1382, q1, q2, q3, q4, q5, g1, g2, g3, g]
end Go.Proofs.Ytgjahkebhlphgaa
