/- The library's sort of keys: what is in order but for a few; pivots. -/
import Derived.Test.YthpgaecloecflaaSt2
namespace Go.Proofs.Ythpgaecloecflaa
set_option linter.unusedSimpArgs false
set_option linter.unusedVariables false
set_option maxHeartbeats 4000000
set_option maxRecDepth 100000
open Go.Sort (scanSorted shiftDown shiftUp partialIns partialInsertionSort order2 median medianAdjacent size_swp)
def tpaS (M : List Mark) (a b i s : Nat) (d : Array Ky) : St := ⟨[(0, .own 3 0), (1, .int .i64 (a : Int)), (2, .int .i64 (b : Int)), (3, .clo 1053 [] []), (9, .int .i64 (i : Int)), (10, .int .i64 (s : Int))], [.row false (kys d.toList)], 1, M⟩
def tpdS (M : List Mark) (a b i s j : Nat) (d : Array Ky) : St := ⟨[(0, .own 3 0), (1, .int .i64 (a : Int)), (2, .int .i64 (b : Int)), (3, .clo 1053 [] []), (9, .int .i64 (i : Int)), (10, .int .i64 (s : Int)), (11, .int .i64 (j : Int))], [.row false (kys d.toList)], 1, M⟩
def tpuS (M : List Mark) (a b i s j : Nat) (d : Array Ky) : St := ⟨[(0, .own 3 0), (1, .int .i64 (a : Int)), (2, .int .i64 (b : Int)), (3, .clo 1053 [] []), (9, .int .i64 (i : Int)), (10, .int .i64 (s : Int)), (12, .int .i64 (j : Int))], [.row false (kys d.toList)], 1, M⟩
theorem tss {a b s : Nat} {d : Array Ky} {M : List Mark} {Q : AX → St → Prop} : ∀ (n k : Nat), b - (k + 1) = n → b ≤ d.size → k + 1 ≤ d.size → d.size ≤ 1000000 → s ≤ 5 →
    (∀ env, lk env 0 = .own 3 0 → lk env 1 = .int .i64 (a : Int) → lk env 2 = .int .i64 (b : Int) → lk env 3 = .clo 1053 [] [] → lk env 9 = .int .i64 ((scanSorted ltT d b (k + 1) : Nat) : Int) → lk env 10 = .int .i64 (s : Int) → Q (.exit 2) ⟨env, [.row false (kys d.toList)], 1, (1, 1, [0, 1, 2, 3, 9, 10], [(0, 0)]) :: M⟩) → Ev tab (.loop d1067_b1) (tpaS ((1, 1, [0, 1, 2, 3, 9, 10], [(0, 0)]) :: M) a b (k + 1) s d) Q
  | 0, k, hn, hb, hk, hs, h5, hq => by
    rw [scanSorted, if_neg (by simp; omega)] at hq
    refine Ev_stop ?_
    simp (config := { maxSteps := 1000000 }) (disch := omega) only [go_sem, ↓reduceIte, Nat.reduceEqDiff, Nat.reduceAdd, Int.reduceToNat, reduceCtorEq, Nat.reduceLeDiff, Nat.reduceSub, Nat.reduceDiv, Nat.reduceMod, Nat.reduceMul, at_t, swp_t, ordt_lt, gc_t, size_swp, arr_len, Int.add_sub_cancel, Int.natCast_mul, tn1, tnA, tnB, tnC, tnD, tnE, d1067_b1, tpaS]
    exact hq _ rfl rfl rfl rfl rfl rfl
  | n + 1, k, hn, hb, hk, hs, h5, hq => by
    cases h : ltT d[k + 1]! d[k]! with
    | false =>
      rw [scanSorted, if_pos (by rw [Nat.add_sub_cancel, h]; simp; omega)] at hq
      refine Ev_step (st' := tpaS ((1, 1, [0, 1, 2, 3, 9, 10], [(0, 0)]) :: M) a b (k + 1 + 1) s d) ?_ (tss n (k + 1) (by omega) hb (by omega) hs h5 hq)
      simp (config := { maxSteps := 1000000 }) (disch := omega) only [go_sem, ↓reduceIte, Nat.reduceEqDiff, Nat.reduceAdd, Int.reduceToNat, reduceCtorEq, Nat.reduceLeDiff, Nat.reduceSub, Nat.reduceDiv, Nat.reduceMod, Nat.reduceMul, at_t, swp_t, ordt_lt, gc_t, size_swp, arr_len, Int.add_sub_cancel, Int.natCast_mul, tn1, tnA, tnB, tnC, tnD, tnE, d1067_b1, tpaS, h]
    | true =>
      rw [scanSorted, if_neg (by rw [Nat.add_sub_cancel, h]; simp)] at hq
      refine Ev_stop ?_
      simp (config := { maxSteps := 1000000 }) (disch := omega) only [go_sem, ↓reduceIte, Nat.reduceEqDiff, Nat.reduceAdd, Int.reduceToNat, reduceCtorEq, Nat.reduceLeDiff, Nat.reduceSub, Nat.reduceDiv, Nat.reduceMod, Nat.reduceMul, at_t, swp_t, ordt_lt, gc_t, size_swp, arr_len, Int.add_sub_cancel, Int.natCast_mul, tn1, tnA, tnB, tnC, tnD, tnE, d1067_b1, tpaS, h]
      exact hq _ rfl rfl rfl rfl rfl rfl
theorem tsd_sz : ∀ (j : Nat) (d : Array Ky), (shiftDown ltT j d).size = d.size
  | 0, d => rfl
  | j + 1, d => by
    rw [shiftDown]; split
    · rfl
    · rw [tsd_sz j, size_swp]
theorem tsd {a b i s : Nat} {M : List Mark} {Q : AX → St → Prop} : ∀ (j : Nat) (d : Array Ky), j < d.size → d.size ≤ 1000000 →
    (∀ env, lk env 0 = .own 3 0 → lk env 1 = .int .i64 (a : Int) → lk env 2 = .int .i64 (b : Int) → lk env 3 = .clo 1053 [] [] → lk env 9 = .int .i64 (i : Int) → lk env 10 = .int .i64 (s : Int) → Q (.exit 4) ⟨env, [.row false (kys (shiftDown ltT j d).toList)], 1, (2, 1, [0, 1, 2, 3, 9, 10, 11], [(0, 0)]) :: M⟩) → Ev tab (.loop d1067_b2) (tpdS ((2, 1, [0, 1, 2, 3, 9, 10, 11], [(0, 0)]) :: M) a b i s j d) Q
  | 0, d, hj, hs, hq => by
    rw [shiftDown] at hq
    refine Ev_stop ?_
    simp (config := { maxSteps := 1000000 }) (disch := omega) only [go_sem, ↓reduceIte, Nat.reduceEqDiff, Nat.reduceAdd, Int.reduceToNat, reduceCtorEq, Nat.reduceLeDiff, Nat.reduceSub, Nat.reduceDiv, Nat.reduceMod, Nat.reduceMul, at_t, swp_t, ordt_lt, gc_t, size_swp, arr_len, Int.add_sub_cancel, Int.natCast_mul, tn1, tnA, tnB, tnC, tnD, tnE, d1067_b2, tpdS]
    exact hq _ rfl rfl rfl rfl rfl rfl
  | j + 1, d, hj, hs, hq => by
    cases h : ltT d[j + 1]! d[j]! with
    | true =>
      rw [shiftDown, h, if_neg (by simp)] at hq
      refine Ev_step (st' := tpdS ((2, 1, [0, 1, 2, 3, 9, 10, 11], [(0, 0)]) :: M) a b i s j (Go.Sort.swp d (j + 1) j)) ?_ (tsd j _ (by rw [size_swp]; omega) (by rw [size_swp]; exact hs) hq)
      simp (config := { maxSteps := 1000000 }) (disch := omega) only [go_sem, ↓reduceIte, Nat.reduceEqDiff, Nat.reduceAdd, Int.reduceToNat, reduceCtorEq, Nat.reduceLeDiff, Nat.reduceSub, Nat.reduceDiv, Nat.reduceMod, Nat.reduceMul, at_t, swp_t, ordt_lt, gc_t, size_swp, arr_len, Int.add_sub_cancel, Int.natCast_mul, tn1, tnA, tnB, tnC, tnD, tnE, d1067_b2, tpdS, h]
    | false =>
      rw [shiftDown, h, if_pos (by simp)] at hq
      refine Ev_stop ?_
      simp (config := { maxSteps := 1000000 }) (disch := omega) only [go_sem, ↓reduceIte, Nat.reduceEqDiff, Nat.reduceAdd, Int.reduceToNat, reduceCtorEq, Nat.reduceLeDiff, Nat.reduceSub, Nat.reduceDiv, Nat.reduceMod, Nat.reduceMul, at_t, swp_t, ordt_lt, gc_t, size_swp, arr_len, Int.add_sub_cancel, Int.natCast_mul, tn1, tnA, tnB, tnC, tnD, tnE, d1067_b2, tpdS, h]
      exact hq _ rfl rfl rfl rfl rfl rfl
theorem tsu_sz {b : Nat} : ∀ (n j : Nat) (d : Array Ky), b - j = n → (shiftUp ltT b j d).size = d.size
  | 0, j, d, hn => by rw [shiftUp, if_neg (by omega)]
  | n + 1, j, d, hn => by
    rw [shiftUp, if_pos (by omega)]; split
    · rfl
    · rw [tsu_sz n (j + 1) _ (by omega), size_swp]
theorem tsu {a b i s : Nat} {M : List Mark} {Q : AX → St → Prop} : ∀ (n k : Nat) (d : Array Ky), b - (k + 1) = n → b ≤ d.size → k < d.size → d.size ≤ 1000000 →
    (∀ env, lk env 0 = .own 3 0 → lk env 1 = .int .i64 (a : Int) → lk env 2 = .int .i64 (b : Int) → lk env 3 = .clo 1053 [] [] → lk env 9 = .int .i64 (i : Int) → lk env 10 = .int .i64 (s : Int) → Q (.exit 6) ⟨env, [.row false (kys (shiftUp ltT b (k + 1) d).toList)], 1, (3, 1, [0, 1, 2, 3, 9, 10, 12], [(0, 0)]) :: M⟩) → Ev tab (.loop d1067_b3) (tpuS ((3, 1, [0, 1, 2, 3, 9, 10, 12], [(0, 0)]) :: M) a b i s (k + 1) d) Q
  | 0, k, d, hn, hb, hk, hs, hq => by
    rw [shiftUp, if_neg (by omega)] at hq
    refine Ev_stop ?_
    simp (config := { maxSteps := 1000000 }) (disch := omega) only [go_sem, ↓reduceIte, Nat.reduceEqDiff, Nat.reduceAdd, Int.reduceToNat, reduceCtorEq, Nat.reduceLeDiff, Nat.reduceSub, Nat.reduceDiv, Nat.reduceMod, Nat.reduceMul, at_t, swp_t, ordt_lt, gc_t, size_swp, arr_len, Int.add_sub_cancel, Int.natCast_mul, tn1, tnA, tnB, tnC, tnD, tnE, d1067_b3, tpuS]
    exact hq _ rfl rfl rfl rfl rfl rfl
  | n + 1, k, d, hn, hb, hk, hs, hq => by
    rw [shiftUp, if_pos (by omega), Nat.add_sub_cancel] at hq
    cases h : ltT d[k + 1]! d[k]! with
    | true =>
      rw [h, if_neg (by simp)] at hq
      refine Ev_step (st' := tpuS ((3, 1, [0, 1, 2, 3, 9, 10, 12], [(0, 0)]) :: M) a b i s (k + 1 + 1) (Go.Sort.swp d (k + 1) k)) ?_ (tsu n (k + 1) _ (by omega) (by rw [size_swp]; omega) (by rw [size_swp]; omega) (by rw [size_swp]; exact hs) hq)
      simp (config := { maxSteps := 1000000 }) (disch := omega) only [go_sem, ↓reduceIte, Nat.reduceEqDiff, Nat.reduceAdd, Int.reduceToNat, reduceCtorEq, Nat.reduceLeDiff, Nat.reduceSub, Nat.reduceDiv, Nat.reduceMod, Nat.reduceMul, at_t, swp_t, ordt_lt, gc_t, size_swp, arr_len, Int.add_sub_cancel, Int.natCast_mul, tn1, tnA, tnB, tnC, tnD, tnE, d1067_b3, tpuS, h]
    | false =>
      rw [h, if_pos (by simp)] at hq
      refine Ev_stop ?_
      simp (config := { maxSteps := 1000000 }) (disch := omega) only [go_sem, ↓reduceIte, Nat.reduceEqDiff, Nat.reduceAdd, Int.reduceToNat, reduceCtorEq, Nat.reduceLeDiff, Nat.reduceSub, Nat.reduceDiv, Nat.reduceMod, Nat.reduceMul, at_t, swp_t, ordt_lt, gc_t, size_swp, arr_len, Int.add_sub_cancel, Int.natCast_mul, tn1, tnA, tnB, tnC, tnD, tnE, d1067_b3, tpuS, h]
      exact hq _ rfl rfl rfl rfl rfl rfl
theorem tfd_sz (a i : Nat) (d : Array Ky) : (Go.Sort.fixDown ltT a i d).size = d.size := by
  unfold Go.Sort.fixDown; split
  · exact tsd_sz _ _
  · rfl
theorem tfu_sz (b i : Nat) (d : Array Ky) : (Go.Sort.fixUp ltT b i d).size = d.size := by
  unfold Go.Sort.fixUp; split
  · exact tsu_sz _ _ _ rfl
  · rfl
theorem tpa_loop {a b : Nat} {M : List Mark} {Q : AX → St → Prop} : ∀ (s i t : Nat) (d : Array Ky), s + t = 5 → a < i → i ≤ b → b ≤ d.size → d.size ≤ 1000000 →
    ((partialIns ltT a b s i d).2 = true → ∀ env M', lk env 8 = .bool true → Q .ret ⟨env, [.row false (kys ((partialIns ltT a b s i d).1).toList)], 1, M'⟩) →
    ((partialIns ltT a b s i d).2 = false → ∀ env M', lk env 8 = .bool false → Q .ret ⟨env, [.row false (kys ((partialIns ltT a b s i d).1).toList)], 1, M'⟩) →
    ((partialIns ltT a b s i d).2 = false → ∀ env M', Q (.exit 0) ⟨env, [.row false (kys ((partialIns ltT a b s i d).1).toList)], 1, M'⟩) →
    Ev tab (.loop d1067_b0) (tpaS ((0, 1, [0, 1, 2, 3, 9, 10], [(0, 0)]) :: M) a b i t d) Q
  | 0, i, t, d, ht, ha, hi, hb, hs, q1, q2, q3 => by
    refine Ev_stop ?_
    simp (config := { maxSteps := 1000000 }) (disch := omega) only [go_sem, ↓reduceIte, Nat.reduceEqDiff, Nat.reduceAdd, Int.reduceToNat, reduceCtorEq, Nat.reduceLeDiff, Nat.reduceSub, Nat.reduceDiv, Nat.reduceMod, Nat.reduceMul, at_t, swp_t, ordt_lt, gc_t, size_swp, arr_len, Int.add_sub_cancel, Int.natCast_mul, tn1, tnA, tnB, tnC, tnD, tnE, d1067_b0, tpaS]
    exact q3 rfl _ _
  | s + 1, i, t, d, ht, ha, hi, hb, hs, q1, q2, q3 => by
    obtain ⟨k, rfl⟩ : ∃ k, i = k + 1 := ⟨i - 1, by omega⟩
    rw [Go.Sort.partialIns_succ] at q1 q2 q3
    have hge : k + 1 ≤ scanSorted ltT d b (k + 1) ∧ scanSorted ltT d b (k + 1) ≤ b := by
      have : ∀ n i, b - i = n → i ≤ b → i ≤ scanSorted ltT d b i ∧ scanSorted ltT d b i ≤ b := by
        intro n
        induction n with
        | zero => intro i h1 h2; rw [scanSorted, if_neg (by simp; omega)]; omega
        | succ n ih =>
          intro i h1 h2
          rw [scanSorted]; split
          · have := ih (i + 1) (by omega) (by omega); omega
          · omega
      exact this _ _ rfl hi
    by_cases c1 : scanSorted ltT d b (k + 1) = b
    · rw [if_pos c1] at q1 q2 q3
      refine Ev_stop ?_
      simp (config := { maxSteps := 1000000 }) (disch := omega) only [go_sem, ↓reduceIte, Nat.reduceEqDiff, Nat.reduceAdd, Int.reduceToNat, reduceCtorEq, Nat.reduceLeDiff, Nat.reduceSub, Nat.reduceDiv, Nat.reduceMod, Nat.reduceMul, at_t, swp_t, ordt_lt, gc_t, size_swp, arr_len, Int.add_sub_cancel, Int.natCast_mul, tn1, tnA, tnB, tnC, tnD, tnE, d1067_b0, tpaS]
      refine tss _ k rfl hb (by omega) hs (by omega) (fun env e0 e1 e2 e3 e9 e10 => ?_)
      rw [c1] at e9
      simp (config := { maxSteps := 1000000 }) (disch := omega) only [go_sem, ↓reduceIte, Nat.reduceEqDiff, Nat.reduceAdd, Int.reduceToNat, reduceCtorEq, Nat.reduceLeDiff, Nat.reduceSub, Nat.reduceDiv, Nat.reduceMod, Nat.reduceMul, at_t, swp_t, ordt_lt, gc_t, size_swp, arr_len, Int.add_sub_cancel, Int.natCast_mul, tn1, tnA, tnB, tnC, tnD, tnE, e0, e1, e2, e3, e9, e10]
      exact q1 rfl _ _ rfl
    · rw [if_neg c1] at q1 q2 q3
      by_cases c2 : b - a < 50
      · rw [if_pos c2] at q1 q2 q3
        refine Ev_stop ?_
        simp (config := { maxSteps := 1000000 }) (disch := omega) only [go_sem, ↓reduceIte, Nat.reduceEqDiff, Nat.reduceAdd, Int.reduceToNat, reduceCtorEq, Nat.reduceLeDiff, Nat.reduceSub, Nat.reduceDiv, Nat.reduceMod, Nat.reduceMul, at_t, swp_t, ordt_lt, gc_t, size_swp, arr_len, Int.add_sub_cancel, Int.natCast_mul, tn1, tnA, tnB, tnC, tnD, tnE, d1067_b0, tpaS]
        refine tss _ k rfl hb (by omega) hs (by omega) (fun env e0 e1 e2 e3 e9 e10 => ?_)
        generalize scanSorted ltT d b (k + 1) = m at *
        simp (config := { maxSteps := 1000000 }) (disch := omega) only [go_sem, ↓reduceIte, Nat.reduceEqDiff, Nat.reduceAdd, Int.reduceToNat, reduceCtorEq, Nat.reduceLeDiff, Nat.reduceSub, Nat.reduceDiv, Nat.reduceMod, Nat.reduceMul, at_t, swp_t, ordt_lt, gc_t, size_swp, arr_len, Int.add_sub_cancel, Int.natCast_mul, tn1, tnA, tnB, tnC, tnD, tnE, e0, e1, e2, e3, e9, e10]
        exact q2 rfl _ _ rfl
      · rw [if_neg c2] at q1 q2 q3
        refine Ev_step (st' := tpaS ((0, 1, [0, 1, 2, 3, 9, 10], [(0, 0)]) :: M) a b (scanSorted ltT d b (k + 1)) (t + 1) (Go.Sort.fixUp ltT b (scanSorted ltT d b (k + 1)) (Go.Sort.fixDown ltT a (scanSorted ltT d b (k + 1)) (Go.Sort.swp d (scanSorted ltT d b (k + 1)) (scanSorted ltT d b (k + 1) - 1))))) ?_ (tpa_loop s _ (t + 1) _ (by omega) (by omega) (by omega) (by rw [tfu_sz, tfd_sz, size_swp]; exact hb) (by rw [tfu_sz, tfd_sz, size_swp]; exact hs) q1 q2 q3)
        clear q1 q2 q3
        simp (config := { maxSteps := 1000000 }) (disch := omega) only [go_sem, ↓reduceIte, Nat.reduceEqDiff, Nat.reduceAdd, Int.reduceToNat, reduceCtorEq, Nat.reduceLeDiff, Nat.reduceSub, Nat.reduceDiv, Nat.reduceMod, Nat.reduceMul, at_t, swp_t, ordt_lt, gc_t, size_swp, arr_len, Int.add_sub_cancel, Int.natCast_mul, tn1, tnA, tnB, tnC, tnD, tnE, d1067_b0, tpaS]
        refine tss _ k rfl hb (by omega) hs (by omega) (fun env e0 e1 e2 e3 e9 e10 => ?_)
        generalize scanSorted ltT d b (k + 1) = m at *
        obtain ⟨l, rfl⟩ : ∃ l, m = l + 1 := ⟨m - 1, by omega⟩
        rw [Nat.add_sub_cancel]
        have sz := size_swp d (l + 1) l
        unfold Go.Sort.fixDown
        by_cases c3 : l + 1 - a ≥ 2
        · rw [if_pos c3, Nat.add_sub_cancel]
          simp (config := { maxSteps := 1000000 }) (disch := omega) only [go_sem, ↓reduceIte, Nat.reduceEqDiff, Nat.reduceAdd, Int.reduceToNat, reduceCtorEq, Nat.reduceLeDiff, Nat.reduceSub, Nat.reduceDiv, Nat.reduceMod, Nat.reduceMul, at_t, swp_t, ordt_lt, gc_t, size_swp, arr_len, Int.add_sub_cancel, Int.natCast_mul, tn1, tnA, tnB, tnC, tnD, tnE, e0, e1, e2, e3, e9, e10]
          refine tsd l _ (by omega) (by omega) (fun env e0 e1 e2 e3 e9 e10 => ?_)
          have sz2 := tsd_sz l (Go.Sort.swp d (l + 1) l)
          generalize shiftDown ltT l (Go.Sort.swp d (l + 1) l) = d2 at *
          unfold Go.Sort.fixUp
          by_cases c4 : b - (l + 1) ≥ 2
          · rw [if_pos c4]
            simp (config := { maxSteps := 1000000 }) (disch := omega) only [go_sem, ↓reduceIte, Nat.reduceEqDiff, Nat.reduceAdd, Int.reduceToNat, reduceCtorEq, Nat.reduceLeDiff, Nat.reduceSub, Nat.reduceDiv, Nat.reduceMod, Nat.reduceMul, at_t, swp_t, ordt_lt, gc_t, size_swp, arr_len, Int.add_sub_cancel, Int.natCast_mul, tn1, tnA, tnB, tnC, tnD, tnE, e0, e1, e2, e3, e9, e10]
            refine tsu _ (l + 1) d2 rfl (by omega) (by omega) (by omega) (fun env e0 e1 e2 e3 e9 e10 => ?_)
            generalize shiftUp ltT b (l + 1 + 1) d2 = d3 at *
            simp (config := { maxSteps := 1000000 }) (disch := omega) only [go_sem, ↓reduceIte, Nat.reduceEqDiff, Nat.reduceAdd, Int.reduceToNat, reduceCtorEq, Nat.reduceLeDiff, Nat.reduceSub, Nat.reduceDiv, Nat.reduceMod, Nat.reduceMul, at_t, swp_t, ordt_lt, gc_t, size_swp, arr_len, Int.add_sub_cancel, Int.natCast_mul, tn1, tnA, tnB, tnC, tnD, tnE, e0, e1, e2, e3, e9, e10]
          · rw [if_neg c4]
            simp (config := { maxSteps := 1000000 }) (disch := omega) only [go_sem, ↓reduceIte, Nat.reduceEqDiff, Nat.reduceAdd, Int.reduceToNat, reduceCtorEq, Nat.reduceLeDiff, Nat.reduceSub, Nat.reduceDiv, Nat.reduceMod, Nat.reduceMul, at_t, swp_t, ordt_lt, gc_t, size_swp, arr_len, Int.add_sub_cancel, Int.natCast_mul, tn1, tnA, tnB, tnC, tnD, tnE, e0, e1, e2, e3, e9, e10]
        · rw [if_neg c3]
          unfold Go.Sort.fixUp
          by_cases c4 : b - (l + 1) ≥ 2
          · rw [if_pos c4]
            simp (config := { maxSteps := 1000000 }) (disch := omega) only [go_sem, ↓reduceIte, Nat.reduceEqDiff, Nat.reduceAdd, Int.reduceToNat, reduceCtorEq, Nat.reduceLeDiff, Nat.reduceSub, Nat.reduceDiv, Nat.reduceMod, Nat.reduceMul, at_t, swp_t, ordt_lt, gc_t, size_swp, arr_len, Int.add_sub_cancel, Int.natCast_mul, tn1, tnA, tnB, tnC, tnD, tnE, e0, e1, e2, e3, e9, e10]
            refine tsu _ (l + 1) (Go.Sort.swp d (l + 1) l) rfl (by omega) (by omega) (by omega) (fun env e0 e1 e2 e3 e9 e10 => ?_)
            generalize shiftUp ltT b (l + 1 + 1) (Go.Sort.swp d (l + 1) l) = d3 at *
            simp (config := { maxSteps := 1000000 }) (disch := omega) only [go_sem, ↓reduceIte, Nat.reduceEqDiff, Nat.reduceAdd, Int.reduceToNat, reduceCtorEq, Nat.reduceLeDiff, Nat.reduceSub, Nat.reduceDiv, Nat.reduceMod, Nat.reduceMul, at_t, swp_t, ordt_lt, gc_t, size_swp, arr_len, Int.add_sub_cancel, Int.natCast_mul, tn1, tnA, tnB, tnC, tnD, tnE, e0, e1, e2, e3, e9, e10]
          · exfalso; omega
theorem tpar_run {a b : Nat} {d : Array Ky} (hab : a < b) (hb : b ≤ d.size) (hs : d.size ≤ 1000000) : runP tab 1067 [.own 3 0, .int .i64 (a : Int), .int .i64 (b : Int), .clo 1053 [] []] [.row false (kys d.toList)] = some (.bool (partialInsertionSort ltT d a b).2, [.row false (kys ((partialInsertionSort ltT d a b).1).toList)]) := by
  refine runP_fn t1067 rfl ?_
  simp (config := { maxSteps := 1000000 }) (disch := omega) only [go_sem, ↓reduceIte, Nat.reduceEqDiff, Nat.reduceAdd, Int.reduceToNat, reduceCtorEq, Nat.reduceLeDiff, Nat.reduceSub, Nat.reduceDiv, Nat.reduceMod, Nat.reduceMul, at_t, swp_t, ordt_lt, gc_t, size_swp, arr_len, Int.add_sub_cancel, Int.natCast_mul, tn1, tnA, tnB, tnC, tnD, tnE, d1067]
  rw [partialInsertionSort]
  refine tpa_loop 5 (a + 1) 0 d rfl (by omega) (by omega) hb hs (fun h env M' e8 => ?_) (fun h env M' e8 => ?_) (fun h env M' => ?_)
  · rw [h]
    generalize (partialIns ltT a b 5 (a + 1) d).1 = d' at *
    simp (config := { maxSteps := 1000000 }) (disch := omega) only [go_sem, ↓reduceIte, Nat.reduceEqDiff, Nat.reduceAdd, Int.reduceToNat, reduceCtorEq, Nat.reduceLeDiff, Nat.reduceSub, Nat.reduceDiv, Nat.reduceMod, Nat.reduceMul, at_t, swp_t, ordt_lt, gc_t, size_swp, arr_len, Int.add_sub_cancel, Int.natCast_mul, tn1, tnA, tnB, tnC, tnD, tnE, e8]
  · rw [h]
    generalize (partialIns ltT a b 5 (a + 1) d).1 = d' at *
    simp (config := { maxSteps := 1000000 }) (disch := omega) only [go_sem, ↓reduceIte, Nat.reduceEqDiff, Nat.reduceAdd, Int.reduceToNat, reduceCtorEq, Nat.reduceLeDiff, Nat.reduceSub, Nat.reduceDiv, Nat.reduceMod, Nat.reduceMul, at_t, swp_t, ordt_lt, gc_t, size_swp, arr_len, Int.add_sub_cancel, Int.natCast_mul, tn1, tnA, tnB, tnC, tnD, tnE, e8]
  · rw [h]
    generalize (partialIns ltT a b 5 (a + 1) d).1 = d' at *
    simp (config := { maxSteps := 1000000 }) (disch := omega) only [go_sem, ↓reduceIte, Nat.reduceEqDiff, Nat.reduceAdd, Int.reduceToNat, reduceCtorEq, Nat.reduceLeDiff, Nat.reduceSub, Nat.reduceDiv, Nat.reduceMod, Nat.reduceMul, at_t, swp_t, ordt_lt, gc_t, size_swp, arr_len, Int.add_sub_cancel, Int.natCast_mul, tn1, tnA, tnB, tnC, tnD, tnE]
theorem tord_run {a b s : Nat} {d : Array Ky} (ha : a < d.size) (hb : b < d.size) (hs : d.size ≤ 1000000) (h12 : s ≤ 1000) : runP tab 1078 [.sl 3 (kys d.toList), .int .i64 (a : Int), .int .i64 (b : Int), .ref 0 0, .clo 1053 [] []] [.row false [.int .i64 (s : Int)]] =
    some (.tup [.int .i64 ((order2 ltT d a b s).1 : Int), .int .i64 ((order2 ltT d a b s).2.1 : Int)], [.row false [.int .i64 ((order2 ltT d a b s).2.2 : Int)]]) := by
  refine runP_fn t1078 rfl ?_
  unfold order2
  cases h : ltT d[b]! d[a]! with
  | true =>
    rw [if_pos rfl]
    simp (config := { maxSteps := 1000000 }) (disch := omega) only [go_sem, ↓reduceIte, Nat.reduceEqDiff, Nat.reduceAdd, Int.reduceToNat, reduceCtorEq, Nat.reduceLeDiff, Nat.reduceSub, Nat.reduceDiv, Nat.reduceMod, Nat.reduceMul, at_t, swp_t, ordt_lt, gc_t, size_swp, arr_len, Int.add_sub_cancel, Int.natCast_mul, tn1, tnA, tnB, tnC, tnD, tnE, d1078, h]
  | false =>
    rw [if_neg (by simp)]
    simp (config := { maxSteps := 1000000 }) (disch := omega) only [go_sem, ↓reduceIte, Nat.reduceEqDiff, Nat.reduceAdd, Int.reduceToNat, reduceCtorEq, Nat.reduceLeDiff, Nat.reduceSub, Nat.reduceDiv, Nat.reduceMod, Nat.reduceMul, at_t, swp_t, ordt_lt, gc_t, size_swp, arr_len, Int.add_sub_cancel, Int.natCast_mul, tn1, tnA, tnB, tnC, tnD, tnE, d1078, h]
theorem tmed_run {a b c s : Nat} {d : Array Ky} (ha : a < d.size) (hb : b < d.size) (hc : c < d.size) (hs : d.size ≤ 1000000) (h12 : s ≤ 100) : runP tab 1077 [.sl 3 (kys d.toList), .int .i64 (a : Int), .int .i64 (b : Int), .int .i64 (c : Int), .ref 0 0, .clo 1053 [] []] [.row false [.int .i64 (s : Int)]] =
    some (.int .i64 ((median ltT d a b c s).1 : Int), [.row false [.int .i64 ((median ltT d a b c s).2 : Int)]]) := by
  refine runP_fn t1077 rfl ?_
  have g1 := tord_run ha hb hs (s := s) (by omega)
  have m1 := Go.Sort.order2_mem ltT d a b s
  have c1 : (order2 ltT d a b s).2.2 ≤ s + 1 := by unfold order2; split <;> simp
  rw [median]
  simp only
  generalize order2 ltT d a b s = r1 at *
  obtain ⟨x1, y1, s1⟩ := r1
  simp only at *
  have g2 := tord_run (a := y1) (b := c) (s := s1) (d := d) (by omega) hc hs (by omega)
  have m2 := Go.Sort.order2_mem ltT d y1 c s1
  have c2 : (order2 ltT d y1 c s1).2.2 ≤ s1 + 1 := by unfold order2; split <;> simp
  generalize order2 ltT d y1 c s1 = r2 at *
  obtain ⟨x2, y2, s2⟩ := r2
  simp only at *
  have g3 := tord_run (a := x1) (b := x2) (s := s2) (d := d) (by omega) (by omega) hs (by omega)
  generalize order2 ltT d x1 x2 s2 = r3 at *
  obtain ⟨x3, y3, s3⟩ := r3
  simp only at *
  simp (config := { maxSteps := 1000000 }) (disch := omega) only [go_sem, ↓reduceIte, Nat.reduceEqDiff, Nat.reduceAdd, Int.reduceToNat, reduceCtorEq, Nat.reduceLeDiff, Nat.reduceSub, Nat.reduceDiv, Nat.reduceMod, Nat.reduceMul, at_t, swp_t, ordt_lt, gc_t, size_swp, arr_len, Int.add_sub_cancel, Int.natCast_mul, tn1, tnA, tnB, tnC, tnD, tnE, d1077, g1, g2, g3]
theorem tma_run {a s : Nat} {d : Array Ky} (ha : 1 ≤ a) (hb : a + 1 < d.size) (hs : d.size ≤ 1000000) (h12 : s ≤ 100) : runP tab 1076 [.sl 3 (kys d.toList), .int .i64 (a : Int), .ref 0 0, .clo 1053 [] []] [.row false [.int .i64 (s : Int)]] =
    some (.int .i64 ((medianAdjacent ltT d a s).1 : Int), [.row false [.int .i64 ((medianAdjacent ltT d a s).2 : Int)]]) := by
  refine runP_fn t1076 rfl ?_
  have g := tmed_run (a := a - 1) (b := a) (c := a + 1) (s := s) (d := d) (by omega) (by omega) hb hs h12
  have q1 : ((a - 1 : Nat) : Int) = (a : Int) - 1 := by omega
  have q2 : ((a + 1 : Nat) : Int) = (a : Int) + 1 := by omega
  rw [q1, q2] at g
  rw [medianAdjacent]
  simp (config := { maxSteps := 1000000 }) (disch := omega) only [go_sem, ↓reduceIte, Nat.reduceEqDiff, Nat.reduceAdd, Int.reduceToNat, reduceCtorEq, Nat.reduceLeDiff, Nat.reduceSub, Nat.reduceDiv, Nat.reduceMod, Nat.reduceMul, at_t, swp_t, ordt_lt, gc_t, size_swp, arr_len, Int.add_sub_cancel, Int.natCast_mul, tn1, tnA, tnB, tnC, tnD, tnE, d1076, g]
theorem tma_cnt (d : Array Ky) (a s : Nat) : (medianAdjacent ltT d a s).2 ≤ s + 3 := by
  have c : ∀ a b s, (order2 ltT d a b s).2.2 ≤ s + 1 := fun a b s => by unfold order2; split <;> simp
  unfold medianAdjacent median
  simp only
  have h1 := c (a - 1) a s
  generalize order2 ltT d (a - 1) a s = r1 at *
  have h2 := c r1.2.1 (a + 1) r1.2.2
  generalize order2 ltT d r1.2.1 (a + 1) r1.2.2 = r2 at *
  have h3 := c r1.1 r2.1 r2.2.2
  omega
theorem tpiv_run {a b : Nat} {d : Array Ky} (hab : a < b) (hb : b ≤ d.size) (hs : d.size ≤ 1000000) : ∃ p h : Nat, a ≤ p ∧ p < b ∧ h ≤ 2 ∧ runP tab 1065 [.sl 3 (kys d.toList), .int .i64 (a : Int), .int .i64 (b : Int), .clo 1053 [] []] [] = some (.tup [.int .i64 (p : Int), .int .i64 (h : Int)], []) := by
  obtain ⟨n, rfl⟩ : ∃ n, b = a + n := ⟨b - a, by omega⟩
  have q1 : ((a : Int) + (n : Int)) - (a : Int) = (n : Int) := by omega
  obtain ⟨m, hm⟩ : ∃ m, m = n / 4 := ⟨_, rfl⟩
  have q2 : (n : Int).tdiv 4 = (m : Int) := by rw [hm]; rfl
  have q3 : (a : Int) + (m : Int) * 1 = ((a + m * 1 : Nat) : Int) := by omega
  have q4 : (a : Int) + (m : Int) * 2 = ((a + m * 2 : Nat) : Int) := by omega
  have q5 : (a : Int) + (m : Int) * 3 = ((a + m * 3 : Nat) : Int) := by omega
  have fin : ∀ (j s : Nat), ∃ h : Nat, h ≤ 2 ∧ (s = 0 → h = 1) ∧ (s ≠ 0 → s = 12 → h = 2) ∧ (s ≠ 0 → s ≠ 12 → h = 0) := fun j s => by
    by_cases h0 : s = 0
    · exact ⟨1, by omega, fun _ => rfl, fun h => absurd h0 h, fun h => absurd h0 h⟩
    · by_cases h1 : s = 12
      · exact ⟨2, by omega, fun h => absurd h h0, fun _ _ => rfl, fun _ h => absurd h1 h⟩
      · exact ⟨0, by omega, fun h => absurd h h0, fun _ h => absurd h h1, fun _ _ => rfl⟩
  by_cases h8 : n < 8
  · refine ⟨a + m * 2, 1, by omega, by omega, by omega, ?_⟩
    refine runP_fn t1065 rfl ?_
    simp (config := { maxSteps := 1000000 }) (disch := omega) only [go_sem, ↓reduceIte, Nat.reduceEqDiff, Nat.reduceAdd, Int.reduceToNat, reduceCtorEq, Nat.reduceLeDiff, Nat.reduceSub, Nat.reduceDiv, Nat.reduceMod, Nat.reduceMul, at_t, swp_t, ordt_lt, gc_t, size_swp, arr_len, Int.add_sub_cancel, Int.natCast_mul, tn1, tnA, tnB, tnC, tnD, tnE, d1065, q1, q2]
  · by_cases h50 : n < 50
    · have g := tmed_run (a := a + m * 1) (b := a + m * 2) (c := a + m * 3) (s := 0) (d := d) (by omega) (by omega) (by omega) hs (by omega)
      have mm := Go.Sort.median_mem ltT d (a + m * 1) (a + m * 2) (a + m * 3) 0
      generalize median ltT d (a + m * 1) (a + m * 2) (a + m * 3) 0 = r at *
      obtain ⟨p, s⟩ := r
      simp only at *
      obtain ⟨h, hh, f1, f2, f3⟩ := fin p s
      refine ⟨p, h, by omega, by omega, hh, ?_⟩
      refine runP_fn t1065 rfl ?_
      rw [Int.cast_ofNat_Int] at g
      by_cases s0 : s = 0
      · subst s0; rw [f1 rfl]
        generalize a + m * 1 = u1 at *
        generalize a + m * 2 = u2 at *
        generalize a + m * 3 = u3 at *
        simp (config := { maxSteps := 1000000 }) (disch := omega) only [go_sem, ↓reduceIte, Nat.reduceEqDiff, Nat.reduceAdd, Int.reduceToNat, reduceCtorEq, Nat.reduceLeDiff, Nat.reduceSub, Nat.reduceDiv, Nat.reduceMod, Nat.reduceMul, at_t, swp_t, ordt_lt, gc_t, size_swp, arr_len, Int.add_sub_cancel, Int.natCast_mul, tn1, tnA, tnB, tnC, tnD, tnE, d1065, q1, q2, q3, q4, q5, g]
      · by_cases s12 : s = 12
        · rw [f2 s0 s12]; subst s12
          generalize a + m * 1 = u1 at *
          generalize a + m * 2 = u2 at *
          generalize a + m * 3 = u3 at *
          simp (config := { maxSteps := 1000000 }) (disch := omega) only [go_sem, ↓reduceIte, Nat.reduceEqDiff, Nat.reduceAdd, Int.reduceToNat, reduceCtorEq, Nat.reduceLeDiff, Nat.reduceSub, Nat.reduceDiv, Nat.reduceMod, Nat.reduceMul, at_t, swp_t, ordt_lt, gc_t, size_swp, arr_len, Int.add_sub_cancel, Int.natCast_mul, tn1, tnA, tnB, tnC, tnD, tnE, d1065, q1, q2, q3, q4, q5, g]
        · rw [f3 s0 s12]
          generalize a + m * 1 = u1 at *
          generalize a + m * 2 = u2 at *
          generalize a + m * 3 = u3 at *
          simp (config := { maxSteps := 1000000 }) (disch := omega) only [go_sem, ↓reduceIte, Nat.reduceEqDiff, Nat.reduceAdd, Int.reduceToNat, reduceCtorEq, Nat.reduceLeDiff, Nat.reduceSub, Nat.reduceDiv, Nat.reduceMod, Nat.reduceMul, at_t, swp_t, ordt_lt, gc_t, size_swp, arr_len, Int.add_sub_cancel, Int.natCast_mul, tn1, tnA, tnB, tnC, tnD, tnE, d1065, q1, q2, q3, q4, q5, g]
    · have g1 := tma_run (a := a + m * 1) (s := 0) (d := d) (by omega) (by omega) hs (by omega)
      have m1 := Go.Sort.medianAdjacent_mem ltT d (a + m * 1) 0
      have c1 := tma_cnt d (a + m * 1) 0
      generalize medianAdjacent ltT d (a + m * 1) 0 = r1 at *
      obtain ⟨i1, s1⟩ := r1
      simp only at *
      have g2 := tma_run (a := a + m * 2) (s := s1) (d := d) (by omega) (by omega) hs (by omega)
      have m2 := Go.Sort.medianAdjacent_mem ltT d (a + m * 2) s1
      have c2 := tma_cnt d (a + m * 2) s1
      generalize medianAdjacent ltT d (a + m * 2) s1 = r2 at *
      obtain ⟨i2, s2⟩ := r2
      simp only at *
      have g3 := tma_run (a := a + m * 3) (s := s2) (d := d) (by omega) (by omega) hs (by omega)
      have m3 := Go.Sort.medianAdjacent_mem ltT d (a + m * 3) s2
      have c3 := tma_cnt d (a + m * 3) s2
      generalize medianAdjacent ltT d (a + m * 3) s2 = r3 at *
      obtain ⟨i3, s3⟩ := r3
      simp only at *
      have g := tmed_run (a := i1) (b := i2) (c := i3) (s := s3) (d := d) (by omega) (by omega) (by omega) hs (by omega)
      have mm := Go.Sort.median_mem ltT d i1 i2 i3 s3
      generalize median ltT d i1 i2 i3 s3 = r at *
      obtain ⟨p, s⟩ := r
      simp only at *
      obtain ⟨h, hh, f1, f2, f3⟩ := fin p s
      refine ⟨p, h, by omega, by omega, hh, ?_⟩
      refine runP_fn t1065 rfl ?_
      rw [Int.cast_ofNat_Int] at g1
      have w1 : a ≤ i1 ∧ i1 < a + n ∧ a ≤ i2 ∧ i2 < a + n ∧ a ≤ i3 ∧ i3 < a + n := by omega
      have w2 : a + m * 1 < a + n ∧ a + m * 2 < a + n ∧ a + m * 3 < a + n := by omega
      clear m1 m2 m3 mm
      generalize a + m * 1 = u1 at *
      generalize a + m * 2 = u2 at *
      generalize a + m * 3 = u3 at *
      by_cases s0 : s = 0
      · subst s0; rw [f1 rfl]
        simp (config := { maxSteps := 1000000 }) (disch := omega) only [go_sem, ↓reduceIte, Nat.reduceEqDiff, Nat.reduceAdd, Int.reduceToNat, reduceCtorEq, Nat.reduceLeDiff, Nat.reduceSub, Nat.reduceDiv, Nat.reduceMod, Nat.reduceMul, at_t, swp_t, ordt_lt, gc_t, size_swp, arr_len, Int.add_sub_cancel, Int.natCast_mul, tn1, tnA, tnB, tnC, tnD, tnE, d1065, q1, q2, q3, q4, q5, g1, g2, g3, g]
      · by_cases s12 : s = 12
        · rw [f2 s0 s12]; subst s12
          simp (config := { maxSteps := 1000000 }) (disch := omega) only [go_sem, ↓reduceIte, Nat.reduceEqDiff, Nat.reduceAdd, Int.reduceToNat, reduceCtorEq, Nat.reduceLeDiff, Nat.reduceSub, Nat.reduceDiv, Nat.reduceMod, Nat.reduceMul, at_t, swp_t, ordt_lt, gc_t, size_swp, arr_len, Int.add_sub_cancel, Int.natCast_mul, tn1, tnA, tnB, tnC, tnD, tnE, d1065, q1, q2, q3, q4, q5, g1, g2, g3, g]
        · rw [f3 s0 s12]
          simp (config := { maxSteps := 1000000 }) (disch := omega) only [go_sem, ↓reduceIte, Nat.reduceEqDiff, Nat.reduceAdd, Int.reduceToNat, reduceCtorEq, Nat.reduceLeDiff, Nat.reduceSub, Nat.reduceDiv, Nat.reduceMod, Nat.reduceMul, at_t, swp_t, ordt_lt, gc_t, size_swp, arr_len, Int.add_sub_cancel, Int.natCast_mul, tn1, tnA, tnB, tnC, tnD, tnE, d1065, q1, q2, q3, q4, q5, g1, g2, g3, g]
end Go.Proofs.Ythpgaecloecflaa
