/- The library's sort of keys: its partitions. -/
import Derived.Test.YthpgaecloecflaaSt1
namespace Go.Proofs.Ythpgaecloecflaa
set_option linter.unusedSimpArgs false
set_option linter.unusedVariables false
set_option maxHeartbeats 4000000
set_option maxRecDepth 100000
open Go.Sort (insInner insOuter insertionSort siftDown heapBuild heapPop heapSort scanUp scanDown partLoop partition partEqLoop partitionEqual scanSorted shiftDown shiftUp partialIns partialInsertionSort reverseLoop reverseRange size_swp)
def tptS (M : List Mark) (a i j : Nat) (d : Array Ky) : St := ⟨[(0, .own 3 0), (1, .int .i64 (a : Int)), (4, .clo 1053 [] []), (12, .int .i64 (i : Int)), (13, .int .i64 (j : Int))], [.row false (kys d.toList)], 1, M⟩
def tpqS (M : List Mark) (a i j : Nat) (d : Array Ky) : St := ⟨[(0, .own 3 0), (1, .int .i64 (a : Int)), (4, .clo 1053 [] []), (11, .int .i64 (i : Int)), (12, .int .i64 (j : Int))], [.row false (kys d.toList)], 1, M⟩
theorem tup0 {a j : Nat} {d : Array Ky} {M : List Mark} {Q : AX → St → Prop} : ∀ (n i : Nat), j + 1 - i = n → a < d.size → j < d.size → i ≤ d.size → d.size ≤ 1000000 →
    (∀ env, lk env 0 = .own 3 0 → lk env 1 = .int .i64 (a : Int) → lk env 4 = .clo 1053 [] [] → lk env 12 = .int .i64 ((scanUp (fun x => ltT x d[a]!) d j i : Nat) : Int) → lk env 13 = .int .i64 (j : Int) → Q (.exit 0) ⟨env, [.row false (kys d.toList)], 1, (0, 1, [0, 1, 4, 12, 13], [(0, 0)]) :: M⟩) → Ev tab (.loop d1069_b0) (tptS ((0, 1, [0, 1, 4, 12, 13], [(0, 0)]) :: M) a i j d) Q
  | 0, i, hn, ha, hj, hi, hs, hq => by
    rw [scanUp, if_neg (by simp; omega)] at hq
    refine Ev_stop ?_
    simp (config := { maxSteps := 1000000 }) (disch := omega) only [go_sem, ↓reduceIte, Nat.reduceEqDiff, Nat.reduceAdd, Int.reduceToNat, reduceCtorEq, Nat.reduceLeDiff, Nat.reduceSub, Nat.reduceDiv, Nat.reduceMod, Nat.reduceMul, at_t, swp_t, ordt_lt, gc_t, size_swp, arr_len, Int.add_sub_cancel, Int.natCast_mul, tn1, tnA, tnB, tnC, tnD, tnE, d1069_b0, tptS]
    exact hq _ rfl rfl rfl rfl rfl
  | n + 1, i, hn, ha, hj, hi, hs, hq => by
    cases h : ltT d[i]! d[a]! with
    | true =>
      rw [scanUp, if_pos (by rw [h]; simp; omega)] at hq
      refine Ev_step (st' := tptS ((0, 1, [0, 1, 4, 12, 13], [(0, 0)]) :: M) a (i + 1) j d) ?_ (tup0 n (i + 1) (by omega) ha hj (by omega) hs hq)
      simp (config := { maxSteps := 1000000 }) (disch := omega) only [go_sem, ↓reduceIte, Nat.reduceEqDiff, Nat.reduceAdd, Int.reduceToNat, reduceCtorEq, Nat.reduceLeDiff, Nat.reduceSub, Nat.reduceDiv, Nat.reduceMod, Nat.reduceMul, at_t, swp_t, ordt_lt, gc_t, size_swp, arr_len, Int.add_sub_cancel, Int.natCast_mul, tn1, tnA, tnB, tnC, tnD, tnE, d1069_b0, tptS, h]
    | false =>
      rw [scanUp, if_neg (by rw [h]; simp)] at hq
      refine Ev_stop ?_
      simp (config := { maxSteps := 1000000 }) (disch := omega) only [go_sem, ↓reduceIte, Nat.reduceEqDiff, Nat.reduceAdd, Int.reduceToNat, reduceCtorEq, Nat.reduceLeDiff, Nat.reduceSub, Nat.reduceDiv, Nat.reduceMod, Nat.reduceMul, at_t, swp_t, ordt_lt, gc_t, size_swp, arr_len, Int.add_sub_cancel, Int.natCast_mul, tn1, tnA, tnB, tnC, tnD, tnE, d1069_b0, tptS, h]
      exact hq _ rfl rfl rfl rfl rfl
theorem tdn1 {a i : Nat} {d : Array Ky} {M : List Mark} {Q : AX → St → Prop} : ∀ (j : Nat), 0 < i → a < d.size → j < d.size → i ≤ d.size → d.size ≤ 1000000 →
    (∀ env, lk env 0 = .own 3 0 → lk env 1 = .int .i64 (a : Int) → lk env 4 = .clo 1053 [] [] → lk env 12 = .int .i64 (i : Int) → lk env 13 = .int .i64 ((scanDown (fun x => !ltT x d[a]!) d i j : Nat) : Int) → Q (.exit 2) ⟨env, [.row false (kys d.toList)], 1, (1, 1, [0, 1, 4, 12, 13], [(0, 0)]) :: M⟩) → Ev tab (.loop d1069_b1) (tptS ((1, 1, [0, 1, 4, 12, 13], [(0, 0)]) :: M) a i j d) Q
  | 0, h0, ha, hj, hi, hs, hq => by
    refine Ev_stop ?_
    rw [scanDown] at hq
    simp (config := { maxSteps := 1000000 }) (disch := omega) only [go_sem, ↓reduceIte, Nat.reduceEqDiff, Nat.reduceAdd, Int.reduceToNat, reduceCtorEq, Nat.reduceLeDiff, Nat.reduceSub, Nat.reduceDiv, Nat.reduceMod, Nat.reduceMul, at_t, swp_t, ordt_lt, gc_t, size_swp, arr_len, Int.add_sub_cancel, Int.natCast_mul, tn1, tnA, tnB, tnC, tnD, tnE, d1069_b1, tptS]
    exact hq _ rfl rfl rfl rfl rfl
  | j + 1, h0, ha, hj, hi, hs, hq => by
    by_cases hij : i ≤ j + 1
    · cases h : ltT d[j + 1]! d[a]! with
      | false =>
        rw [scanDown, if_pos (by rw [h]; simpa using hij)] at hq
        refine Ev_step (st' := tptS ((1, 1, [0, 1, 4, 12, 13], [(0, 0)]) :: M) a i j d) ?_ (tdn1 j h0 ha (by omega) hi hs hq)
        simp (config := { maxSteps := 1000000 }) (disch := omega) only [go_sem, ↓reduceIte, Nat.reduceEqDiff, Nat.reduceAdd, Int.reduceToNat, reduceCtorEq, Nat.reduceLeDiff, Nat.reduceSub, Nat.reduceDiv, Nat.reduceMod, Nat.reduceMul, at_t, swp_t, ordt_lt, gc_t, size_swp, arr_len, Int.add_sub_cancel, Int.natCast_mul, tn1, tnA, tnB, tnC, tnD, tnE, d1069_b1, tptS, h]
      | true =>
        rw [scanDown, if_neg (by rw [h]; simp)] at hq
        refine Ev_stop ?_
        simp (config := { maxSteps := 1000000 }) (disch := omega) only [go_sem, ↓reduceIte, Nat.reduceEqDiff, Nat.reduceAdd, Int.reduceToNat, reduceCtorEq, Nat.reduceLeDiff, Nat.reduceSub, Nat.reduceDiv, Nat.reduceMod, Nat.reduceMul, at_t, swp_t, ordt_lt, gc_t, size_swp, arr_len, Int.add_sub_cancel, Int.natCast_mul, tn1, tnA, tnB, tnC, tnD, tnE, d1069_b1, tptS, h]
        exact hq _ rfl rfl rfl rfl rfl
    · rw [scanDown, if_neg (by simp; omega)] at hq
      refine Ev_stop ?_
      simp (config := { maxSteps := 1000000 }) (disch := omega) only [go_sem, ↓reduceIte, Nat.reduceEqDiff, Nat.reduceAdd, Int.reduceToNat, reduceCtorEq, Nat.reduceLeDiff, Nat.reduceSub, Nat.reduceDiv, Nat.reduceMod, Nat.reduceMul, at_t, swp_t, ordt_lt, gc_t, size_swp, arr_len, Int.add_sub_cancel, Int.natCast_mul, tn1, tnA, tnB, tnC, tnD, tnE, d1069_b1, tptS]
      exact hq _ rfl rfl rfl rfl rfl
theorem tup3 {a j : Nat} {d : Array Ky} {M : List Mark} {Q : AX → St → Prop} : ∀ (n i : Nat), j + 1 - i = n → a < d.size → j < d.size → i ≤ d.size → d.size ≤ 1000000 →
    (∀ env, lk env 0 = .own 3 0 → lk env 1 = .int .i64 (a : Int) → lk env 4 = .clo 1053 [] [] → lk env 12 = .int .i64 ((scanUp (fun x => ltT x d[a]!) d j i : Nat) : Int) → lk env 13 = .int .i64 (j : Int) → Q (.exit 6) ⟨env, [.row false (kys d.toList)], 1, (3, 1, [0, 1, 4, 12, 13], [(0, 0)]) :: M⟩) → Ev tab (.loop d1069_b3) (tptS ((3, 1, [0, 1, 4, 12, 13], [(0, 0)]) :: M) a i j d) Q
  | 0, i, hn, ha, hj, hi, hs, hq => by
    rw [scanUp, if_neg (by simp; omega)] at hq
    refine Ev_stop ?_
    simp (config := { maxSteps := 1000000 }) (disch := omega) only [go_sem, ↓reduceIte, Nat.reduceEqDiff, Nat.reduceAdd, Int.reduceToNat, reduceCtorEq, Nat.reduceLeDiff, Nat.reduceSub, Nat.reduceDiv, Nat.reduceMod, Nat.reduceMul, at_t, swp_t, ordt_lt, gc_t, size_swp, arr_len, Int.add_sub_cancel, Int.natCast_mul, tn1, tnA, tnB, tnC, tnD, tnE, d1069_b3, tptS]
    exact hq _ rfl rfl rfl rfl rfl
  | n + 1, i, hn, ha, hj, hi, hs, hq => by
    cases h : ltT d[i]! d[a]! with
    | true =>
      rw [scanUp, if_pos (by rw [h]; simp; omega)] at hq
      refine Ev_step (st' := tptS ((3, 1, [0, 1, 4, 12, 13], [(0, 0)]) :: M) a (i + 1) j d) ?_ (tup3 n (i + 1) (by omega) ha hj (by omega) hs hq)
      simp (config := { maxSteps := 1000000 }) (disch := omega) only [go_sem, ↓reduceIte, Nat.reduceEqDiff, Nat.reduceAdd, Int.reduceToNat, reduceCtorEq, Nat.reduceLeDiff, Nat.reduceSub, Nat.reduceDiv, Nat.reduceMod, Nat.reduceMul, at_t, swp_t, ordt_lt, gc_t, size_swp, arr_len, Int.add_sub_cancel, Int.natCast_mul, tn1, tnA, tnB, tnC, tnD, tnE, d1069_b3, tptS, h]
    | false =>
      rw [scanUp, if_neg (by rw [h]; simp)] at hq
      refine Ev_stop ?_
      simp (config := { maxSteps := 1000000 }) (disch := omega) only [go_sem, ↓reduceIte, Nat.reduceEqDiff, Nat.reduceAdd, Int.reduceToNat, reduceCtorEq, Nat.reduceLeDiff, Nat.reduceSub, Nat.reduceDiv, Nat.reduceMod, Nat.reduceMul, at_t, swp_t, ordt_lt, gc_t, size_swp, arr_len, Int.add_sub_cancel, Int.natCast_mul, tn1, tnA, tnB, tnC, tnD, tnE, d1069_b3, tptS, h]
      exact hq _ rfl rfl rfl rfl rfl
theorem tdn4 {a i : Nat} {d : Array Ky} {M : List Mark} {Q : AX → St → Prop} : ∀ (j : Nat), 0 < i → a < d.size → j < d.size → i ≤ d.size → d.size ≤ 1000000 →
    (∀ env, lk env 0 = .own 3 0 → lk env 1 = .int .i64 (a : Int) → lk env 4 = .clo 1053 [] [] → lk env 12 = .int .i64 (i : Int) → lk env 13 = .int .i64 ((scanDown (fun x => !ltT x d[a]!) d i j : Nat) : Int) → Q (.exit 8) ⟨env, [.row false (kys d.toList)], 1, (4, 1, [0, 1, 4, 12, 13], [(0, 0)]) :: M⟩) → Ev tab (.loop d1069_b4) (tptS ((4, 1, [0, 1, 4, 12, 13], [(0, 0)]) :: M) a i j d) Q
  | 0, h0, ha, hj, hi, hs, hq => by
    refine Ev_stop ?_
    rw [scanDown] at hq
    simp (config := { maxSteps := 1000000 }) (disch := omega) only [go_sem, ↓reduceIte, Nat.reduceEqDiff, Nat.reduceAdd, Int.reduceToNat, reduceCtorEq, Nat.reduceLeDiff, Nat.reduceSub, Nat.reduceDiv, Nat.reduceMod, Nat.reduceMul, at_t, swp_t, ordt_lt, gc_t, size_swp, arr_len, Int.add_sub_cancel, Int.natCast_mul, tn1, tnA, tnB, tnC, tnD, tnE, d1069_b4, tptS]
    exact hq _ rfl rfl rfl rfl rfl
  | j + 1, h0, ha, hj, hi, hs, hq => by
    by_cases hij : i ≤ j + 1
    · cases h : ltT d[j + 1]! d[a]! with
      | false =>
        rw [scanDown, if_pos (by rw [h]; simpa using hij)] at hq
        refine Ev_step (st' := tptS ((4, 1, [0, 1, 4, 12, 13], [(0, 0)]) :: M) a i j d) ?_ (tdn4 j h0 ha (by omega) hi hs hq)
        simp (config := { maxSteps := 1000000 }) (disch := omega) only [go_sem, ↓reduceIte, Nat.reduceEqDiff, Nat.reduceAdd, Int.reduceToNat, reduceCtorEq, Nat.reduceLeDiff, Nat.reduceSub, Nat.reduceDiv, Nat.reduceMod, Nat.reduceMul, at_t, swp_t, ordt_lt, gc_t, size_swp, arr_len, Int.add_sub_cancel, Int.natCast_mul, tn1, tnA, tnB, tnC, tnD, tnE, d1069_b4, tptS, h]
      | true =>
        rw [scanDown, if_neg (by rw [h]; simp)] at hq
        refine Ev_stop ?_
        simp (config := { maxSteps := 1000000 }) (disch := omega) only [go_sem, ↓reduceIte, Nat.reduceEqDiff, Nat.reduceAdd, Int.reduceToNat, reduceCtorEq, Nat.reduceLeDiff, Nat.reduceSub, Nat.reduceDiv, Nat.reduceMod, Nat.reduceMul, at_t, swp_t, ordt_lt, gc_t, size_swp, arr_len, Int.add_sub_cancel, Int.natCast_mul, tn1, tnA, tnB, tnC, tnD, tnE, d1069_b4, tptS, h]
        exact hq _ rfl rfl rfl rfl rfl
    · rw [scanDown, if_neg (by simp; omega)] at hq
      refine Ev_stop ?_
      simp (config := { maxSteps := 1000000 }) (disch := omega) only [go_sem, ↓reduceIte, Nat.reduceEqDiff, Nat.reduceAdd, Int.reduceToNat, reduceCtorEq, Nat.reduceLeDiff, Nat.reduceSub, Nat.reduceDiv, Nat.reduceMod, Nat.reduceMul, at_t, swp_t, ordt_lt, gc_t, size_swp, arr_len, Int.add_sub_cancel, Int.natCast_mul, tn1, tnA, tnB, tnC, tnD, tnE, d1069_b4, tptS]
      exact hq _ rfl rfl rfl rfl rfl
theorem tqup {a j : Nat} {d : Array Ky} {M : List Mark} {Q : AX → St → Prop} : ∀ (n i : Nat), j + 1 - i = n → a < d.size → j < d.size → i ≤ d.size → d.size ≤ 1000000 →
    (∀ env, lk env 0 = .own 3 0 → lk env 1 = .int .i64 (a : Int) → lk env 4 = .clo 1053 [] [] → lk env 11 = .int .i64 ((scanUp (fun x => !ltT d[a]! x) d j i : Nat) : Int) → lk env 12 = .int .i64 (j : Int) → Q (.exit 2) ⟨env, [.row false (kys d.toList)], 1, (1, 1, [0, 1, 4, 11, 12], [(0, 0)]) :: M⟩) → Ev tab (.loop d1068_b1) (tpqS ((1, 1, [0, 1, 4, 11, 12], [(0, 0)]) :: M) a i j d) Q
  | 0, i, hn, ha, hj, hi, hs, hq => by
    rw [scanUp, if_neg (by simp; omega)] at hq
    refine Ev_stop ?_
    simp (config := { maxSteps := 1000000 }) (disch := omega) only [go_sem, ↓reduceIte, Nat.reduceEqDiff, Nat.reduceAdd, Int.reduceToNat, reduceCtorEq, Nat.reduceLeDiff, Nat.reduceSub, Nat.reduceDiv, Nat.reduceMod, Nat.reduceMul, at_t, swp_t, ordt_lt, gc_t, size_swp, arr_len, Int.add_sub_cancel, Int.natCast_mul, tn1, tnA, tnB, tnC, tnD, tnE, d1068_b1, tpqS]
    exact hq _ rfl rfl rfl rfl rfl
  | n + 1, i, hn, ha, hj, hi, hs, hq => by
    cases h : ltT d[a]! d[i]! with
    | false =>
      rw [scanUp, if_pos (by rw [h]; simp; omega)] at hq
      refine Ev_step (st' := tpqS ((1, 1, [0, 1, 4, 11, 12], [(0, 0)]) :: M) a (i + 1) j d) ?_ (tqup n (i + 1) (by omega) ha hj (by omega) hs hq)
      simp (config := { maxSteps := 1000000 }) (disch := omega) only [go_sem, ↓reduceIte, Nat.reduceEqDiff, Nat.reduceAdd, Int.reduceToNat, reduceCtorEq, Nat.reduceLeDiff, Nat.reduceSub, Nat.reduceDiv, Nat.reduceMod, Nat.reduceMul, at_t, swp_t, ordt_lt, gc_t, size_swp, arr_len, Int.add_sub_cancel, Int.natCast_mul, tn1, tnA, tnB, tnC, tnD, tnE, d1068_b1, tpqS, h]
    | true =>
      rw [scanUp, if_neg (by rw [h]; simp)] at hq
      refine Ev_stop ?_
      simp (config := { maxSteps := 1000000 }) (disch := omega) only [go_sem, ↓reduceIte, Nat.reduceEqDiff, Nat.reduceAdd, Int.reduceToNat, reduceCtorEq, Nat.reduceLeDiff, Nat.reduceSub, Nat.reduceDiv, Nat.reduceMod, Nat.reduceMul, at_t, swp_t, ordt_lt, gc_t, size_swp, arr_len, Int.add_sub_cancel, Int.natCast_mul, tn1, tnA, tnB, tnC, tnD, tnE, d1068_b1, tpqS, h]
      exact hq _ rfl rfl rfl rfl rfl
theorem tqdn {a i : Nat} {d : Array Ky} {M : List Mark} {Q : AX → St → Prop} : ∀ (j : Nat), 0 < i → a < d.size → j < d.size → i ≤ d.size → d.size ≤ 1000000 →
    (∀ env, lk env 0 = .own 3 0 → lk env 1 = .int .i64 (a : Int) → lk env 4 = .clo 1053 [] [] → lk env 11 = .int .i64 (i : Int) → lk env 12 = .int .i64 ((scanDown (fun x => ltT d[a]! x) d i j : Nat) : Int) → Q (.exit 4) ⟨env, [.row false (kys d.toList)], 1, (2, 1, [0, 1, 4, 11, 12], [(0, 0)]) :: M⟩) → Ev tab (.loop d1068_b2) (tpqS ((2, 1, [0, 1, 4, 11, 12], [(0, 0)]) :: M) a i j d) Q
  | 0, h0, ha, hj, hi, hs, hq => by
    refine Ev_stop ?_
    rw [scanDown] at hq
    simp (config := { maxSteps := 1000000 }) (disch := omega) only [go_sem, ↓reduceIte, Nat.reduceEqDiff, Nat.reduceAdd, Int.reduceToNat, reduceCtorEq, Nat.reduceLeDiff, Nat.reduceSub, Nat.reduceDiv, Nat.reduceMod, Nat.reduceMul, at_t, swp_t, ordt_lt, gc_t, size_swp, arr_len, Int.add_sub_cancel, Int.natCast_mul, tn1, tnA, tnB, tnC, tnD, tnE, d1068_b2, tpqS]
    exact hq _ rfl rfl rfl rfl rfl
  | j + 1, h0, ha, hj, hi, hs, hq => by
    by_cases hij : i ≤ j + 1
    · cases h : ltT d[a]! d[j + 1]! with
      | true =>
        rw [scanDown, if_pos (by rw [h]; simpa using hij)] at hq
        refine Ev_step (st' := tpqS ((2, 1, [0, 1, 4, 11, 12], [(0, 0)]) :: M) a i j d) ?_ (tqdn j h0 ha (by omega) hi hs hq)
        simp (config := { maxSteps := 1000000 }) (disch := omega) only [go_sem, ↓reduceIte, Nat.reduceEqDiff, Nat.reduceAdd, Int.reduceToNat, reduceCtorEq, Nat.reduceLeDiff, Nat.reduceSub, Nat.reduceDiv, Nat.reduceMod, Nat.reduceMul, at_t, swp_t, ordt_lt, gc_t, size_swp, arr_len, Int.add_sub_cancel, Int.natCast_mul, tn1, tnA, tnB, tnC, tnD, tnE, d1068_b2, tpqS, h]
      | false =>
        rw [scanDown, if_neg (by rw [h]; simp)] at hq
        refine Ev_stop ?_
        simp (config := { maxSteps := 1000000 }) (disch := omega) only [go_sem, ↓reduceIte, Nat.reduceEqDiff, Nat.reduceAdd, Int.reduceToNat, reduceCtorEq, Nat.reduceLeDiff, Nat.reduceSub, Nat.reduceDiv, Nat.reduceMod, Nat.reduceMul, at_t, swp_t, ordt_lt, gc_t, size_swp, arr_len, Int.add_sub_cancel, Int.natCast_mul, tn1, tnA, tnB, tnC, tnD, tnE, d1068_b2, tpqS, h]
        exact hq _ rfl rfl rfl rfl rfl
    · rw [scanDown, if_neg (by simp; omega)] at hq
      refine Ev_stop ?_
      simp (config := { maxSteps := 1000000 }) (disch := omega) only [go_sem, ↓reduceIte, Nat.reduceEqDiff, Nat.reduceAdd, Int.reduceToNat, reduceCtorEq, Nat.reduceLeDiff, Nat.reduceSub, Nat.reduceDiv, Nat.reduceMod, Nat.reduceMul, at_t, swp_t, ordt_lt, gc_t, size_swp, arr_len, Int.add_sub_cancel, Int.natCast_mul, tn1, tnA, tnB, tnC, tnD, tnE, d1068_b2, tpqS]
      exact hq _ rfl rfl rfl rfl rfl
theorem tpl_sz (a : Nat) : ∀ (n i j : Nat) (d : Array Ky), j + 1 - i ≤ n → (partLoop ltT a i j d).2.size = d.size := by
  intro n
  induction n with
  | zero =>
    intro i j d hn
    have h1 := Go.Sort.scanUp_ge (fun x => ltT x d[a]!) d j i
    have h2 := Go.Sort.scanDown_le (fun x => !ltT x d[a]!) d (scanUp (fun x => ltT x d[a]!) d j i) j
    rw [Go.Sort.partLoop_eq, if_pos (by omega)]
  | succ n ih =>
    intro i j d hn
    have h1 := Go.Sort.scanUp_ge (fun x => ltT x d[a]!) d j i
    have h2 := Go.Sort.scanDown_le (fun x => !ltT x d[a]!) d (scanUp (fun x => ltT x d[a]!) d j i) j
    rw [Go.Sort.partLoop_eq]
    split
    · rfl
    · rw [ih _ _ _ (by omega), size_swp]
theorem tpl_loop {a : Nat} {M : List Mark} {Q : AX → St → Prop} : ∀ (n i j : Nat) (d : Array Ky), j + 1 - i ≤ n → a < i → i ≤ j + 1 → j < d.size → d.size ≤ 1000000 →
    (∀ env M', lk env 0 = .own 3 0 → lk env 1 = .int .i64 (a : Int) → lk env 13 = .int .i64 (((partLoop ltT a i j d).1 : Nat) : Int) → Q (.exit 4) ⟨env, [.row false (kys ((partLoop ltT a i j d).2).toList)], 1, M'⟩) →
    Ev tab (.loop d1069_b2) (tptS ((2, 1, [0, 1, 4, 12, 13], [(0, 0)]) :: M) a i j d) Q := by
  intro n
  induction n with
  | zero =>
    intro i j d hn ha hij hj hs hq
    rw [Go.Sort.partLoop_eq] at hq
    have h1 := Go.Sort.scanUp_ge (fun x => ltT x d[a]!) d j i
    obtain ⟨_, h1', _, _⟩ := Go.Sort.scanUp_spec (fun x => ltT x d[a]!) d j _ i rfl
    have h2 := Go.Sort.scanDown_le (fun x => !ltT x d[a]!) d (scanUp (fun x => ltT x d[a]!) d j i) j
    rw [if_pos (by omega)] at hq
    refine Ev_stop ?_
    simp (config := { maxSteps := 1000000 }) (disch := omega) only [go_sem, ↓reduceIte, Nat.reduceEqDiff, Nat.reduceAdd, Int.reduceToNat, reduceCtorEq, Nat.reduceLeDiff, Nat.reduceSub, Nat.reduceDiv, Nat.reduceMod, Nat.reduceMul, at_t, swp_t, ordt_lt, gc_t, size_swp, arr_len, Int.add_sub_cancel, Int.natCast_mul, tn1, tnA, tnB, tnC, tnD, tnE, d1069_b2, tptS]
    refine tup3 _ i rfl (by omega) hj (by omega) hs (fun env e0 e1 e4 e12 e13 => ?_)
    generalize scanUp (fun x => ltT x d[a]!) d j i = i2 at *
    simp (config := { maxSteps := 1000000 }) (disch := omega) only [go_sem, ↓reduceIte, Nat.reduceEqDiff, Nat.reduceAdd, Int.reduceToNat, reduceCtorEq, Nat.reduceLeDiff, Nat.reduceSub, Nat.reduceDiv, Nat.reduceMod, Nat.reduceMul, at_t, swp_t, ordt_lt, gc_t, size_swp, arr_len, Int.add_sub_cancel, Int.natCast_mul, tn1, tnA, tnB, tnC, tnD, tnE, e0, e1, e4, e12, e13]
    refine tdn4 (i := i2) j (by omega) (by omega) hj (by omega) hs (fun env e0 e1 e4 e12 e13 => ?_)
    generalize scanDown (fun x => !ltT x d[a]!) d i2 j = j2 at *
    simp (config := { maxSteps := 1000000 }) (disch := omega) only [go_sem, ↓reduceIte, Nat.reduceEqDiff, Nat.reduceAdd, Int.reduceToNat, reduceCtorEq, Nat.reduceLeDiff, Nat.reduceSub, Nat.reduceDiv, Nat.reduceMod, Nat.reduceMul, at_t, swp_t, ordt_lt, gc_t, size_swp, arr_len, Int.add_sub_cancel, Int.natCast_mul, tn1, tnA, tnB, tnC, tnD, tnE, e0, e1, e4, e12, e13]
    exact hq _ _ rfl rfl rfl
  | succ n ih =>
    intro i j d hn ha hij hj hs hq
    rw [Go.Sort.partLoop_eq] at hq
    have h1 := Go.Sort.scanUp_ge (fun x => ltT x d[a]!) d j i
    obtain ⟨_, h1', _, _⟩ := Go.Sort.scanUp_spec (fun x => ltT x d[a]!) d j _ i rfl
    have h2 := Go.Sort.scanDown_le (fun x => !ltT x d[a]!) d (scanUp (fun x => ltT x d[a]!) d j i) j
    by_cases hc : scanUp (fun x => ltT x d[a]!) d j i > scanDown (fun x => !ltT x d[a]!) d (scanUp (fun x => ltT x d[a]!) d j i) j
    · rw [if_pos hc] at hq
      refine Ev_stop ?_
      simp (config := { maxSteps := 1000000 }) (disch := omega) only [go_sem, ↓reduceIte, Nat.reduceEqDiff, Nat.reduceAdd, Int.reduceToNat, reduceCtorEq, Nat.reduceLeDiff, Nat.reduceSub, Nat.reduceDiv, Nat.reduceMod, Nat.reduceMul, at_t, swp_t, ordt_lt, gc_t, size_swp, arr_len, Int.add_sub_cancel, Int.natCast_mul, tn1, tnA, tnB, tnC, tnD, tnE, d1069_b2, tptS]
      refine tup3 _ i rfl (by omega) hj (by omega) hs (fun env e0 e1 e4 e12 e13 => ?_)
      generalize scanUp (fun x => ltT x d[a]!) d j i = i2 at *
      simp (config := { maxSteps := 1000000 }) (disch := omega) only [go_sem, ↓reduceIte, Nat.reduceEqDiff, Nat.reduceAdd, Int.reduceToNat, reduceCtorEq, Nat.reduceLeDiff, Nat.reduceSub, Nat.reduceDiv, Nat.reduceMod, Nat.reduceMul, at_t, swp_t, ordt_lt, gc_t, size_swp, arr_len, Int.add_sub_cancel, Int.natCast_mul, tn1, tnA, tnB, tnC, tnD, tnE, e0, e1, e4, e12, e13]
      refine tdn4 (i := i2) j (by omega) (by omega) hj (by omega) hs (fun env e0 e1 e4 e12 e13 => ?_)
      generalize scanDown (fun x => !ltT x d[a]!) d i2 j = j2 at *
      simp (config := { maxSteps := 1000000 }) (disch := omega) only [go_sem, ↓reduceIte, Nat.reduceEqDiff, Nat.reduceAdd, Int.reduceToNat, reduceCtorEq, Nat.reduceLeDiff, Nat.reduceSub, Nat.reduceDiv, Nat.reduceMod, Nat.reduceMul, at_t, swp_t, ordt_lt, gc_t, size_swp, arr_len, Int.add_sub_cancel, Int.natCast_mul, tn1, tnA, tnB, tnC, tnD, tnE, e0, e1, e4, e12, e13]
      exact hq _ _ rfl rfl rfl
    · rw [if_neg hc] at hq
      have hne : scanUp (fun x => ltT x d[a]!) d j i ≠ scanDown (fun x => !ltT x d[a]!) d (scanUp (fun x => ltT x d[a]!) d j i) j := fun e => by
        have u4 := (Go.Sort.scanUp_spec (fun x => ltT x d[a]!) d j _ i rfl).2.2.2 (by omega)
        have v4 := (Go.Sort.scanDown_spec (fun x => !ltT x d[a]!) d (scanUp (fun x => ltT x d[a]!) d j i) j).2.2.2 (by omega) (by omega)
        rw [← e] at v4
        (try simp only at u4 v4)
        rw [u4] at v4; cases v4
      refine Ev_step (st' := tptS ((2, 1, [0, 1, 4, 12, 13], [(0, 0)]) :: M) a (scanUp (fun x => ltT x d[a]!) d j i + 1) (scanDown (fun x => !ltT x d[a]!) d (scanUp (fun x => ltT x d[a]!) d j i) j - 1) (Go.Sort.swp d (scanUp (fun x => ltT x d[a]!) d j i) (scanDown (fun x => !ltT x d[a]!) d (scanUp (fun x => ltT x d[a]!) d j i) j))) ?_ (ih _ _ _ (by omega) (by omega) (by omega) (by rw [size_swp]; omega) (by rw [size_swp]; exact hs) hq)
      clear hq ih
      simp (config := { maxSteps := 1000000 }) (disch := omega) only [go_sem, ↓reduceIte, Nat.reduceEqDiff, Nat.reduceAdd, Int.reduceToNat, reduceCtorEq, Nat.reduceLeDiff, Nat.reduceSub, Nat.reduceDiv, Nat.reduceMod, Nat.reduceMul, at_t, swp_t, ordt_lt, gc_t, size_swp, arr_len, Int.add_sub_cancel, Int.natCast_mul, tn1, tnA, tnB, tnC, tnD, tnE, d1069_b2, tptS]
      refine tup3 _ i rfl (by omega) hj (by omega) hs (fun env e0 e1 e4 e12 e13 => ?_)
      generalize scanUp (fun x => ltT x d[a]!) d j i = i2 at *
      simp (config := { maxSteps := 1000000 }) (disch := omega) only [go_sem, ↓reduceIte, Nat.reduceEqDiff, Nat.reduceAdd, Int.reduceToNat, reduceCtorEq, Nat.reduceLeDiff, Nat.reduceSub, Nat.reduceDiv, Nat.reduceMod, Nat.reduceMul, at_t, swp_t, ordt_lt, gc_t, size_swp, arr_len, Int.add_sub_cancel, Int.natCast_mul, tn1, tnA, tnB, tnC, tnD, tnE, e0, e1, e4, e12, e13]
      refine tdn4 (i := i2) j (by omega) (by omega) hj (by omega) hs (fun env e0 e1 e4 e12 e13 => ?_)
      generalize scanDown (fun x => !ltT x d[a]!) d i2 j = j2 at *
      obtain ⟨k, rfl⟩ : ∃ k, j2 = k + 1 := ⟨j2 - 1, by omega⟩
      simp (config := { maxSteps := 1000000 }) (disch := omega) only [go_sem, ↓reduceIte, Nat.reduceEqDiff, Nat.reduceAdd, Int.reduceToNat, reduceCtorEq, Nat.reduceLeDiff, Nat.reduceSub, Nat.reduceDiv, Nat.reduceMod, Nat.reduceMul, at_t, swp_t, ordt_lt, gc_t, size_swp, arr_len, Int.add_sub_cancel, Int.natCast_mul, tn1, tnA, tnB, tnC, tnD, tnE, e0, e1, e4, e12, e13, Nat.add_sub_cancel]
theorem tprt_run {a b pivot : Nat} {d : Array Ky} (ha : a ≤ pivot) (hp : pivot < b) (hb : b ≤ d.size) (hs : d.size ≤ 1000000) : runP tab 1069 [.own 3 0, .int .i64 (a : Int), .int .i64 (b : Int), .int .i64 (pivot : Int), .clo 1053 [] []] [.row false (kys d.toList)] =
    some (.tup [.int .i64 ((partition ltT d a b pivot).1 : Int), .bool (partition ltT d a b pivot).2.1], [.row false (kys ((partition ltT d a b pivot).2.2).toList)]) := by
  refine runP_fn t1069 rfl ?_
  have q : (b : Int) - 1 = ((b - 1 : Nat) : Int) := by omega
  simp (config := { maxSteps := 1000000 }) (disch := omega) only [go_sem, ↓reduceIte, Nat.reduceEqDiff, Nat.reduceAdd, Int.reduceToNat, reduceCtorEq, Nat.reduceLeDiff, Nat.reduceSub, Nat.reduceDiv, Nat.reduceMod, Nat.reduceMul, at_t, swp_t, ordt_lt, gc_t, size_swp, arr_len, Int.add_sub_cancel, Int.natCast_mul, tn1, tnA, tnB, tnC, tnD, tnE, d1069, q]
  have sz := size_swp d a pivot
  have epart : partition ltT d a b pivot = (if scanUp (fun x => ltT x (Go.Sort.swp d a pivot)[a]!) (Go.Sort.swp d a pivot) (b - 1) (a + 1) > scanDown (fun x => !ltT x (Go.Sort.swp d a pivot)[a]!) (Go.Sort.swp d a pivot) (scanUp (fun x => ltT x (Go.Sort.swp d a pivot)[a]!) (Go.Sort.swp d a pivot) (b - 1) (a + 1)) (b - 1) then (scanDown (fun x => !ltT x (Go.Sort.swp d a pivot)[a]!) (Go.Sort.swp d a pivot) (scanUp (fun x => ltT x (Go.Sort.swp d a pivot)[a]!) (Go.Sort.swp d a pivot) (b - 1) (a + 1)) (b - 1), true, Go.Sort.swp (Go.Sort.swp d a pivot) (scanDown (fun x => !ltT x (Go.Sort.swp d a pivot)[a]!) (Go.Sort.swp d a pivot) (scanUp (fun x => ltT x (Go.Sort.swp d a pivot)[a]!) (Go.Sort.swp d a pivot) (b - 1) (a + 1)) (b - 1)) a) else ((partLoop ltT a (scanUp (fun x => ltT x (Go.Sort.swp d a pivot)[a]!) (Go.Sort.swp d a pivot) (b - 1) (a + 1) + 1) (scanDown (fun x => !ltT x (Go.Sort.swp d a pivot)[a]!) (Go.Sort.swp d a pivot) (scanUp (fun x => ltT x (Go.Sort.swp d a pivot)[a]!) (Go.Sort.swp d a pivot) (b - 1) (a + 1)) (b - 1) - 1) (Go.Sort.swp (Go.Sort.swp d a pivot) (scanUp (fun x => ltT x (Go.Sort.swp d a pivot)[a]!) (Go.Sort.swp d a pivot) (b - 1) (a + 1)) (scanDown (fun x => !ltT x (Go.Sort.swp d a pivot)[a]!) (Go.Sort.swp d a pivot) (scanUp (fun x => ltT x (Go.Sort.swp d a pivot)[a]!) (Go.Sort.swp d a pivot) (b - 1) (a + 1)) (b - 1)))).1, false, Go.Sort.swp (partLoop ltT a (scanUp (fun x => ltT x (Go.Sort.swp d a pivot)[a]!) (Go.Sort.swp d a pivot) (b - 1) (a + 1) + 1) (scanDown (fun x => !ltT x (Go.Sort.swp d a pivot)[a]!) (Go.Sort.swp d a pivot) (scanUp (fun x => ltT x (Go.Sort.swp d a pivot)[a]!) (Go.Sort.swp d a pivot) (b - 1) (a + 1)) (b - 1) - 1) (Go.Sort.swp (Go.Sort.swp d a pivot) (scanUp (fun x => ltT x (Go.Sort.swp d a pivot)[a]!) (Go.Sort.swp d a pivot) (b - 1) (a + 1)) (scanDown (fun x => !ltT x (Go.Sort.swp d a pivot)[a]!) (Go.Sort.swp d a pivot) (scanUp (fun x => ltT x (Go.Sort.swp d a pivot)[a]!) (Go.Sort.swp d a pivot) (b - 1) (a + 1)) (b - 1)))).2 (partLoop ltT a (scanUp (fun x => ltT x (Go.Sort.swp d a pivot)[a]!) (Go.Sort.swp d a pivot) (b - 1) (a + 1) + 1) (scanDown (fun x => !ltT x (Go.Sort.swp d a pivot)[a]!) (Go.Sort.swp d a pivot) (scanUp (fun x => ltT x (Go.Sort.swp d a pivot)[a]!) (Go.Sort.swp d a pivot) (b - 1) (a + 1)) (b - 1) - 1) (Go.Sort.swp (Go.Sort.swp d a pivot) (scanUp (fun x => ltT x (Go.Sort.swp d a pivot)[a]!) (Go.Sort.swp d a pivot) (b - 1) (a + 1)) (scanDown (fun x => !ltT x (Go.Sort.swp d a pivot)[a]!) (Go.Sort.swp d a pivot) (scanUp (fun x => ltT x (Go.Sort.swp d a pivot)[a]!) (Go.Sort.swp d a pivot) (b - 1) (a + 1)) (b - 1)))).1 a)) := rfl
  rw [epart]
  clear epart
  generalize Go.Sort.swp d a pivot = d1 at *
  obtain ⟨h1, h2, h3, h4⟩ := Go.Sort.scanUp_spec (fun x => ltT x d1[a]!) d1 (b - 1) _ (a + 1) rfl
  obtain ⟨k1, k2, k3, k4⟩ := Go.Sort.scanDown_spec (fun x => !ltT x d1[a]!) d1 (scanUp (fun x => ltT x d1[a]!) d1 (b - 1) (a + 1)) (b - 1)
  refine tup0 (j := b - 1) _ (a + 1) rfl (by omega) (by omega) (by omega) (by omega) (fun env e0 e1 e4 e12 e13 => ?_)
  generalize scanUp (fun x => ltT x d1[a]!) d1 (b - 1) (a + 1) = i2 at *
  simp (config := { maxSteps := 1000000 }) (disch := omega) only [go_sem, ↓reduceIte, Nat.reduceEqDiff, Nat.reduceAdd, Int.reduceToNat, reduceCtorEq, Nat.reduceLeDiff, Nat.reduceSub, Nat.reduceDiv, Nat.reduceMod, Nat.reduceMul, at_t, swp_t, ordt_lt, gc_t, size_swp, arr_len, Int.add_sub_cancel, Int.natCast_mul, tn1, tnA, tnB, tnC, tnD, tnE, e0, e1, e4, e12, e13]
  refine tdn1 (i := i2) (b - 1) (by omega) (by omega) (by omega) (by omega) (by omega) (fun env e0 e1 e4 e12 e13 => ?_)
  generalize scanDown (fun x => !ltT x d1[a]!) d1 i2 (b - 1) = j2 at *
  by_cases hc : i2 > j2
  · rw [if_pos hc]
    simp (config := { maxSteps := 1000000 }) (disch := omega) only [go_sem, ↓reduceIte, Nat.reduceEqDiff, Nat.reduceAdd, Int.reduceToNat, reduceCtorEq, Nat.reduceLeDiff, Nat.reduceSub, Nat.reduceDiv, Nat.reduceMod, Nat.reduceMul, at_t, swp_t, ordt_lt, gc_t, size_swp, arr_len, Int.add_sub_cancel, Int.natCast_mul, tn1, tnA, tnB, tnC, tnD, tnE, e0, e1, e4, e12, e13]
  · rw [if_neg hc]
    have hne : i2 ≠ j2 := fun e => by
      subst e
      have u4 := h4 (by omega)
      have v4 := k4 (by omega) (by omega)
      (try simp only at u4 v4)
      rw [u4] at v4; cases v4
    obtain ⟨k, rfl⟩ : ∃ k, j2 = k + 1 := ⟨j2 - 1, by omega⟩
    rw [Nat.add_sub_cancel]
    have sz2 := size_swp d1 i2 (k + 1)
    have sp := Go.Sort.partLoop_spec ltT a b _ (i2 + 1) k (Go.Sort.swp d1 i2 (k + 1)) (Nat.le_refl _) (by omega) (by omega) (by omega) (by omega) (fun t t1 t2 => ?_) (fun t t1 t2 => ?_)
    · simp (config := { maxSteps := 1000000 }) (disch := omega) only [go_sem, ↓reduceIte, Nat.reduceEqDiff, Nat.reduceAdd, Int.reduceToNat, reduceCtorEq, Nat.reduceLeDiff, Nat.reduceSub, Nat.reduceDiv, Nat.reduceMod, Nat.reduceMul, at_t, swp_t, ordt_lt, gc_t, size_swp, arr_len, Int.add_sub_cancel, Int.natCast_mul, tn1, tnA, tnB, tnC, tnD, tnE, e0, e1, e4, e12, e13]
      have sz3 := tpl_sz a _ (i2 + 1) k (Go.Sort.swp d1 i2 (k + 1)) (Nat.le_refl _)
      refine tpl_loop _ (i2 + 1) k (Go.Sort.swp d1 i2 (k + 1)) (Nat.le_refl _) (by omega) (by omega) (by omega) (by omega) (fun env M' e0 e1 e13 => ?_)
      obtain ⟨p1, p2, _, _, _⟩ := sp
      generalize partLoop ltT a (i2 + 1) k (Go.Sort.swp d1 i2 (k + 1)) = r at *
      simp (config := { maxSteps := 1000000 }) (disch := omega) only [go_sem, ↓reduceIte, Nat.reduceEqDiff, Nat.reduceAdd, Int.reduceToNat, reduceCtorEq, Nat.reduceLeDiff, Nat.reduceSub, Nat.reduceDiv, Nat.reduceMod, Nat.reduceMul, at_t, swp_t, ordt_lt, gc_t, size_swp, arr_len, Int.add_sub_cancel, Int.natCast_mul, tn1, tnA, tnB, tnC, tnD, tnE, e0, e1, e13]
    · by_cases e : t = i2
      · subst e
        rw [Go.Sort.swp_left _ _ _ (by omega) (by omega), Go.Sort.swp_other _ _ _ _ (by omega) (by omega)]
        have := k4 (by omega) (by omega)
        simpa using this
      · rw [Go.Sort.swp_other _ _ _ _ (by omega) (by omega), Go.Sort.swp_other _ _ _ _ (by omega) (by omega)]
        exact h3 t (by omega) (by omega)
    · rw [Go.Sort.swp_other _ _ _ a (by omega) (by omega)]
      by_cases e : t = k + 1
      · subst e
        rw [Go.Sort.swp_right _ _ _ (by omega)]
        by_cases e2 : i2 ≤ b - 1
        · exact h4 e2
        · omega
      · rw [Go.Sort.swp_other _ _ _ _ (by omega) (by omega)]
        have := k3 t (by omega) (by omega)
        simpa using this
theorem tql_loop {a : Nat} {M : List Mark} {Q : AX → St → Prop} : ∀ (n i j : Nat) (d : Array Ky), j + 1 - i ≤ n → a < i → i ≤ j + 1 → j < d.size → d.size ≤ 1000000 →
    (∀ env M', lk env 11 = .int .i64 (((partEqLoop ltT a i j d).1 : Nat) : Int) → Q (.exit 0) ⟨env, [.row false (kys ((partEqLoop ltT a i j d).2).toList)], 1, M'⟩) →
    Ev tab (.loop d1068_b0) (tpqS ((0, 1, [0, 1, 4, 11, 12], [(0, 0)]) :: M) a i j d) Q := by
  intro n
  induction n with
  | zero =>
    intro i j d hn ha hij hj hs hq
    rw [Go.Sort.partEqLoop_eq] at hq
    have h1 := Go.Sort.scanUp_ge (fun x => !ltT d[a]! x) d j i
    obtain ⟨_, h1', _, _⟩ := Go.Sort.scanUp_spec (fun x => !ltT d[a]! x) d j _ i rfl
    have h2 := Go.Sort.scanDown_le (fun x => ltT d[a]! x) d (scanUp (fun x => !ltT d[a]! x) d j i) j
    rw [if_pos (by omega)] at hq
    refine Ev_stop ?_
    simp (config := { maxSteps := 1000000 }) (disch := omega) only [go_sem, ↓reduceIte, Nat.reduceEqDiff, Nat.reduceAdd, Int.reduceToNat, reduceCtorEq, Nat.reduceLeDiff, Nat.reduceSub, Nat.reduceDiv, Nat.reduceMod, Nat.reduceMul, at_t, swp_t, ordt_lt, gc_t, size_swp, arr_len, Int.add_sub_cancel, Int.natCast_mul, tn1, tnA, tnB, tnC, tnD, tnE, d1068_b0, tpqS]
    refine tqup _ i rfl (by omega) hj (by omega) hs (fun env e0 e1 e4 e12 e13 => ?_)
    generalize scanUp (fun x => !ltT d[a]! x) d j i = i2 at *
    simp (config := { maxSteps := 1000000 }) (disch := omega) only [go_sem, ↓reduceIte, Nat.reduceEqDiff, Nat.reduceAdd, Int.reduceToNat, reduceCtorEq, Nat.reduceLeDiff, Nat.reduceSub, Nat.reduceDiv, Nat.reduceMod, Nat.reduceMul, at_t, swp_t, ordt_lt, gc_t, size_swp, arr_len, Int.add_sub_cancel, Int.natCast_mul, tn1, tnA, tnB, tnC, tnD, tnE, e0, e1, e4, e12, e13]
    refine tqdn (i := i2) j (by omega) (by omega) hj (by omega) hs (fun env e0 e1 e4 e12 e13 => ?_)
    generalize scanDown (fun x => ltT d[a]! x) d i2 j = j2 at *
    simp (config := { maxSteps := 1000000 }) (disch := omega) only [go_sem, ↓reduceIte, Nat.reduceEqDiff, Nat.reduceAdd, Int.reduceToNat, reduceCtorEq, Nat.reduceLeDiff, Nat.reduceSub, Nat.reduceDiv, Nat.reduceMod, Nat.reduceMul, at_t, swp_t, ordt_lt, gc_t, size_swp, arr_len, Int.add_sub_cancel, Int.natCast_mul, tn1, tnA, tnB, tnC, tnD, tnE, e0, e1, e4, e12, e13]
    exact hq _ _ rfl
  | succ n ih =>
    intro i j d hn ha hij hj hs hq
    rw [Go.Sort.partEqLoop_eq] at hq
    have h1 := Go.Sort.scanUp_ge (fun x => !ltT d[a]! x) d j i
    obtain ⟨_, h1', _, _⟩ := Go.Sort.scanUp_spec (fun x => !ltT d[a]! x) d j _ i rfl
    have h2 := Go.Sort.scanDown_le (fun x => ltT d[a]! x) d (scanUp (fun x => !ltT d[a]! x) d j i) j
    by_cases hc : scanUp (fun x => !ltT d[a]! x) d j i > scanDown (fun x => ltT d[a]! x) d (scanUp (fun x => !ltT d[a]! x) d j i) j
    · rw [if_pos hc] at hq
      refine Ev_stop ?_
      simp (config := { maxSteps := 1000000 }) (disch := omega) only [go_sem, ↓reduceIte, Nat.reduceEqDiff, Nat.reduceAdd, Int.reduceToNat, reduceCtorEq, Nat.reduceLeDiff, Nat.reduceSub, Nat.reduceDiv, Nat.reduceMod, Nat.reduceMul, at_t, swp_t, ordt_lt, gc_t, size_swp, arr_len, Int.add_sub_cancel, Int.natCast_mul, tn1, tnA, tnB, tnC, tnD, tnE, d1068_b0, tpqS]
      refine tqup _ i rfl (by omega) hj (by omega) hs (fun env e0 e1 e4 e12 e13 => ?_)
      generalize scanUp (fun x => !ltT d[a]! x) d j i = i2 at *
      simp (config := { maxSteps := 1000000 }) (disch := omega) only [go_sem, ↓reduceIte, Nat.reduceEqDiff, Nat.reduceAdd, Int.reduceToNat, reduceCtorEq, Nat.reduceLeDiff, Nat.reduceSub, Nat.reduceDiv, Nat.reduceMod, Nat.reduceMul, at_t, swp_t, ordt_lt, gc_t, size_swp, arr_len, Int.add_sub_cancel, Int.natCast_mul, tn1, tnA, tnB, tnC, tnD, tnE, e0, e1, e4, e12, e13]
      refine tqdn (i := i2) j (by omega) (by omega) hj (by omega) hs (fun env e0 e1 e4 e12 e13 => ?_)
      generalize scanDown (fun x => ltT d[a]! x) d i2 j = j2 at *
      simp (config := { maxSteps := 1000000 }) (disch := omega) only [go_sem, ↓reduceIte, Nat.reduceEqDiff, Nat.reduceAdd, Int.reduceToNat, reduceCtorEq, Nat.reduceLeDiff, Nat.reduceSub, Nat.reduceDiv, Nat.reduceMod, Nat.reduceMul, at_t, swp_t, ordt_lt, gc_t, size_swp, arr_len, Int.add_sub_cancel, Int.natCast_mul, tn1, tnA, tnB, tnC, tnD, tnE, e0, e1, e4, e12, e13]
      exact hq _ _ rfl
    · rw [if_neg hc] at hq
      have hne : scanUp (fun x => !ltT d[a]! x) d j i ≠ scanDown (fun x => ltT d[a]! x) d (scanUp (fun x => !ltT d[a]! x) d j i) j := fun e => by
        have u4 := (Go.Sort.scanUp_spec (fun x => !ltT d[a]! x) d j _ i rfl).2.2.2 (by omega)
        have v4 := (Go.Sort.scanDown_spec (fun x => ltT d[a]! x) d (scanUp (fun x => !ltT d[a]! x) d j i) j).2.2.2 (by omega) (by omega)
        rw [← e] at v4
        (try simp only at u4 v4)
        rw [v4] at u4; cases u4
      refine Ev_step (st' := tpqS ((0, 1, [0, 1, 4, 11, 12], [(0, 0)]) :: M) a (scanUp (fun x => !ltT d[a]! x) d j i + 1) (scanDown (fun x => ltT d[a]! x) d (scanUp (fun x => !ltT d[a]! x) d j i) j - 1) (Go.Sort.swp d (scanUp (fun x => !ltT d[a]! x) d j i) (scanDown (fun x => ltT d[a]! x) d (scanUp (fun x => !ltT d[a]! x) d j i) j))) ?_ (ih _ _ _ (by omega) (by omega) (by omega) (by rw [size_swp]; omega) (by rw [size_swp]; exact hs) hq)
      clear hq ih
      simp (config := { maxSteps := 1000000 }) (disch := omega) only [go_sem, ↓reduceIte, Nat.reduceEqDiff, Nat.reduceAdd, Int.reduceToNat, reduceCtorEq, Nat.reduceLeDiff, Nat.reduceSub, Nat.reduceDiv, Nat.reduceMod, Nat.reduceMul, at_t, swp_t, ordt_lt, gc_t, size_swp, arr_len, Int.add_sub_cancel, Int.natCast_mul, tn1, tnA, tnB, tnC, tnD, tnE, d1068_b0, tpqS]
      refine tqup _ i rfl (by omega) hj (by omega) hs (fun env e0 e1 e4 e12 e13 => ?_)
      generalize scanUp (fun x => !ltT d[a]! x) d j i = i2 at *
      simp (config := { maxSteps := 1000000 }) (disch := omega) only [go_sem, ↓reduceIte, Nat.reduceEqDiff, Nat.reduceAdd, Int.reduceToNat, reduceCtorEq, Nat.reduceLeDiff, Nat.reduceSub, Nat.reduceDiv, Nat.reduceMod, Nat.reduceMul, at_t, swp_t, ordt_lt, gc_t, size_swp, arr_len, Int.add_sub_cancel, Int.natCast_mul, tn1, tnA, tnB, tnC, tnD, tnE, e0, e1, e4, e12, e13]
      refine tqdn (i := i2) j (by omega) (by omega) hj (by omega) hs (fun env e0 e1 e4 e12 e13 => ?_)
      generalize scanDown (fun x => ltT d[a]! x) d i2 j = j2 at *
      obtain ⟨k, rfl⟩ : ∃ k, j2 = k + 1 := ⟨j2 - 1, by omega⟩
      simp (config := { maxSteps := 1000000 }) (disch := omega) only [go_sem, ↓reduceIte, Nat.reduceEqDiff, Nat.reduceAdd, Int.reduceToNat, reduceCtorEq, Nat.reduceLeDiff, Nat.reduceSub, Nat.reduceDiv, Nat.reduceMod, Nat.reduceMul, at_t, swp_t, ordt_lt, gc_t, size_swp, arr_len, Int.add_sub_cancel, Int.natCast_mul, tn1, tnA, tnB, tnC, tnD, tnE, e0, e1, e4, e12, e13, Nat.add_sub_cancel]
theorem tpeq_run {a b pivot : Nat} {d : Array Ky} (ha : a ≤ pivot) (hp : pivot < b) (hb : b ≤ d.size) (hs : d.size ≤ 1000000) : runP tab 1068 [.own 3 0, .int .i64 (a : Int), .int .i64 (b : Int), .int .i64 (pivot : Int), .clo 1053 [] []] [.row false (kys d.toList)] =
    some (.int .i64 ((partitionEqual ltT d a b pivot).1 : Int), [.row false (kys ((partitionEqual ltT d a b pivot).2).toList)]) := by
  refine runP_fn t1068 rfl ?_
  have q : (b : Int) - 1 = ((b - 1 : Nat) : Int) := by omega
  simp (config := { maxSteps := 1000000 }) (disch := omega) only [go_sem, ↓reduceIte, Nat.reduceEqDiff, Nat.reduceAdd, Int.reduceToNat, reduceCtorEq, Nat.reduceLeDiff, Nat.reduceSub, Nat.reduceDiv, Nat.reduceMod, Nat.reduceMul, at_t, swp_t, ordt_lt, gc_t, size_swp, arr_len, Int.add_sub_cancel, Int.natCast_mul, tn1, tnA, tnB, tnC, tnD, tnE, d1068, q]
  rw [partitionEqual]
  have sz := size_swp d a pivot
  generalize Go.Sort.swp d a pivot = d1 at *
  refine tql_loop _ (a + 1) (b - 1) d1 (Nat.le_refl _) (by omega) (by omega) (by omega) (by omega) (fun env M' e11 => ?_)
  generalize partEqLoop ltT a (a + 1) (b - 1) d1 = r at *
  simp (config := { maxSteps := 1000000 }) (disch := omega) only [go_sem, ↓reduceIte, Nat.reduceEqDiff, Nat.reduceAdd, Int.reduceToNat, reduceCtorEq, Nat.reduceLeDiff, Nat.reduceSub, Nat.reduceDiv, Nat.reduceMod, Nat.reduceMul, at_t, swp_t, ordt_lt, gc_t, size_swp, arr_len, Int.add_sub_cancel, Int.natCast_mul, tn1, tnA, tnB, tnC, tnD, tnE, e11]
end Go.Proofs.Ythpgaecloecflaa
