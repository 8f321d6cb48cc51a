/- Layer 11: the document's Turns, Nth. -/
import Derived.Test.YtjebbkpbaglooaaOj
namespace Go.Proofs.Ytjebbkpbaglooaa
set_option linter.unusedSimpArgs false
set_option linter.unusedVariables false
set_option maxHeartbeats 4000000
set_option maxRecDepth 100000
def lssN (l : List Int) (x : Int) : Nat := l.countP fun y => decide (y < x)
theorem ix_lss : ∀ {l : List Int} {x : Int}, l.Pairwise (· < ·) → x ∈ l → ixI l x = lssN l x
  | y :: l, x, hp, hx => by
    have hp2 := List.pairwise_cons.1 hp
    unfold ixI lssN
    rw [List.findIdx_cons, List.countP_cons]
    by_cases h : y = x
    · subst h
      have : l.countP (fun z => decide (z < y)) = 0 := List.countP_eq_zero.2 fun z hz => by have := hp2.1 z hz; simp; omega
      simp [this]
    · have hx2 : x ∈ l := by
        rcases List.mem_cons.1 hx with e | e
        · exact absurd e.symm h
        · exact e
      have h3 := hp2.1 x hx2
      have ih := ix_lss hp2.2 hx2
      unfold ixI lssN at ih
      have hb : (y == x) = false := by simpa using h
      rw [hb, ih]
      simp [h3]
theorem tst_lss {l : List Int} (h : l.Perm (upI l.length)) {i : Nat} (hi : i < l.length) : ixI (tst l i).1 (l.getD i 0) = lssN (l.drop (i + 1)) (l.getD i 0) := by
  obtain ⟨p1, p2⟩ := tst_spec h (i := i) (by omega)
  have e : l.drop i = l.getD i 0 :: l.drop (i + 1) := by
    rw [List.getD_eq_getElem?_getD, List.getElem?_eq_getElem hi]
    exact List.drop_eq_getElem_cons hi
  have hm : l.getD i 0 ∈ (tst l i).1 := p1.mem_iff.1 (by rw [e]; simp)
  rw [ix_lss (tst_inc l i) hm, lssN, ← p1.countP_eq, e, List.countP_cons]
  simp [lssN]
theorem lss_succ {l : List Int} {x : Int} {i : Nat} (hi : i < l.length) : lssN (l.take (i + 1)) x = lssN (l.take i) x + (if l.getD i 0 < x then 1 else 0) := by
  rw [lssN, take_snoc 0 hi, List.countP_append, List.countP_singleton]
  simp [lssN]
theorem lss_le (l : List Int) (x : Int) : lssN l x ≤ l.length := List.countP_le_length
def rtuS (l : List Int) (i : Nat) : St := ⟨[(0, .sl 1 (ints l)), (4, .int .i64 ((tst l i).2 : Int)), (5, .int .i64 (i : Int))], [], 0, [(0, 0, [0, 4, 5], [])]⟩
def rtuI (l : List Int) (t i j : Nat) : St := ⟨[(0, .sl 1 (ints l)), (4, .int .i64 (t : Int)), (5, .int .i64 (i : Int)), (6, .int .i64 (lssN ((l.drop (i + 1)).take j) (l.getD i 0) : Int)), (7, .int .i64 ((i : Int) + 1 + (j : Int)))], [], 0, [(1, 0, [0, 4, 5, 6, 7], []), (0, 0, [0, 4, 5], [])]⟩
theorem rtu_num {l : List Int} {t i j : Nat} (hn : l.length ≤ 12) (hj : j < l.length - (i + 1)) : Ev tab d1184_b1 (rtuI l t i j) (fun x st => x = .normal ∧ st = rtuI l t i (j + 1)) := by
  have h1 := lss_le ((l.drop (i + 1)).take j) (l.getD i 0)
  rw [List.length_take, List.length_drop] at h1
  have hd : (l.drop (i + 1)).getD j 0 = l.getD (i + 1 + j) 0 := by
    rw [List.getD_eq_getElem?_getD, List.getElem?_drop, ← List.getD_eq_getElem?_getD]
  have e7 : (i : Int) + 1 + ((j + 1 : Nat) : Int) = (i : Int) + 1 + (j : Int) + 1 := by omega
  have t7 : ((i : Int) + 1 + (j : Int)).toNat = i + 1 + j := by omega
  simp only [rtuI, lss_succ (show j < (l.drop (i + 1)).length by rw [List.length_drop]; exact hj), hd, e7]
  generalize lssN ((l.drop (i + 1)).take j) (l.getD i 0) = c at *
  by_cases h : l.getD (i + 1 + j) 0 < l.getD i 0
  · rw [if_pos h]
    have e : ((c + 1 : Nat) : Int) = (c : Int) + 1 := by omega
    rw [e]
    simp (config := { maxSteps := 1000000 }) (disch := omega) only [go_sem, ↓reduceIte, Nat.reduceEqDiff, Nat.reduceAdd, Int.reduceToNat, reduceCtorEq, Nat.reduceLeDiff, Nat.reduceSub, Nat.reduceDiv, Nat.reduceMod, Nat.reduceMul, d1184_b1, t7, h]
  · rw [if_neg h]
    simp (config := { maxSteps := 1000000 }) (disch := omega) only [go_sem, ↓reduceIte, Nat.reduceEqDiff, Nat.reduceAdd, Int.reduceToNat, reduceCtorEq, Nat.reduceLeDiff, Nat.reduceSub, Nat.reduceDiv, Nat.reduceMod, Nat.reduceMul, d1184_b1, t7, h, Nat.add_zero]
theorem rturns_run {l : List Int} (hb : l.length ≤ 1000) : runP tab 1184 [.sl 1 (ints l)] [] = some (turA l, []) := by
  refine runP_fn t1184 rfl ?_
  unfold turA
  have g := risord_run (n := (l.length : Int)) hb
  rw [isN_self] at g
  by_cases h1 : l.length ≤ 12
  · cases ho : isO l with
    | false =>
      rw [ho] at g
      rw [if_neg (by simp)]
      simp (config := { maxSteps := 1000000 }) (disch := omega) only [go_sem, ↓reduceIte, Nat.reduceEqDiff, Nat.reduceAdd, Int.reduceToNat, reduceCtorEq, Nat.reduceLeDiff, Nat.reduceSub, Nat.reduceDiv, Nat.reduceMod, Nat.reduceMul, d1184, g]
    | true =>
      rw [ho] at g
      rw [if_pos ⟨h1, rfl⟩]
      have h : OrdL l := by simpa [isO] using ho
      have hp := ordL_perm.1 h
      have hf := fac_le h1
      simp (config := { maxSteps := 1000000 }) (disch := omega) only [go_sem, ↓reduceIte, Nat.reduceEqDiff, Nat.reduceAdd, Int.reduceToNat, reduceCtorEq, Nat.reduceLeDiff, Nat.reduceSub, Nat.reduceDiv, Nat.reduceMod, Nat.reduceMul, d1184, g]
      refine Ev_loop0 (rtuS l) l.length rfl (fun i hi => ?_) ?_
      · have ht := tst_le hp (i := i + 1) (by omega)
        have ht0 := tst_le hp (i := i) (by omega)
        have g2 := rmany_run (n := l.length - 1 - i) (by omega)
        have e0 : (l.length : Int) - 1 - (i : Int) = ((l.length - 1 - i : Nat) : Int) := by omega
        have hls := tst_lss hp hi
        simp only [tst] at ht
        simp only [rtuS, tst]
        rw [hls] at ht ⊢
        have hle := lss_le (l.drop (i + 1)) (l.getD i 0)
        rw [List.length_drop] at hle
        simp (config := { maxSteps := 1000000 }) (disch := omega) only [go_sem, ↓reduceIte, Nat.reduceEqDiff, Nat.reduceAdd, Int.reduceToNat, reduceCtorEq, Nat.reduceLeDiff, Nat.reduceSub, Nat.reduceDiv, Nat.reduceMod, Nat.reduceMul, d1184_b0]
        refine Ev_loop0 (rtuI l (tst l i).2 i) (l.length - (i + 1)) (by simp [rtuI, lssN]) (fun j hj => rtu_num h1 hj) ?_
        have hall : (l.drop (i + 1)).take (l.length - (i + 1)) = l.drop (i + 1) := List.take_of_length_le (by rw [List.length_drop]; exact Nat.le_refl _)
        simp only [rtuI, hall]
        generalize lssN (l.drop (i + 1)) (l.getD i 0) = a at *
        generalize (tst l i).2 = t at *
        generalize fac (l.length - 1 - i) = f at *
        have e1 : ((a * f : Nat) : Int) = (a : Int) * (f : Int) := Int.natCast_mul _ _
        have e2 : ((t + a * f : Nat) : Int) = (t : Int) + (a : Int) * (f : Int) := by rw [Int.natCast_add, e1]
        rw [e1]
        have m1 : (0 : Int) ≤ (a : Int) * (f : Int) := by rw [← e1]; omega
        have m2 : (a : Int) * (f : Int) ≤ 479001600 := by rw [← e1]; omega
        have m3 : (t : Int) + (a : Int) * (f : Int) ≤ 479001600 := by rw [← e2]; omega
        simp (config := { maxSteps := 1000000 }) (disch := omega) only [go_sem, ↓reduceIte, Nat.reduceEqDiff, Nat.reduceAdd, Int.reduceToNat, reduceCtorEq, Nat.reduceLeDiff, Nat.reduceSub, Nat.reduceDiv, Nat.reduceMod, Nat.reduceMul, d1184_b1, e0, g2]
      · obtain ⟨q1, q2⟩ := tst_spec hp (i := l.length) (Nat.le_refl _)
        rw [List.drop_length] at q1 q2
        rw [rankR, Nat.add_zero] at q2
        simp only [rtuS]
        rw [← q2]
        generalize (tst l l.length).2 = t at *
        simp (config := { maxSteps := 1000000 }) (disch := omega) only [go_sem, ↓reduceIte, Nat.reduceEqDiff, Nat.reduceAdd, Int.reduceToNat, reduceCtorEq, Nat.reduceLeDiff, Nat.reduceSub, Nat.reduceDiv, Nat.reduceMod, Nat.reduceMul, d1184_b0]
  · rw [if_neg (fun h => h1 h.1)]
    simp (config := { maxSteps := 1000000 }) (disch := omega) only [go_sem, ↓reduceIte, Nat.reduceEqDiff, Nat.reduceAdd, Int.reduceToNat, reduceCtorEq, Nat.reduceLeDiff, Nat.reduceSub, Nat.reduceDiv, Nat.reduceMod, Nat.reduceMul, d1184]
def rnS (k : Nat) (left o : List Int) : St := ⟨[(1, .int .i64 (k : Int)), (6, .own 1 0), (8, .own 1 1)], [.row false (ints left), .row false (ints o)], 0, [(1, 2, [1, 6, 8], [(6, 0), (8, 1)]), (0, 1, [0, 1, 6, 7], [(6, 0)])]⟩
theorem rnth_loop {Q : AX → St → Prop} : ∀ (m k : Nat) (left o : List Int), left.length = m → m ≤ 12 → o.length + m ≤ 12 → k < fac m →
    (∀ q, Ev tab d1182_b1 (rnS q [] (o ++ nthR m left k)) (fun x st => x ≠ .normal ∧ Q x st)) → Ev tab (.loop d1182_b1) (rnS k left o) Q
  | 0, k, left, o, hl, hm, ho, hk, hq => by
    have := List.eq_nil_of_length_eq_zero hl
    subst this
    refine Ev_stop ?_
    have := hq k
    rwa [nthR, List.append_nil] at this
  | m + 1, k, left, o, hl, hm, ho, hk, hq => by
    have h1 := div_lt hk
    have hf := fac_le hm
    have fp := fac_pos m
    refine Ev_step (st' := rnS (k % fac m) (left.take (k / fac m) ++ left.drop (k / fac m + 1)) (o ++ [left.getD (k / fac m) 0])) ?_ (rnth_loop m (k % fac m) _ _ (by rw [List.length_append, List.length_take, List.length_drop, hl]; omega) (by omega) (by simp; omega) (Nat.mod_lt _ fp) (fun q => ?_))
    · have g := rmany_run (n := m) (by omega)
      have e0 : (left.length : Int) - 1 = (m : Int) := by omega
      have e1 : (k : Int).tdiv (fac m : Int) = ((k / fac m : Nat) : Int) := rfl
      have e2 : (k : Int).tmod (fac m : Int) = ((k % fac m : Nat) : Int) := rfl
      have hd : k / fac m ≤ k := Nat.div_le_self _ _
      have hd2 : k % fac m ≤ k := Nat.mod_le _ _
      generalize k / fac m = a at *
      generalize k % fac m = b at *
      generalize fac m = f at *
      simp (config := { maxSteps := 1000000 }) (disch := omega) only [go_sem, ↓reduceIte, Nat.reduceEqDiff, Nat.reduceAdd, Int.reduceToNat, reduceCtorEq, Nat.reduceLeDiff, Nat.reduceSub, Nat.reduceDiv, Nat.reduceMod, Nat.reduceMul, d1182_b1, rnS, e0, g, e1, e2, tn1]
    · have := hq q
      rw [nthR] at this
      simpa using this
theorem rnth_run {n k : Int} (hn : I64 n) (hk : I64 k) : runP tab 1182 [.int .i64 n, .int .i64 k] [] = some (nthA n k, []) := by
  refine runP_fn t1182 rfl ?_
  obtain ⟨n1, n2⟩ := hn
  obtain ⟨k1, k2⟩ := hk
  unfold nthA
  by_cases h1 : n < 0
  · rw [if_neg (by omega)]
    simp (config := { maxSteps := 1000000 }) (disch := omega) only [go_sem, ↓reduceIte, Nat.reduceEqDiff, Nat.reduceAdd, Int.reduceToNat, reduceCtorEq, Nat.reduceLeDiff, Nat.reduceSub, Nat.reduceDiv, Nat.reduceMod, Nat.reduceMul, d1182]
  by_cases h2 : 12 < n
  · rw [if_neg (by omega)]
    simp (config := { maxSteps := 1000000 }) (disch := omega) only [go_sem, ↓reduceIte, Nat.reduceEqDiff, Nat.reduceAdd, Int.reduceToNat, reduceCtorEq, Nat.reduceLeDiff, Nat.reduceSub, Nat.reduceDiv, Nat.reduceMod, Nat.reduceMul, d1182]
  by_cases h3 : k < 0
  · rw [if_neg (by omega)]
    simp (config := { maxSteps := 1000000 }) (disch := omega) only [go_sem, ↓reduceIte, Nat.reduceEqDiff, Nat.reduceAdd, Int.reduceToNat, reduceCtorEq, Nat.reduceLeDiff, Nat.reduceSub, Nat.reduceDiv, Nat.reduceMod, Nat.reduceMul, d1182]
  obtain ⟨n, rfl⟩ := Int.eq_ofNat_of_zero_le (show 0 ≤ n by omega)
  obtain ⟨k, rfl⟩ := Int.eq_ofNat_of_zero_le (show 0 ≤ k by omega)
  have g := rmany_run (n := n) (by omega)
  have hf := fac_le (n := n) (by omega)
  simp only [Int.toNat_natCast]
  by_cases h4 : k < fac n
  · rw [if_pos (by omega)]
    simp (config := { maxSteps := 1000000 }) (disch := omega) only [go_sem, ↓reduceIte, Nat.reduceEqDiff, Nat.reduceAdd, Int.reduceToNat, reduceCtorEq, Nat.reduceLeDiff, Nat.reduceSub, Nat.reduceDiv, Nat.reduceMod, Nat.reduceMul, d1182, g]
    refine Ev_loop0 (fun i => ⟨[(0, .int .i64 (n : Int)), (1, .int .i64 (k : Int)), (6, .own 1 0), (7, .int .i64 (i : Int))], [.row false (ints (upI i))], 0, [(0, 1, [0, 1, 6, 7], [(6, 0)])]⟩) n rfl (fun i hi => ?_) ?_
    · rw [upI_succ]
      have hle := upI_len i
      simp (config := { maxSteps := 1000000 }) (disch := omega) only [go_sem, ↓reduceIte, Nat.reduceEqDiff, Nat.reduceAdd, Int.reduceToNat, reduceCtorEq, Nat.reduceLeDiff, Nat.reduceSub, Nat.reduceDiv, Nat.reduceMod, Nat.reduceMul, d1182_b0]
    · have hu := upI_len n
      have hz := nthR_len n (upI n) k
      simp (config := { maxSteps := 1000000 }) (disch := omega) only [go_sem, ↓reduceIte, Nat.reduceEqDiff, Nat.reduceAdd, Int.reduceToNat, reduceCtorEq, Nat.reduceLeDiff, Nat.reduceSub, Nat.reduceDiv, Nat.reduceMod, Nat.reduceMul, d1182_b0]
      refine rnth_loop n k (upI n) [] hu (by omega) (by simp; omega) h4 (fun q => ?_)
      rw [List.nil_append]
      generalize nthR n (upI n) k = L at *
      simp (config := { maxSteps := 1000000 }) (disch := omega) only [go_sem, ↓reduceIte, Nat.reduceEqDiff, Nat.reduceAdd, Int.reduceToNat, reduceCtorEq, Nat.reduceLeDiff, Nat.reduceSub, Nat.reduceDiv, Nat.reduceMod, Nat.reduceMul, d1182_b1, rnS]
  · rw [if_neg (by omega)]
    simp (config := { maxSteps := 1000000 }) (disch := omega) only [go_sem, ↓reduceIte, Nat.reduceEqDiff, Nat.reduceAdd, Int.reduceToNat, reduceCtorEq, Nat.reduceLeDiff, Nat.reduceSub, Nat.reduceDiv, Nat.reduceMod, Nat.reduceMul, d1182, g]
end Go.Proofs.Ytjebbkpbaglooaa
