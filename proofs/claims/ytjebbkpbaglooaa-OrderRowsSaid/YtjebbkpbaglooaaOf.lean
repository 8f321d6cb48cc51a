/- Layer 11: Turns. -/
import Derived.Test.YtjebbkpbaglooaaOe
namespace Go.Proofs.Ytjebbkpbaglooaa
set_option linter.unusedSimpArgs false
set_option linter.unusedVariables false
set_option maxHeartbeats 4000000
set_option maxRecDepth 100000
def ixI (l : List Int) (x : Int) : Nat := l.findIdx (· == x)
theorem ixI_lt {l : List Int} {x : Int} (h : x ∈ l) : ixI l x < l.length := List.findIdx_lt_length_of_exists ⟨x, h, by simp⟩
theorem ixI_at {l : List Int} {x : Int} (h : x ∈ l) : l.getD (ixI l x) 0 = x := by
  have h1 := ixI_lt h
  have := List.findIdx_getElem (p := (· == x)) (xs := l) (w := h1)
  rw [List.getD_eq_getElem?_getD, List.getElem?_eq_getElem h1]
  exact eq_of_beq this
theorem ixI_before {l : List Int} {x : Int} {i : Nat} (h : i < ixI l x) : l.getD i 0 ≠ x := by
  have h1 : i < l.length := Nat.lt_of_lt_of_le h List.findIdx_le_length
  have := List.not_of_lt_findIdx h
  rw [List.getD_eq_getElem?_getD, List.getElem?_eq_getElem h1]
  simpa using this
theorem nodup_at {l : List Int} (hd : l.Nodup) {i j : Nat} (hi : i < l.length) (hj : j < l.length) (h : l.getD i 0 = l.getD j 0) : i = j := by
  rw [List.getD_eq_getElem?_getD, List.getD_eq_getElem?_getD, List.getElem?_eq_getElem hi, List.getElem?_eq_getElem hj] at h
  have h : l[i] = l[j] := h
  have hp := List.pairwise_iff_getElem.1 hd
  rcases Nat.lt_trichotomy i j with q | q | q
  · exact absurd h (hp i j hi hj q)
  · exact q
  · exact absurd h.symm (hp j i hj hi q)
theorem ixI_of {l : List Int} (hd : l.Nodup) {i : Nat} (h : i < l.length) : ixI l (l.getD i 0) = i := by
  have hm : l.getD i 0 ∈ l := getD_mem h
  exact nodup_at hd (ixI_lt hm) h (ixI_at hm)
def rankR : List Int → List Int → Nat
  | _, [] => 0
  | left, x :: l => ixI left x * fac l.length + rankR (left.take (ixI left x) ++ left.drop (ixI left x + 1)) l
theorem rest_nodup {l : List Int} (hd : l.Nodup) {a : Nat} (h : a < l.length) : (l.take a ++ l.drop (a + 1)).Nodup := by
  have := ((pick_perm h).nodup_iff).2 hd
  exact (List.nodup_cons.1 this).2
theorem rank_nth : ∀ {m : Nat} {left : List Int} {k : Nat}, left.length = m → left.Nodup → k < fac m → rankR left (nthR m left k) = k
  | 0, left, k, hl, hd, hk => by
    rw [nthR, rankR]
    simp only [fac] at hk
    omega
  | m + 1, left, k, hl, hd, hk => by
    have h1 := div_lt hk
    have h2 : k / fac m < left.length := by omega
    rw [nthR, rankR, ixI_of hd h2, nthR_len]
    rw [rank_nth (m := m) (by rw [List.length_append, List.length_take, List.length_drop, hl]; omega) (rest_nodup hd h2) (Nat.mod_lt _ (fac_pos m))]
    have := Nat.div_add_mod k (fac m)
    rw [Nat.mul_comm] at this
    exact this
theorem rank_lt : ∀ {l left : List Int}, l.Perm left → rankR left l < fac l.length
  | [], left, h => by rw [rankR]; exact fac_pos 0
  | x :: l, left, h => by
    have hm : x ∈ left := h.mem_iff.1 (by simp)
    have h1 := ixI_lt hm
    have h2 := ixI_at hm
    have hp := pick_perm h1
    rw [h2] at hp
    have h3 : l.Perm (left.take (ixI left x) ++ left.drop (ixI left x + 1)) := (h.trans hp.symm).cons_inv
    have h4 := rank_lt h3
    have h5 : ixI left x ≤ l.length := by
      have := h.length_eq
      rw [List.length_cons] at this
      omega
    rw [rankR, List.length_cons, fac, Nat.mul_succ]
    have h6 : ixI left x * fac l.length ≤ fac l.length * l.length := by
      rw [Nat.mul_comm]
      exact Nat.mul_le_mul_left _ h5
    omega
theorem nth_rank : ∀ {l left : List Int}, l.Perm left → nthR l.length left (rankR left l) = l
  | [], left, h => rfl
  | x :: l, left, h => by
    have hm : x ∈ left := h.mem_iff.1 (by simp)
    have h1 := ixI_lt hm
    have h2 := ixI_at hm
    have hp := pick_perm h1
    rw [h2] at hp
    have h3 : l.Perm (left.take (ixI left x) ++ left.drop (ixI left x + 1)) := (h.trans hp.symm).cons_inv
    have h4 := rank_lt h3
    have e1 : (ixI left x * fac l.length + rankR (left.take (ixI left x) ++ left.drop (ixI left x + 1)) l) / fac l.length = ixI left x := by
      rw [Nat.mul_comm, Nat.mul_add_div (fac_pos _), Nat.div_eq_of_lt h4, Nat.add_zero]
    have e2 : (ixI left x * fac l.length + rankR (left.take (ixI left x) ++ left.drop (ixI left x + 1)) l) % fac l.length = rankR (left.take (ixI left x) ++ left.drop (ixI left x + 1)) l := by
      rw [Nat.mul_comm, Nat.mul_add_mod, Nat.mod_eq_of_lt h4]
    rw [List.length_cons, nthR, rankR, e1, e2, h2, nth_rank h3]
def tst (l : List Int) : Nat → List Int × Nat
  | 0 => (upI l.length, 0)
  | i + 1 => let s := tst l i
    let a := ixI s.1 (l.getD i 0)
    (s.1.take a ++ s.1.drop (a + 1), s.2 + a * fac (l.length - 1 - i))
theorem tst_spec {l : List Int} (h : l.Perm (upI l.length)) : ∀ {i : Nat}, i ≤ l.length → (l.drop i).Perm (tst l i).1 ∧ (tst l i).2 + rankR (tst l i).1 (l.drop i) = rankR (upI l.length) l
  | 0, _ => ⟨h, by rw [tst, List.drop_zero]; simp⟩
  | i + 1, hi => by
    obtain ⟨h1, h2⟩ := tst_spec h (i := i) (by omega)
    have e : l.drop i = l.getD i 0 :: l.drop (i + 1) := by
      rw [List.getD_eq_getElem?_getD, List.getElem?_eq_getElem (show i < l.length by omega)]
      exact List.drop_eq_getElem_cons (by omega)
    rw [e] at h1 h2
    have hm : l.getD i 0 ∈ (tst l i).1 := h1.mem_iff.1 (by simp)
    have hp := pick_perm (ixI_lt hm)
    rw [ixI_at hm] at hp
    simp only [tst]
    refine ⟨(h1.trans hp.symm).cons_inv, ?_⟩
    rw [← h2, rankR, List.length_drop, show l.length - (i + 1) = l.length - 1 - i by omega]
    omega
theorem tst_le {l : List Int} (h : l.Perm (upI l.length)) {i : Nat} (hi : i ≤ l.length) : (tst l i).2 < fac l.length := by
  have h1 := (tst_spec h hi).2
  have h2 := rank_lt h
  omega
theorem index_run {l : List Int} {x : Int} (hb : l.length ≤ 1000000) (hx : x ∈ l) : runP tab 1026 [.sl 1 (ints l), .int .i64 x] [] = some (.int .i64 (ixI l x), []) := by
  have h1 := ixI_lt hx
  have h2 := ixI_at hx
  refine runP_fn t1026 rfl ?_
  simp (config := { maxSteps := 1000000 }) (disch := omega) only [go_sem, ↓reduceIte, Nat.reduceEqDiff, Nat.reduceAdd, Int.reduceToNat, reduceCtorEq, Nat.reduceLeDiff, Nat.reduceSub, Nat.reduceDiv, Nat.reduceMod, Nat.reduceMul, d1026]
  refine Ev_loop0 (fun i => ⟨[(0, .sl 1 (ints l)), (1, .int .i64 x), (7, .int .i64 l.length), (8, .int .i64 (i : Int))], [], 0, [(0, 0, [0, 1, 7, 8], [])]⟩) (ixI l x) rfl (fun i hi => ?_) ?_
  · have q : x ≠ l.getD i 0 := fun e => ixI_before hi e.symm
    simp (config := { maxSteps := 1000000 }) (disch := omega) only [go_sem, ↓reduceIte, Nat.reduceEqDiff, Nat.reduceAdd, Int.reduceToNat, reduceCtorEq, Nat.reduceLeDiff, Nat.reduceSub, Nat.reduceDiv, Nat.reduceMod, Nat.reduceMul, d1026_b0]
  · simp (config := { maxSteps := 1000000 }) (disch := omega) only [go_sem, ↓reduceIte, Nat.reduceEqDiff, Nat.reduceAdd, Int.reduceToNat, reduceCtorEq, Nat.reduceLeDiff, Nat.reduceSub, Nat.reduceDiv, Nat.reduceMod, Nat.reduceMul, d1026_b0]
noncomputable def turA (l : List Int) : AV := if l.length ≤ 12 ∧ isO l = true then .tup [.int .i64 (rankR (upI l.length) l), .int .i64 0] else .tup [.int .i64 0, .int .i64 1]
def turS (l : List Int) (i : Nat) : St := ⟨[(0, .sl 1 (ints l)), (4, .int .i64 (l.length : Int)), (5, .own 1 0), (6, .int .i64 ((tst l i).2 : Int)), (21, .int .i64 (l.length : Int)), (22, .int .i64 (i : Int))], [.row false (ints (tst l i).1)], 0, [(0, 1, [0, 4, 5, 6, 21, 22], [(5, 0)])]⟩
theorem tur_step {l : List Int} (h : l.Perm (upI l.length)) (hn : l.length ≤ 12) {i : Nat} (hi : i < l.length) : Ev tab d1183_b0 (turS l i) (fun x st => x = .normal ∧ st = turS l (i + 1)) := by
  obtain ⟨p1, p2⟩ := tst_spec h (i := i) (by omega)
  have e : l.drop i = l.getD i 0 :: l.drop (i + 1) := by
    rw [List.getD_eq_getElem?_getD, List.getElem?_eq_getElem hi]
    exact List.drop_eq_getElem_cons hi
  have hm : l.getD i 0 ∈ (tst l i).1 := p1.mem_iff.1 (by rw [e]; simp)
  have hl := p1.length_eq
  rw [List.length_drop] at hl
  have ha := ixI_lt hm
  have gi := index_run (by omega) hm
  have g := orders_run (n := l.length - 1 - i) (by omega)
  have e0 : (l.length : Int) - 1 - (i : Int) = ((l.length - 1 - i : Nat) : Int) := by omega
  have ht := tst_le h (i := i + 1) (by omega)
  have hf := fac_le hn
  have g3 := deli_run (l := (tst l i).1) (i := ixI (tst l i).1 (l.getD i 0)) ha (by omega)
  have h5 := delN_len ha
  have h6 := delN_take ha
  simp only [tst] at ht
  simp only [turS, tst]
  generalize ixI (tst l i).1 (l.getD i 0) = a at *
  generalize fac (l.length - 1 - i) = f at *
  have e1 : ((a * f : Nat) : Int) = (a : Int) * (f : Int) := Int.natCast_mul _ _
  have hle : a * f ≤ 479001600 := by omega
  have e2 : ((((tst l i).2 + a * f : Nat)) : Int) = ((tst l i).2 : Int) + (a : Int) * (f : Int) := by rw [Int.natCast_add, e1]
  rw [e2]
  have m1 : (0 : Int) ≤ (a : Int) * (f : Int) := by rw [← e1]; omega
  have m2 : (a : Int) * (f : Int) ≤ 479001600 := by rw [← e1]; omega
  have m3 : ((tst l i).2 : Int) + (a : Int) * (f : Int) ≤ 479001600 := by rw [← e2]; omega
  generalize (tst l i).1 = L at *
  generalize (tst l i).2 = t at *
  have w1 : (L.length - 1) * 1 ≤ (ints (delN L a)).length := by rw [ints_length, h5]; omega
  simp (disch := first | exact w1 | omega) only [go_sem, ↓reduceIte, Nat.reduceEqDiff, Nat.reduceAdd, Int.reduceToNat, reduceCtorEq, Nat.reduceLeDiff, Nat.reduceSub, Nat.reduceDiv, Nat.reduceMod, Nat.reduceMul, d1183_b0, gi, e0, g, g3, h5, h6, ghost_whole, whA_osl, whH_row]
theorem turns_run {l : List Int} (hb : l.length ≤ 1000000) : runP tab 1183 [.sl 1 (ints l)] [] = some (turA l, []) := by
  refine runP_fn t1183 rfl ?_
  unfold turA
  have g := isord_run (n := (l.length : Int)) hb
  rw [isN_self] at g
  by_cases h1 : l.length ≤ 12
  · cases ho : isO l with
    | false =>
      rw [ho] at g
      rw [if_neg (by simp)]
      simp (config := { maxSteps := 1000000 }) (disch := omega) only [go_sem, ↓reduceIte, Nat.reduceEqDiff, Nat.reduceAdd, Int.reduceToNat, reduceCtorEq, Nat.reduceLeDiff, Nat.reduceSub, Nat.reduceDiv, Nat.reduceMod, Nat.reduceMul, d1183, g]
    | true =>
      rw [ho] at g
      rw [if_pos ⟨h1, rfl⟩]
      have h : OrdL l := by simpa [isO] using ho
      have hp := ordL_perm.1 h
      have g2 := first_run (n := l.length) (by omega)
      have hu := upI_len l.length
      simp (config := { maxSteps := 1000000 }) (disch := omega) only [go_sem, ↓reduceIte, Nat.reduceEqDiff, Nat.reduceAdd, Int.reduceToNat, reduceCtorEq, Nat.reduceLeDiff, Nat.reduceSub, Nat.reduceDiv, Nat.reduceMod, Nat.reduceMul, d1183, g, g2]
      refine Ev_loop0 (turS l) l.length rfl (fun i hi => tur_step hp h1 hi) ?_
      obtain ⟨q1, q2⟩ := tst_spec hp (i := l.length) (Nat.le_refl _)
      rw [List.drop_length] at q1 q2
      rw [rankR, Nat.add_zero] at q2
      simp only [turS]
      rw [← q2]
      generalize (tst l l.length).1 = L at *
      generalize (tst l l.length).2 = t at *
      have hl := q1.length_eq
      simp (config := { maxSteps := 1000000 }) (disch := omega) only [go_sem, ↓reduceIte, Nat.reduceEqDiff, Nat.reduceAdd, Int.reduceToNat, reduceCtorEq, Nat.reduceLeDiff, Nat.reduceSub, Nat.reduceDiv, Nat.reduceMod, Nat.reduceMul, d1183_b0]
  · rw [if_neg (fun h => h1 h.1)]
    simp (config := { maxSteps := 1000000 }) (disch := omega) only [go_sem, ↓reduceIte, Nat.reduceEqDiff, Nat.reduceAdd, Int.reduceToNat, reduceCtorEq, Nat.reduceLeDiff, Nat.reduceSub, Nat.reduceDiv, Nat.reduceMod, Nat.reduceMul, d1183]
end Go.Proofs.Ytjebbkpbaglooaa
