/- Layer 17: TurnOrders. -/
import Derived.Test.YtimiedahbmfkhaaZn
import Derived.Test.YtimiedahbmfkhaaZi
import Derived.Test.YtimiedahbmfkhaaZk
import Derived.Test.YtimiedahbmfkhaaZl
namespace Go.Proofs.Ytimiedahbmfkhaa
set_option linter.unusedSimpArgs false
set_option linter.unusedVariables false
set_option maxHeartbeats 4000000
set_option maxRecDepth 100000
theorem owV_noimm (l : List (List Int)) : allL pnoimm (owV l) = true := by
  induction l with
  | nil => rfl
  | cons a l ih => simp only [owV, List.map_cons, allL] at ih ⊢; rw [ih]; simp [rwV, AV.allv, pnoimm]; exact flat_noimmL (ints_flat a)
theorem ocV_pkset2 {n id : Nat} {hp : List Blk} (hn : n ≤ id) : ∀ {R : List (List Int)} {u : Nat} {r : List Int}, u < R.length → r ≠ [] → hp[id]? = some (.row false (ints r)) → pkL n hp ((ocV R).set u (.own 1 id)) = some (ocV (R.set u r), hp.set id .dead)
  | [], _, _, h, _, _ => by simp at h
  | x :: R, 0, r, _, hne, hb => by
    show pkL n hp (.own 1 id :: ocV R) = some (rcV r :: ocV R, _)
    have hnl : ¬ id < n := by omega
    simp only [pkL, pk, if_neg hnl, hb, ints_noid, if_true, Option.bind_some, ocV_pk, Option.map_some]
    rw [rcV, if_neg hne]
  | x :: R, u + 1, r, h, hne, hb => by
    have ih := ocV_pkset2 hn (R := R) (u := u) (r := r) (by simpa using h) hne hb
    have ex : pk n hp (rcV x) = some (rcV x, hp) := by unfold rcV; split <;> rfl
    show pkL n hp (rcV x :: (ocV R).set u (.own 1 id)) = some (rcV x :: ocV (R.set u r), _)
    simp only [pkL, ex, Option.bind_some, ih, Option.map_some]
def sevM (l : List Ml) : Nat → List Ml
  | 0 => l
  | i + 1 => (sevM l i).set i { (sevM l i).getD i default with d := -7 }
theorem sevM_len (l : List Ml) : ∀ i, (sevM l i).length = l.length
  | 0 => rfl
  | i + 1 => by rw [sevM, List.length_set, sevM_len l i]
def sevI (l : List Int) : Nat → List Int
  | 0 => l
  | i + 1 => (sevI l i).set i (-7)
theorem sevI_len (l : List Int) : ∀ i, (sevI l i).length = l.length
  | 0 => rfl
  | i + 1 => by rw [sevI, List.length_set, sevI_len l i]
def sevR (D : List (List Int)) : Nat → List (List Int)
  | 0 => D
  | i + 1 => (sevR D i).set i (sevI ((sevR D i).getD i []) ((sevR D i).getD i []).length)
theorem sevR_len (D : List (List Int)) : ∀ i, (sevR D i).length = D.length
  | 0 => rfl
  | i + 1 => by rw [sevR, List.length_set, sevR_len D i]
def ordEr (n : Int) : Int := if n < 0 ∨ 1000 < n then 1 else 0
def ordL (n : Int) (p : List Int) : List Int := if n < 0 ∨ 1000 < n then [] else ordd p (upI n.toNat)
theorem ordA_eq (n : Int) (p : List Int) : ordA n p = .tup [.vec 1 (ints (ordL n p)), .int .i64 (ordEr n)] := by
  unfold ordA ordL ordEr; split <;> rfl
def tS0 (p : List Int) (l : List Ml) (O : List Int) (X : List Ml) (D : List (List Int)) (i : Nat) : St := ⟨[(2, .sl 1 (ints p)), (3, .sl 4 (mls l)), (11, .own 1 0), (12, .own 4 1), (21, .own 4 4), (23, .own 1 6), (25, .bool true), (26, .int .i64 (i : Int))], [.row false (ints p), .row false (mls l), .row false (ints O), .row false (ints O), .row false (mls (sevM X i)), .row false (mls X), .row false (ocV D), .row false (owV D)], 0, [(0, 8, [2, 3, 11, 12, 21, 23, 25, 26], [(11, 0), (12, 1), (21, 4), (23, 6)])]⟩
theorem t_step0 {p : List Int} {l : List Ml} {O : List Int} {X : List Ml} {D : List (List Int)} {i : Nat} (hX : X.length ≤ 100) (hi : i < X.length) : Ev tab d1106_b0 (tS0 p l O X D i) (fun x st => x = .normal ∧ st = tS0 p l O X D (i + 1)) := by
  have hl := sevM_len X i
  have hs := mls_set3 (l := sevM X i) (i := i) (x := -7) (by omega)
  simp only [tS0, sevM]
  generalize sevM X i = Y at *
  simp (config := { maxSteps := 1000000 }) (disch := omega) only [go_sem, ↓reduceIte, Nat.reduceEqDiff, Nat.reduceAdd, Int.reduceToNat, reduceCtorEq, Nat.reduceLeDiff, Nat.reduceSub, Nat.reduceDiv, Nat.reduceMod, Nat.reduceMul, d1106_b0, hs]
def tS1 (p : List Int) (l : List Ml) (O : List Int) (X Y : List Ml) (D R : List (List Int)) (j : Nat) : St := ⟨[(2, .sl 1 (ints p)), (3, .sl 4 (mls l)), (11, .own 1 0), (12, .own 4 1), (23, .own 1 6), (25, .bool true), (27, .int .i64 (j : Int))], [.row false (ints p), .row false (mls l), .row false (ints O), .row false (ints O), .row false (mls Y), .row false (mls X), .row false (ocV R), .row false (owV D)], 0, [(1, 8, [2, 3, 11, 12, 23, 25, 27], [(11, 0), (12, 1), (23, 6)]), (0, 8, [2, 3, 11, 12, 21, 23, 25, 26], [(11, 0), (12, 1), (21, 4), (23, 6)])]⟩
def tS2 (p : List Int) (l : List Ml) (O : List Int) (X Y : List Ml) (D R : List (List Int)) (j k : Nat) : St := ⟨[(2, .sl 1 (ints p)), (3, .sl 4 (mls l)), (11, .own 1 0), (12, .own 4 1), (23, .own 1 6), (25, .bool true), (27, .int .i64 (j : Int)), (28, .int .i64 (k : Int))], [.row false (ints p), .row false (mls l), .row false (ints O), .row false (ints O), .row false (mls Y), .row false (mls X), .row false (ocV R), .row false (owV D)], 0, [(2, 8, [2, 3, 11, 12, 23, 25, 27, 28], [(11, 0), (12, 1), (23, 6)]), (1, 8, [2, 3, 11, 12, 23, 25, 27], [(11, 0), (12, 1), (23, 6)]), (0, 8, [2, 3, 11, 12, 21, 23, 25, 26], [(11, 0), (12, 1), (21, 4), (23, 6)])]⟩
theorem set_cut1 {X : List AV} {u : Nat} {x : AV} (h : u < X.length) : ((X.set u x).drop u).take 1 = [x] := by
  rw [List.drop_eq_getElem_cons (by simpa using h), List.getElem_set_self]; rfl
theorem t_step2 {p : List Int} {l : List Ml} {O : List Int} {X Y : List Ml} {D R : List (List Int)} {j k : Nat} (hR : R.length ≤ 100) (hj : j < R.length) {r : List Int} (hr : R.getD j [] = r) (hrl : r.length ≤ 200) (hk : k < r.length) : Ev tab d1106_b2 (tS2 p l O X Y D R j k) (fun x st => x = .normal ∧ st = tS2 p l O X Y D (R.set j (r.set k (-7))) j (k + 1)) := by
  have hne : r ≠ [] := by rintro rfl; simp at hk
  have hne2 : r.set k (-7) ≠ [] := by intro h; have := congrArg List.length h; simp at this; exact hne (by simpa using this)
  have c1 := ocV_cut (R := R) (u := j) hj
  rw [hr, rcV, if_neg hne] at c1
  have m1 : (ocV R).length = R.length := ocV_len R
  have hP := ocV_pkset2 (n := 8) (id := 8) (hp := [.row false (ints p), .row false (mls l), .row false (ints O), .row false (ints O), .row false (mls Y), .row false (mls X), .dead, .row false (owV D), .row false (ints (r.set k (-7)))]) (by omega) (R := R) (u := j) hj hne2 rfl
  have hI := allL_setno (p := pidlt 8) (x := .own 1 8) rfl (cs := ocV R) (u := j) (by omega)
  have er1 := set_rdc (l := ocV R) (u := j) (x := .own 1 8) (by omega)
  have c2 : ((ocV R).set j (.own 1 8)).length = R.length := by rw [List.length_set, m1]
  simp only [tS2]
  have c3 := set_cut1 (X := ocV R) (u := j) (x := .own 1 8) (by omega)
  have es : ((ocV R).set j (.own 1 8)).set j (.own 1 8) = (ocV R).set j (.own 1 8) := List.set_set ..
  simp (config := { maxSteps := 1000000 }) (disch := omega) only [go_sem, ↓reduceIte, Nat.reduceEqDiff, Nat.reduceAdd, Int.reduceToNat, reduceCtorEq, Nat.reduceLeDiff, Nat.reduceSub, Nat.reduceDiv, Nat.reduceMod, Nat.reduceMul, d1106_b2, c1, er1, hP, hI, c2, c3, es]
theorem row_same {R : List (List Int)} {j : Nat} {r : List Int} (hr : R.getD j [] = r) (hj : j < R.length) : R.set j r = R := by
  rw [← hr, List.getD_eq_getElem?_getD, List.getElem?_eq_getElem hj]; simp
theorem t_step1 {p : List Int} {l : List Ml} {O : List Int} {X Y : List Ml} {D R : List (List Int)} {j : Nat} (hR : R.length ≤ 100) (hj : j < R.length) {r : List Int} (hr : R.getD j [] = r) (hrl : r.length ≤ 200) : Ev tab d1106_b1 (tS1 p l O X Y D R j) (fun x st => x = .normal ∧ st = tS1 p l O X Y D (R.set j (sevI r r.length)) (j + 1)) := by
  have m0 := ocV_len R
  simp only [tS1]
  simp (config := { maxSteps := 1000000 }) (disch := omega) only [go_sem, ↓reduceIte, Nat.reduceEqDiff, Nat.reduceAdd, Int.reduceToNat, reduceCtorEq, Nat.reduceLeDiff, Nat.reduceSub, Nat.reduceDiv, Nat.reduceMod, Nat.reduceMul, d1106_b1]
  have hs : R.set j (sevI r 0) = R := row_same hr hj
  refine Ev_loop0 (fun k => tS2 p l O X Y D (R.set j (sevI r k)) j k) r.length (by simp only [tS2, hs]; rfl) (fun k hk => ?_) ?_
  · have hg : (R.set j (sevI r k)).getD j [] = sevI r k := by
      rw [List.getD_eq_getElem?_getD, List.getElem?_set_self hj]; rfl
    have := t_step2 (p := p) (l := l) (O := O) (X := X) (Y := Y) (D := D) (R := R.set j (sevI r k)) (j := j) (k := k) (by simpa using hR) (by simpa using hj) hg (by rw [sevI_len]; exact hrl) (by rw [sevI_len]; exact hk)
    rw [List.set_set] at this
    exact this
  · have hq := sevI_len r r.length
    have hg : (R.set j (sevI r r.length)).getD j [] = sevI r r.length := by
      rw [List.getD_eq_getElem?_getD, List.getElem?_set_self hj]; rfl
    have hl2 : (R.set j (sevI r r.length)).length = R.length := by simp
    generalize R.set j (sevI r r.length) = S at *
    generalize sevI r r.length = q at *
    have c1 := ocV_cut (R := S) (u := j) (by omega)
    rw [hg] at c1
    have m1 : (ocV S).length = S.length := ocV_len S
    simp only [tS2]
    by_cases hne : q = []
    · subst hne
      have hr0 : r.length = 0 := by rw [← hq]; rfl
      rw [hr0]
      rw [rcV, if_pos rfl] at c1
      have es : (ocV S).set j .nils = ocV S := by
        have := ocV_self (R := S) (u := j) (by omega)
        rw [hg, rcV, if_pos rfl] at this
        exact this
      have er1 := set_rdc (l := ocV S) (u := j) (x := .nils) (by omega)
      rw [es] at er1
      simp (config := { maxSteps := 1000000 }) (disch := omega) only [go_sem, ↓reduceIte, Nat.reduceEqDiff, Nat.reduceAdd, Int.reduceToNat, reduceCtorEq, Nat.reduceLeDiff, Nat.reduceSub, Nat.reduceDiv, Nat.reduceMod, Nat.reduceMul, d1106_b2, c1, es, er1]
    · rw [rcV, if_neg hne] at c1
      have hP := ocV_pkset2 (n := 8) (id := 8) (hp := [.row false (ints p), .row false (mls l), .row false (ints O), .row false (ints O), .row false (mls Y), .row false (mls X), .dead, .row false (owV D), .row false (ints q)]) (by omega) (R := S) (u := j) (by omega) hne rfl
      rw [row_same hg (by omega)] at hP
      have hI := allL_setno (p := pidlt 8) (x := .own 1 8) rfl (cs := ocV S) (u := j) (by omega)
      have er1 := set_rdc (l := ocV S) (u := j) (x := .own 1 8) (by omega)
      simp (config := { maxSteps := 1000000 }) (disch := omega) only [go_sem, ↓reduceIte, Nat.reduceEqDiff, Nat.reduceAdd, Int.reduceToNat, reduceCtorEq, Nat.reduceLeDiff, Nat.reduceSub, Nat.reduceDiv, Nat.reduceMod, Nat.reduceMul, d1106_b2, c1, er1, hP, hI, hq]
theorem sevR_row (D : List (List Int)) : ∀ (j i : Nat), ((sevR D j).getD i []).length = (D.getD i []).length
  | 0, _ => rfl
  | j + 1, i => by
    have ih := sevR_row D j
    rw [sevR]
    by_cases h : j = i
    · subst h
      by_cases h2 : j < (sevR D j).length
      · rw [List.getD_eq_getElem?_getD, List.getElem?_set_self h2]
        show (sevI ((sevR D j).getD j []) _).length = _
        rw [sevI_len, ih]
      · rw [List.set_eq_of_length_le (by omega), ih]
    · rw [List.getD_eq_getElem?_getD, List.getElem?_set_ne h, ← List.getD_eq_getElem?_getD, ih]
theorem torders_run {n k m : Int} {p : List Int} {l : List Ml} (hn : I64 n) (hk : I64 k) (hm : I64 m) (hp : p.length ≤ 9223372036854775807) (hl : l.length ≤ 9223372036854775807) (hpi : ∀ x ∈ p, I64 x) : runP tab 1106 [.int .i64 n, .int .i64 k, .sl 1 (ints p), .sl 4 (mls l), .int .i64 m] [] = some (.bool true, []) := by
  refine runP_fn t1106 rfl ?_
  have hn0 := hn
  have hm0 := hm
  have hk0 := hk
  obtain ⟨n1, n2⟩ := hn
  obtain ⟨m1, m2⟩ := hm
  have gt := turns_run
  by_cases h1 : 100 < n ∧ n ≤ 1000
  · obtain ⟨h1, h2⟩ := h1
    simp (config := { maxSteps := 1000000 }) (disch := omega) only [go_sem, ↓reduceIte, Nat.reduceEqDiff, Nat.reduceAdd, Int.reduceToNat, reduceCtorEq, Nat.reduceLeDiff, Nat.reduceSub, Nat.reduceDiv, Nat.reduceMod, Nat.reduceMul, d1106]
  by_cases h3 : 150 < p.length
  · by_cases h4 : 100 < n
    · simp (config := { maxSteps := 1000000 }) (disch := omega) only [go_sem, ↓reduceIte, Nat.reduceEqDiff, Nat.reduceAdd, Int.reduceToNat, reduceCtorEq, Nat.reduceLeDiff, Nat.reduceSub, Nat.reduceDiv, Nat.reduceMod, Nat.reduceMul, d1106]
    · simp (config := { maxSteps := 1000000 }) (disch := omega) only [go_sem, ↓reduceIte, Nat.reduceEqDiff, Nat.reduceAdd, Int.reduceToNat, reduceCtorEq, Nat.reduceLeDiff, Nat.reduceSub, Nat.reduceDiv, Nat.reduceMod, Nat.reduceMul, d1106]
  by_cases h5 : 100 < l.length
  · by_cases h4 : 100 < n
    · simp (config := { maxSteps := 1000000 }) (disch := omega) only [go_sem, ↓reduceIte, Nat.reduceEqDiff, Nat.reduceAdd, Int.reduceToNat, reduceCtorEq, Nat.reduceLeDiff, Nat.reduceSub, Nat.reduceDiv, Nat.reduceMod, Nat.reduceMul, d1106]
    · simp (config := { maxSteps := 1000000 }) (disch := omega) only [go_sem, ↓reduceIte, Nat.reduceEqDiff, Nat.reduceAdd, Int.reduceToNat, reduceCtorEq, Nat.reduceLeDiff, Nat.reduceSub, Nat.reduceDiv, Nat.reduceMod, Nat.reduceMul, d1106]
  have g1 := owni_run (l := p) (by omega)
  have g2 := ownm_run (l := l) (by omega)
  have g3 := pick_run hn0 hk0
  have g4 := rpick_run hn0 hk0
  have g5 := order_run hn0 (by omega : p.length ≤ 1000000) hpi
  have g6 := rorder_run hn0 (by omega : p.length ≤ 1000000) hpi
  rw [ordA_eq] at g5 g6
  have g7 := mails_run (l := l) (p := p) (by omega) (by omega) hpi
  have g8 := rmails_run (l := l) (p := p) (by omega) (by omega) hpi
  have g9 := deal_run' hm0 (by omega : p.length ≤ 1000000)
  have g10 := rdeal_run hm0 (by omega : p.length ≤ 1000000)
  have hO : (ordL n p).length ≤ 1000 := by
    unfold ordL; split
    · simp
    · rw [ordd_len, upI_len]; omega
  have g11 := ints_run (a := ordL n p) (b := ordL n p) (by omega) (by omega)
  rw [beq_self_eq_true] at g11
  have hX : (ordd p l).length = l.length := ordd_len p l
  have g12 := same16_run (a := ordd p l) (b := ordd p l) (by omega) (by omega)
  rw [decide_eq_true rfl] at g12
  have hD := dD_len (p := p) (m := m)
  have hDr := dD_row p m
  have g13 := same06_run (D := dD p m) (by omega) (fun i => by have := hDr i; omega)
  generalize ordL n p = O at *
  generalize ordEr n = e at *
  generalize ordd p l = X at *
  generalize dD p m = D at *
  generalize pckI n k = a at *
  have hpk : ∀ (b : Bool), (b == b) = true := fun b => beq_self_eq_true b
  have hdec : ∀ x : Int, decide (x = x) = true := fun x => decide_eq_true rfl
  by_cases h4 : 100 < n
  · simp (config := { maxSteps := 1000000 }) (disch := omega) only [go_sem, ↓reduceIte, Nat.reduceEqDiff, Nat.reduceAdd, Int.reduceToNat, reduceCtorEq, Nat.reduceLeDiff, Nat.reduceSub, Nat.reduceDiv, Nat.reduceMod, Nat.reduceMul, d1106, g1, g2, g3, g4, g5, g6, g7, g8, g9, g10, g11, g12, g13, hpk, hdec, owV_noimm]
    refine Ev_loop0 (tS0 p l O X D) X.length rfl (fun i hi => t_step0 (by omega) hi) ?_
    have hlm := sevM_len X X.length
    simp only [tS0]
    generalize sevM X X.length = Y at *
    simp (config := { maxSteps := 1000000 }) (disch := omega) only [go_sem, ↓reduceIte, Nat.reduceEqDiff, Nat.reduceAdd, Int.reduceToNat, reduceCtorEq, Nat.reduceLeDiff, Nat.reduceSub, Nat.reduceDiv, Nat.reduceMod, Nat.reduceMul, d1106_b0]
    refine Ev_loop0 (fun j => tS1 p l O X Y D (sevR D j) j) D.length rfl (fun j hj => ?_) ?_
    · have q1 := sevR_len D j
      have q2 := sevR_row D j j
      have q3 := hDr j
      exact t_step1 (by omega) (by omega) rfl (by omega)
    · have q1 := sevR_len D D.length
      have q2 : (ocV (sevR D D.length)).length = D.length := by rw [ocV_len, q1]
      have g14 := ints_run (a := p) (b := p) (by omega) (by omega)
      rw [beq_self_eq_true] at g14
      have g15 := same16_run (a := l) (b := l) (by omega) (by omega)
      rw [decide_eq_true rfl] at g15
      simp only [tS1]
      generalize sevR D D.length = R at *
      simp (config := { maxSteps := 1000000 }) (disch := omega) only [go_sem, ↓reduceIte, Nat.reduceEqDiff, Nat.reduceAdd, Int.reduceToNat, reduceCtorEq, Nat.reduceLeDiff, Nat.reduceSub, Nat.reduceDiv, Nat.reduceMod, Nat.reduceMul, d1106_b1, gt, g14, g15]
  · simp (config := { maxSteps := 1000000 }) (disch := omega) only [go_sem, ↓reduceIte, Nat.reduceEqDiff, Nat.reduceAdd, Int.reduceToNat, reduceCtorEq, Nat.reduceLeDiff, Nat.reduceSub, Nat.reduceDiv, Nat.reduceMod, Nat.reduceMul, d1106, g1, g2, g3, g4, g5, g6, g7, g8, g9, g10, g11, g12, g13, hpk, hdec, owV_noimm]
    refine Ev_loop0 (tS0 p l O X D) X.length rfl (fun i hi => t_step0 (by omega) hi) ?_
    have hlm := sevM_len X X.length
    simp only [tS0]
    generalize sevM X X.length = Y at *
    simp (config := { maxSteps := 1000000 }) (disch := omega) only [go_sem, ↓reduceIte, Nat.reduceEqDiff, Nat.reduceAdd, Int.reduceToNat, reduceCtorEq, Nat.reduceLeDiff, Nat.reduceSub, Nat.reduceDiv, Nat.reduceMod, Nat.reduceMul, d1106_b0]
    refine Ev_loop0 (fun j => tS1 p l O X Y D (sevR D j) j) D.length rfl (fun j hj => ?_) ?_
    · have q1 := sevR_len D j
      have q2 := sevR_row D j j
      have q3 := hDr j
      exact t_step1 (by omega) (by omega) rfl (by omega)
    · have q1 := sevR_len D D.length
      have q2 : (ocV (sevR D D.length)).length = D.length := by rw [ocV_len, q1]
      have g14 := ints_run (a := p) (b := p) (by omega) (by omega)
      rw [beq_self_eq_true] at g14
      have g15 := same16_run (a := l) (b := l) (by omega) (by omega)
      rw [decide_eq_true rfl] at g15
      simp only [tS1]
      generalize sevR D D.length = R at *
      simp (config := { maxSteps := 1000000 }) (disch := omega) only [go_sem, ↓reduceIte, Nat.reduceEqDiff, Nat.reduceAdd, Int.reduceToNat, reduceCtorEq, Nat.reduceLeDiff, Nat.reduceSub, Nat.reduceDiv, Nat.reduceMod, Nat.reduceMul, d1106_b1, gt, g14, g15]
end Go.Proofs.Ytimiedahbmfkhaa
