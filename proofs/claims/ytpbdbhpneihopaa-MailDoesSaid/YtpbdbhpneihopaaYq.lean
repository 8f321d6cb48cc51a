/- Layer 16: the document's Combine and Split; MailDoes. -/
import Derived.Test.YtpbdbhpneihopaaYo
import Derived.Test.YtpbdbhpneihopaaYp
namespace Go.Proofs.Ytpbdbhpneihopaa
set_option linter.unusedSimpArgs false
set_option linter.unusedVariables false
set_option maxHeartbeats 4000000
set_option maxRecDepth 100000
def rwV (l : List Ml) : AV := .vec 4 (mls l)
def rwL (l : List Ml) : AV := .sl 4 (mls l)
def owV (l : List (List Ml)) : List AV := l.map rwV
def owS (l : List (List Ml)) : List AV := l.map rwL
theorem owV_len (l : List (List Ml)) : (owV l).length = l.length := by simp [owV]
theorem owS_len (l : List (List Ml)) : (owS l).length = l.length := by simp [owS]
theorem owV_noid' (l : List (List Ml)) : allL pnoid (owV l) = true := by
  induction l with
  | nil => rfl
  | cons a l ih => simp only [owV, List.map_cons, allL] at ih ⊢; rw [ih]; simp [rwV, AV.allv, pnoid, mls_noid', allL]
theorem owS_noid' (l : List (List Ml)) : allL pnoid (owS l) = true := by
  induction l with
  | nil => rfl
  | cons a l ih => simp only [owS, List.map_cons, allL] at ih ⊢; rw [ih]; simp [rwL, AV.allv, pnoid, mls_noid', allL]
theorem owV_frz' (l : List (List Ml)) : mapL frz1 (owV l) = owS l := by
  induction l with
  | nil => rfl
  | cons a l ih => simp only [owV, owS, List.map_cons, mapL] at ih ⊢; rw [ih]; simp [rwV, rwL, AV.mapv, frz1, mls_frz']
theorem owV_okc (l : List (List Ml)) : (owV l).all AV.okc = true := by
  induction l with
  | nil => rfl
  | cons a l ih => simp only [owV, List.map_cons, List.all_cons] at ih ⊢; rw [ih]; rfl
theorem owS_okc (l : List (List Ml)) : (owS l).all AV.okc = true := by
  induction l with
  | nil => rfl
  | cons a l ih => simp only [owS, List.map_cons, List.all_cons] at ih ⊢; rw [ih]; rfl
theorem owV_ids (l : List (List Ml)) : idsL (owV l) = [] := noidL_ids _ (owV_noid' l)
theorem owV_idlt' (n : Nat) (l : List (List Ml)) : allL (pidlt n) (owV l) = true := idltL_noid _ (owV_noid' l)
theorem owV_ren' (f : Nat → Nat) (l : List (List Ml)) : mapL (ren1 f) (owV l) = owV l := renL_noid _ (owV_noid' l)
theorem owS_ids (l : List (List Ml)) : idsL (owS l) = [] := noidL_ids _ (owS_noid' l)
theorem owS_idlt' (n : Nat) (l : List (List Ml)) : allL (pidlt n) (owS l) = true := idltL_noid _ (owS_noid' l)
theorem owS_ren' (f : Nat → Nat) (l : List (List Ml)) : mapL (ren1 f) (owS l) = owS l := renL_noid _ (owS_noid' l)
theorem owS_at {l : List (List Ml)} {i : Nat} (h : i < l.length) : rdc ((owS l).drop i) none = some (.sl 4 (mls (l.getD i []))) := by
  rw [owS, ← List.map_drop, List.drop_eq_getElem_cons h, List.getD_eq_getElem?_getD, List.getElem?_eq_getElem h]; rfl
theorem owV_snoc (l : List (List Ml)) (x : List Ml) : owV l ++ [.vec 4 (mls x)] = owV (l ++ [x]) := by simp [owV, rwV]
attribute [go_sem] owV_len owS_len owV_noid' owS_noid' owV_frz' owV_okc owS_okc owV_ids owV_idlt' owV_ren' owS_ids owS_idlt' owS_ren'
theorem put_run {L : List Ml} {x : Ml} (hL : L.length ≤ 100000) : runP tab 1620 [.sl 4 (mls L), .agg (mlC x)] [] = some (.vec 4 (mls (putM L x)), []) := by
  refine runP_fn t1620 rfl ?_
  have lL := mls_len L
  have lLd : L.length * 4 / 4 = L.length := by omega
  have hle := preN_le (kyM x) L
  have hlt := fun i => preN_lt (k := kyM x) (l := L) (i := i)
  have hat := preN_at (k := kyM x) (l := L)
  have hq : ∀ i, i < L.length → rdc (mls (L.drop i)) (some 3) = some (.agg [.int .i64 (L.getD i default).s, .int .i64 (L.getD i default).b, .int .i64 (L.getD i default).v]) := fun i hi => mls_at3 hi
  have hg : ∀ i, runP tab 1045 [.agg [.int .i64 (L.getD i default).s, .int .i64 (L.getD i default).b, .int .i64 (L.getD i default).v], .agg [.int .i64 x.s, .int .i64 x.b, .int .i64 x.v]] [] = some (.bool (ltT (kyM (L.getD i default)) (kyM x)), []) := fun i => less_run (kyM (L.getD i default)) (kyM x)
  have Lt := mls_len (L.take (preN (kyM x) L))
  rw [List.length_take] at Lt
  have hpm : putM L x = putM L x := rfl
  unfold putM at hpm
  simp only [mlC]
  simp (config := { maxSteps := 1000000 }) (disch := omega) only [go_sem, ↓reduceIte, Nat.reduceEqDiff, Nat.reduceAdd, Int.reduceToNat, reduceCtorEq, Nat.reduceLeDiff, Nat.reduceSub, Nat.reduceDiv, Nat.reduceMod, Nat.reduceMul, d1620]
  refine Ev_loop0 (fun i => ⟨[(0, .sl 4 (mls L)), (3, .ref 0 0), (5, .int .i64 (i : Int))], [.row false [.int .i64 x.s, .int .i64 x.b, .int .i64 x.v, .int .i64 x.d]], 0, [(0, 1, [0, 3, 5], [(3, 0)])]⟩) (preN (kyM x) L) rfl (fun i hi => ?_) ?_
  · have q := hq i (by omega)
    have g := hg i
    rw [hlt i hi] at g
    generalize L.getD i default = y at *
    simp (config := { maxSteps := 1000000 }) (disch := omega) only [go_sem, ↓reduceIte, Nat.reduceEqDiff, Nat.reduceAdd, Int.reduceToNat, reduceCtorEq, Nat.reduceLeDiff, Nat.reduceSub, Nat.reduceDiv, Nat.reduceMod, Nat.reduceMul, d1620_b0, lL, lLd, q, g]
  · by_cases hp : preN (kyM x) L < L.length
    · have q := hq _ hp
      have g := hg (preN (kyM x) L)
      rw [hat hp] at g
      have q3 := mls_rd3 hp
      have ek := ky_eq (L.getD (preN (kyM x) L) default) x
      unfold putM
      by_cases hk : kyM (L.getD (preN (kyM x) L) default) = kyM x
      · rw [if_pos ⟨hp, hk⟩]
        rw [decide_eq_true hk] at ek
        have em : ∀ d : Int, mls (L.take (preN (kyM x) L)) ++ [.int .i64 x.s, .int .i64 x.b, .int .i64 x.v, .int .i64 d] = mls (L.take (preN (kyM x) L) ++ [{ x with d := d }]) := fun d => by rw [← mls_app]; rfl
        generalize L.getD (preN (kyM x) L) default = y at *
        generalize preN (kyM x) L = p at *
        simp (config := { maxSteps := 1000000 }) (disch := omega) only [go_sem, ↓reduceIte, Nat.reduceEqDiff, Nat.reduceAdd, Int.reduceToNat, reduceCtorEq, Nat.reduceLeDiff, Nat.reduceSub, Nat.reduceDiv, Nat.reduceMod, Nat.reduceMul, d1620_b0, lL, lLd, q, g, q3, ek, ky_enc, Lt, em]
        rw [show ((p : Int) + 1).toNat = p + 1 by omega, List.append_assoc, Int.min_def]
        rfl
      · rw [if_neg (fun h => hk h.2)]
        rw [decide_eq_false hk] at ek
        have em : mls (L.take (preN (kyM x) L)) ++ [.int .i64 x.s, .int .i64 x.b, .int .i64 x.v, .int .i64 x.d] = mls (L.take (preN (kyM x) L) ++ [x]) := by rw [← mls_app]; rfl
        generalize L.getD (preN (kyM x) L) default = y at *
        generalize preN (kyM x) L = p at *
        simp (config := { maxSteps := 1000000 }) (disch := omega) only [go_sem, ↓reduceIte, Nat.reduceEqDiff, Nat.reduceAdd, Int.reduceToNat, reduceCtorEq, Nat.reduceLeDiff, Nat.reduceSub, Nat.reduceDiv, Nat.reduceMod, Nat.reduceMul, d1620_b0, lL, lLd, q, g, q3, ek, ky_enc, Lt, em]
        rw [List.append_assoc]
        rfl
    · have em : mls (L.take (preN (kyM x) L)) ++ [.int .i64 x.s, .int .i64 x.b, .int .i64 x.v, .int .i64 x.d] = mls (L.take (preN (kyM x) L) ++ [x]) := by rw [← mls_app]; rfl
      unfold putM
      rw [if_neg (fun h => hp h.1)]
      generalize preN (kyM x) L = p at *
      simp (config := { maxSteps := 1000000 }) (disch := omega) only [go_sem, ↓reduceIte, Nat.reduceEqDiff, Nat.reduceAdd, Int.reduceToNat, reduceCtorEq, Nat.reduceLeDiff, Nat.reduceSub, Nat.reduceDiv, Nat.reduceMod, Nat.reduceMul, d1620_b0, lL, lLd, Lt, em]
      rw [List.append_assoc]
      rfl
theorem cmb_nil : cmb [] = [] := by simp [cmb, kyL, ddK, sorted]
theorem rcmb_run {l : List Ml} (hl : l.length ≤ 60000) : runP tab 1609 [.sl 4 (mls l)] [] = some (.vec 4 (mls (cmb l)), []) := by
  refine runP_fn t1609 rfl ?_
  have L := mls_len l
  have Ld : l.length * 4 / 4 = l.length := by omega
  simp (config := { maxSteps := 1000000 }) (disch := omega) only [go_sem, ↓reduceIte, Nat.reduceEqDiff, Nat.reduceAdd, Int.reduceToNat, reduceCtorEq, Nat.reduceLeDiff, Nat.reduceSub, Nat.reduceDiv, Nat.reduceMod, Nat.reduceMul, d1609]
  refine Ev_loop0 (fun i => ⟨[(0, .sl 4 (mls l)), (3, .own 4 0), (4, .int .i64 (i : Int))], [.row false (mls (cmb (l.take i)))], 0, [(0, 1, [0, 3, 4], [(3, 0)])]⟩) l.length (by rw [List.take_zero, cmb_nil]; rfl) (fun i hi => ?_) ?_
  · have q := mls_at hi
    have c1 := cmb_len (l.take i)
    rw [List.length_take] at c1
    have g := put_run (L := cmb (l.take i)) (x := l.getD i default) (by omega)
    rw [putM_cmb, ← take_snoc default hi] at g
    generalize l.getD i default = m at *
    simp only [mlC] at q g
    simp (config := { maxSteps := 1000000 }) (disch := omega) only [go_sem, ↓reduceIte, Nat.reduceEqDiff, Nat.reduceAdd, Int.reduceToNat, reduceCtorEq, Nat.reduceLeDiff, Nat.reduceSub, Nat.reduceDiv, Nat.reduceMod, Nat.reduceMul, d1609_b0, L, Ld, q, g]
  · rw [List.take_length]
    simp (config := { maxSteps := 1000000 }) (disch := omega) only [go_sem, ↓reduceIte, Nat.reduceEqDiff, Nat.reduceAdd, Int.reduceToNat, reduceCtorEq, Nat.reduceLeDiff, Nat.reduceSub, Nat.reduceDiv, Nat.reduceMod, Nat.reduceMul, d1609_b0, L, Ld]
def dsR (l : List Ml) (w u : Nat) : List (List Ml) := (List.range u).map fun k : Nat => l.filter fun m => decide (hmR m.v w = (k : Int))
theorem dsR_full (l : List Ml) (w : Nat) : dsR l w w = spR l w l.length := by unfold dsR spR; rw [List.take_length]
theorem dsR_len (l : List Ml) (w u : Nat) : (dsR l w u).length = u := by simp [dsR]
theorem dsR_succ (l : List Ml) (w u : Nat) : dsR l w (u + 1) = dsR l w u ++ [l.filter fun m => decide (hmR m.v w = (u : Int))] := by
  unfold dsR
  rw [List.range_succ, List.map_append]; rfl
def dsS (l : List Ml) (w u : Nat) : St := ⟨[(0, .sl 4 (mls l)), (1, .int .i64 (w : Int)), (6, .own 1 0), (7, .int .i64 (u : Int))], [.row false (owV (dsR l w u))], 0, [(0, 1, [0, 1, 6, 7], [(6, 0)])]⟩
theorem ds_step {l : List Ml} {w u : Nat} (hl : l.length ≤ 100000) (hw : 1 ≤ w ∧ w ≤ 16) (hu : u < w) : Ev tab d1611_b0 (dsS l w u) (fun x st => x = .normal ∧ st = dsS l w (u + 1)) := by
  have L := mls_len l
  have Ld : l.length * 4 / 4 = l.length := by omega
  have l1 := dsR_len l w u
  have m1 : (owV (dsR l w u)).length = u := by rw [owV_len]; exact l1
  unfold dsS
  rw [dsR_succ, ← owV_snoc]
  generalize dsR l w u = R at *
  simp (config := { maxSteps := 1000000 }) (disch := omega) only [go_sem, ↓reduceIte, Nat.reduceEqDiff, Nat.reduceAdd, Int.reduceToNat, reduceCtorEq, Nat.reduceLeDiff, Nat.reduceSub, Nat.reduceDiv, Nat.reduceMod, Nat.reduceMul, d1611_b0]
  refine Ev_loop0 (fun i => ⟨[(0, .sl 4 (mls l)), (1, .int .i64 (w : Int)), (6, .own 1 0), (7, .int .i64 (u : Int)), (8, .own 4 1), (9, .int .i64 (i : Int))], [.row false (owV R), .row false (mls ((l.take i).filter fun m => decide (hmR m.v w = (u : Int))))], 0, [(1, 2, [0, 1, 6, 7, 8, 9], [(6, 0), (8, 1)]), (0, 1, [0, 1, 6, 7], [(6, 0)])]⟩) l.length rfl (fun i hi => ?_) ?_
  · have q := mls_at hi
    have q2 : rdc (List.drop 2 (mls (l.drop i))) none = some (.int .i64 (l.getD i default).v) := by rw [mls_open hi]; rfl
    have g := rhome_run (v := (l.getD i default).v) (w := (w : Int))
    have hf := List.length_filter_le (fun m : Ml => decide (hmR m.v w = (u : Int))) (l.take i)
    rw [List.length_take] at hf
    rw [take_snoc default hi, List.filter_append, ← mls_app]
    have Lf := mls_len ((l.take i).filter fun m => decide (hmR m.v w = (u : Int)))
    generalize (l.take i).filter (fun m => decide (hmR m.v w = (u : Int))) = F at *
    generalize l.getD i default = m at *
    simp only [mlC] at q
    by_cases hh : hmR m.v w = (u : Int)
    · rw [List.filter_cons, decide_eq_true hh]
      have em : mls F ++ [.int .i64 m.s, .int .i64 m.b, .int .i64 m.v, .int .i64 m.d] = mls (F ++ [m]) := by rw [← mls_app]; rfl
      have em2 : mls F ++ mls [m] = mls (F ++ [m]) := mls_app _ _
      simp only [if_true, List.filter_nil]
      simp (config := { maxSteps := 1000000 }) (disch := omega) only [go_sem, ↓reduceIte, Nat.reduceEqDiff, Nat.reduceAdd, Int.reduceToNat, reduceCtorEq, Nat.reduceLeDiff, Nat.reduceSub, Nat.reduceDiv, Nat.reduceMod, Nat.reduceMul, d1611_b1, L, Ld, q, q2, g, hh, Lf, em, em2]
    · rw [List.filter_cons, decide_eq_false hh]
      simp only [Bool.false_eq_true, if_false, List.filter_nil, mls_nil, List.append_nil]
      simp (config := { maxSteps := 1000000 }) (disch := omega) only [go_sem, ↓reduceIte, Nat.reduceEqDiff, Nat.reduceAdd, Int.reduceToNat, reduceCtorEq, Nat.reduceLeDiff, Nat.reduceSub, Nat.reduceDiv, Nat.reduceMod, Nat.reduceMul, d1611_b1, L, Ld, q, q2, g, hh, Lf]
  · rw [List.take_length]
    generalize l.filter (fun m => decide (hmR m.v w = (u : Int))) = F at *
    have Lf := mls_len F
    simp (config := { maxSteps := 1000000 }) (disch := omega) only [go_sem, ↓reduceIte, Nat.reduceEqDiff, Nat.reduceAdd, Int.reduceToNat, reduceCtorEq, Nat.reduceLeDiff, Nat.reduceSub, Nat.reduceDiv, Nat.reduceMod, Nat.reduceMul, d1611_b1, L, Ld, m1]
theorem rsplit_run {l : List Ml} {w : Nat} (hl : l.length ≤ 100000) (hw : 1 ≤ w ∧ w ≤ 16) (ho : okMs l = true) : runP tab 1611 [.sl 4 (mls l), .int .i64 (w : Int)] [] = some (.tup [.vec 1 (owV (spR l w l.length)), .int .i64 0], []) := by
  refine runP_fn t1611 rfl ?_
  have gc := rcheck_run (l := l) (by omega)
  rw [ho] at gc
  simp (config := { maxSteps := 1000000 }) (disch := omega) only [go_sem, ↓reduceIte, Nat.reduceEqDiff, Nat.reduceAdd, Int.reduceToNat, reduceCtorEq, Nat.reduceLeDiff, Nat.reduceSub, Nat.reduceDiv, Nat.reduceMod, Nat.reduceMul, d1611, gc]
  refine Ev_loop0 (dsS l w) w rfl (fun i hi => ds_step hl hw hi) ?_
  rw [← dsR_full]
  unfold dsS
  simp (config := { maxSteps := 1000000 }) (disch := omega) only [go_sem, ↓reduceIte, Nat.reduceEqDiff, Nat.reduceAdd, Int.reduceToNat, reduceCtorEq, Nat.reduceLeDiff, Nat.reduceSub, Nat.reduceDiv, Nat.reduceMod, Nat.reduceMul, d1611_b0]
theorem rsplit_bad {l : List Ml} (hl : l.length ≤ 1000000) {w : Int} (h : ¬ (1 ≤ w ∧ w ≤ 16) ∨ okMs l = false) : runP tab 1611 [.sl 4 (mls l), .int .i64 w] [] = some (.tup [.vec 1 [], .int .i64 1], []) := by
  refine runP_fn t1611 rfl ?_
  have gc := rcheck_run hl
  by_cases h1 : w < 1
  · simp (config := { maxSteps := 1000000 }) (disch := omega) only [go_sem, ↓reduceIte, Nat.reduceEqDiff, Nat.reduceAdd, Int.reduceToNat, reduceCtorEq, Nat.reduceLeDiff, Nat.reduceSub, Nat.reduceDiv, Nat.reduceMod, Nat.reduceMul, d1611]
  by_cases h2 : 16 < w
  · simp (config := { maxSteps := 1000000 }) (disch := omega) only [go_sem, ↓reduceIte, Nat.reduceEqDiff, Nat.reduceAdd, Int.reduceToNat, reduceCtorEq, Nat.reduceLeDiff, Nat.reduceSub, Nat.reduceDiv, Nat.reduceMod, Nat.reduceMul, d1611]
  have h3 : okMs l = false := by
    rcases h with h | h
    · omega
    · exact h
  rw [h3] at gc
  simp (config := { maxSteps := 1000000 }) (disch := omega) only [go_sem, ↓reduceIte, Nat.reduceEqDiff, Nat.reduceAdd, Int.reduceToNat, reduceCtorEq, Nat.reduceLeDiff, Nat.reduceSub, Nat.reduceDiv, Nat.reduceMod, Nat.reduceMul, d1611, gc]
theorem same_nn : runP tab 1120 [.sl 1 [], .sl 4 []] [] = some (.bool true, []) := by
  refine runP_fn t1120 rfl ?_
  simp (config := { maxSteps := 1000000 }) (disch := omega) only [go_sem, ↓reduceIte, Nat.reduceEqDiff, Nat.reduceAdd, Int.reduceToNat, reduceCtorEq, Nat.reduceLeDiff, Nat.reduceSub, Nat.reduceDiv, Nat.reduceMod, Nat.reduceMul, d1120]
  refine Ev_loop0 (fun i => ⟨[(0, .sl 1 []), (1, .sl 4 []), (5, .int .i64 (i : Int))], [], 0, [(0, 0, [0, 1, 5], [])]⟩) 0 rfl (fun i hi => absurd hi (Nat.not_lt_zero _)) ?_
  simp (config := { maxSteps := 1000000 }) (disch := omega) only [go_sem, ↓reduceIte, Nat.reduceEqDiff, Nat.reduceAdd, Int.reduceToNat, reduceCtorEq, Nat.reduceLeDiff, Nat.reduceSub, Nat.reduceDiv, Nat.reduceMod, Nat.reduceMul, d1120_b0]
theorem sames_run {R : List (List Ml)} (hR : R.length ≤ 100) (hb : ∀ i, (R.getD i []).length ≤ 100000) : runP tab 1614 [.sl 1 (ocS R), .sl 1 (owS R)] [] = some (.bool true, []) := by
  refine runP_fn t1614 rfl ?_
  simp (config := { maxSteps := 1000000 }) (disch := omega) only [go_sem, ↓reduceIte, Nat.reduceEqDiff, Nat.reduceAdd, Int.reduceToNat, reduceCtorEq, Nat.reduceLeDiff, Nat.reduceSub, Nat.reduceDiv, Nat.reduceMod, Nat.reduceMul, d1614]
  refine Ev_loop0 (fun i => ⟨[(0, .sl 1 (ocS R)), (1, .sl 1 (owS R)), (5, .int .i64 (i : Int))], [], 0, [(0, 0, [0, 1, 5], [])]⟩) R.length rfl (fun i hi => ?_) ?_
  · have q1 := ocS_at hi
    have q2 := owS_at hi
    have g := same16_run (a := R.getD i []) (b := R.getD i []) (by have := hb i; omega) (by have := hb i; omega)
    rw [decide_eq_true rfl] at g
    have g0 := same_nn
    generalize R.getD i [] = r at *
    by_cases hr : r = []
    · subst hr
      simp only [rcS, if_true, mls_nil] at q1 q2
      simp (config := { maxSteps := 1000000 }) (disch := omega) only [go_sem, ↓reduceIte, Nat.reduceEqDiff, Nat.reduceAdd, Int.reduceToNat, reduceCtorEq, Nat.reduceLeDiff, Nat.reduceSub, Nat.reduceDiv, Nat.reduceMod, Nat.reduceMul, d1614_b0, q1, q2, g0]
    · simp only [rcS, if_neg hr] at q1
      simp (config := { maxSteps := 1000000 }) (disch := omega) only [go_sem, ↓reduceIte, Nat.reduceEqDiff, Nat.reduceAdd, Int.reduceToNat, reduceCtorEq, Nat.reduceLeDiff, Nat.reduceSub, Nat.reduceDiv, Nat.reduceMod, Nat.reduceMul, d1614_b0, q1, q2, g]
  · simp (config := { maxSteps := 1000000 }) (disch := omega) only [go_sem, ↓reduceIte, Nat.reduceEqDiff, Nat.reduceAdd, Int.reduceToNat, reduceCtorEq, Nat.reduceLeDiff, Nat.reduceSub, Nat.reduceDiv, Nat.reduceMod, Nat.reduceMul, d1614_b0]
theorem ocV_noimm (R : List (List Ml)) : allL pnoimm (ocV R) = true := by
  induction R with
  | nil => rfl
  | cons a l ih =>
    have e : (rcV a).allv pnoimm = true := by unfold rcV; split <;> simp [AV.allv, pnoimm, mls_noimm]
    simp only [ocV, List.map_cons, allL] at ih ⊢; rw [e, ih]; rfl
theorem owV_noimm (R : List (List Ml)) : allL pnoimm (owV R) = true := by
  induction R with
  | nil => rfl
  | cons a l ih =>
    have e : (rwV a).allv pnoimm = true := by simp [rwV, AV.allv, pnoimm, mls_noimm]
    simp only [owV, List.map_cons, allL] at ih ⊢; rw [e, ih]; rfl
theorem does_law {l : List Ml} {w : Int} (hl : l.length ≤ 9223372036854775807) (hw : I64 w) : runP tabM 1603 [.sl 4 (mls l), .int .i64 w] [] = some (.bool true, []) := by
  refine runP_fn (show tabM 1603 = _ from t1603) rfl ?_
  have L := mls_len l
  have Ld : l.length * 4 / 4 = l.length := by omega
  obtain ⟨hw1, hw2⟩ := hw
  by_cases h1 : 60 < l.length ∧ l.length ≤ 1000
  · simp (config := { maxSteps := 1000000 }) (disch := omega) only [go_sem, ↓reduceIte, Nat.reduceEqDiff, Nat.reduceAdd, Int.reduceToNat, reduceCtorEq, Nat.reduceLeDiff, Nat.reduceSub, Nat.reduceDiv, Nat.reduceMod, Nat.reduceMul, d1603, L, Ld]
  by_cases h2 : 1100 < l.length
  · simp (config := { maxSteps := 1000000 }) (disch := omega) only [go_sem, ↓reduceIte, Nat.reduceEqDiff, Nat.reduceAdd, Int.reduceToNat, reduceCtorEq, Nat.reduceLeDiff, Nat.reduceSub, Nat.reduceDiv, Nat.reduceMod, Nat.reduceMul, d1603, L, Ld]
  have gm := mails_run
  have go := up (ownm_run (l := l) (by omega))
  have g1 := cmb_run (l := l) (by omega)
  have g2 := up (rcmb_run (l := l) (by omega))
  have gp1 := up (print_run (l := l) (by omega))
  have gp2 := up (rprint_run (l := l) (by omega))
  have gc1 := up (check_run (l := l) (by omega))
  have gc2 := up (rcheck_run (l := l) (by omega))
  have c1 := cmb_len l
  have gs := up (same16_run (a := cmb l) (b := cmb l) (by omega) (by omega))
  rw [decide_eq_true rfl] at gs
  have gsl := up (same16_run (a := l) (b := l) (by omega) (by omega))
  rw [decide_eq_true rfl] at gsl
  obtain ⟨p, e, hpe⟩ : ∃ p e, printA l = [.str p, .int .i64 e] := by
    unfold printA
    split
    · exact ⟨_, _, rfl⟩
    · split <;> exact ⟨_, _, rfl⟩
  rw [hpe] at gp1 gp2
  have hpp : (p == p) = true := beq_self_eq_true _
  have hee : (e == e) = true := beq_self_eq_true _
  have hoo : (okMs l == okMs l) = true := beq_self_eq_true _
  obtain ⟨R, E, k1, k2, k3, k4⟩ : ∃ (R : List (List Ml)) (E : Int), runP tabM 1610 [.sl 4 (mls l), .int .i64 w] [] = some (.tup [.vec 1 (ocV R), .int .i64 E], []) ∧ runP tabM 1611 [.sl 4 (mls l), .int .i64 w] [] = some (.tup [.vec 1 (owV R), .int .i64 E], []) ∧ R.length ≤ 16 ∧ ∀ i, (R.getD i []).length ≤ 100000 := by
    by_cases hb : ¬ (1 ≤ w ∧ w ≤ 16) ∨ okMs l = false
    · exact ⟨[], 1, up (split_bad (by omega) hb), up (rsplit_bad (by omega) hb), by simp, fun i => by simp⟩
    · obtain ⟨hw16, ho⟩ : (1 ≤ w ∧ w ≤ 16) ∧ okMs l = true := by
        constructor
        · exact Classical.byContradiction fun h => hb (.inl h)
        · cases h : okMs l with
          | true => rfl
          | false => exact absurd (.inr h) hb
      obtain ⟨k, rfl⟩ : ∃ k : Nat, w = k := ⟨w.toNat, by omega⟩
      have hk : 1 ≤ k ∧ k ≤ 16 := by omega
      exact ⟨spR l k l.length, 0, up (split_run (by omega) hk ho), up (rsplit_run (by omega) hk ho), by rw [spR_len]; omega, fun i => by have := spR_row l k l.length i; omega⟩
  have gsm := up (sames_run (R := R) (by omega) k4)
  have hEE : (E == E) = true := beq_self_eq_true _
  generalize cmb l = A at *
  have LA := mls_len A
  have LAd : A.length * 4 / 4 = A.length := by omega
  have m1 : (ocV R).length = R.length := ocV_len R
  have m2 : (owV R).length = R.length := owV_len R
  have n1 := ocV_noimm R
  have n2 := owV_noimm R
  have stp : ∀ (B : List Ml) (i : Nat), i < A.length → B.length = A.length → Ev tabM d1603_b0 ⟨[(0, .sl 4 (mls l)), (5, .own 4 0), (6, .own 4 1), (16, .bool true), (17, .int .i64 (i : Int))], [.row false (mls l), .row false (mls B), .row false (mls A), .row false (ocV R), .row false (owV R)], 0, [(0, 5, [0, 5, 6, 16, 17], [(5, 0), (6, 1)])]⟩ (fun x st => x = .normal ∧ st = ⟨[(0, .sl 4 (mls l)), (5, .own 4 0), (6, .own 4 1), (16, .bool true), (17, .int .i64 ((i + 1 : Nat) : Int))], [.row false (mls l), .row false (mls (B.set i { B.getD i default with d := -7 })), .row false (mls A), .row false (ocV R), .row false (owV R)], 0, [(0, 5, [0, 5, 6, 16, 17], [(5, 0), (6, 1)])]⟩) := by
    intro B i hi hB
    have e := mls_set3 (l := B) (i := i) (x := -7) (by omega)
    have LB := mls_len B
    have LBd : B.length * 4 / 4 = B.length := by omega
    generalize B.set i { B.getD i default with d := -7 } = B2 at *
    simp (config := { maxSteps := 1000000 }) (disch := omega) only [go_sem, ↓reduceIte, Nat.reduceEqDiff, Nat.reduceAdd, Int.reduceToNat, reduceCtorEq, Nat.reduceLeDiff, Nat.reduceSub, Nat.reduceDiv, Nat.reduceMod, Nat.reduceMul, d1603_b0, LB, LBd, e]
  by_cases h60 : 60 < l.length <;> simp (config := { maxSteps := 1000000 }) (disch := omega) only [go_sem, ↓reduceIte, Nat.reduceEqDiff, Nat.reduceAdd, Int.reduceToNat, reduceCtorEq, Nat.reduceLeDiff, Nat.reduceSub, Nat.reduceDiv, Nat.reduceMod, Nat.reduceMul, d1603, L, Ld, go, g1, g2, gp1, gp2, k1, k2, gs, gsm, gc1, gc2, hpp, hee, hoo, hEE, LA, LAd, n1, n2]
  all_goals
    refine Ev_inv (fun k st => ∃ (B : List Ml) (i : Nat), k = A.length - i ∧ i ≤ A.length ∧ B.length = A.length ∧ st = ⟨[(0, .sl 4 (mls l)), (5, .own 4 0), (6, .own 4 1), (16, .bool true), (17, .int .i64 (i : Int))], [.row false (mls l), .row false (mls B), .row false (mls A), .row false (ocV R), .row false (owV R)], 0, [(0, 5, [0, 5, 6, 16, 17], [(5, 0), (6, 1)])]⟩) ?_ (i := A.length) ⟨A, 0, rfl, Nat.zero_le _, rfl, rfl⟩
    rintro k st ⟨B, i, rfl, hi, hB, rfl⟩
    by_cases hlt : i < A.length
    · refine Ev_mono (stp B i hlt hB) ?_
      rintro x st ⟨rfl, rfl⟩
      exact .inl ⟨rfl, A.length - (i + 1), by omega, _, i + 1, rfl, by omega, by simp [hB], rfl⟩
    · have LB := mls_len B
      have LBd : B.length * 4 / 4 = B.length := by omega
      simp (config := { maxSteps := 1000000 }) (disch := omega) only [go_sem, ↓reduceIte, Nat.reduceEqDiff, Nat.reduceAdd, Int.reduceToNat, reduceCtorEq, Nat.reduceLeDiff, Nat.reduceSub, Nat.reduceDiv, Nat.reduceMod, Nat.reduceMul, d1603_b0, LB, LBd, gm, gsl]
end Go.Proofs.Ytpbdbhpneihopaa
