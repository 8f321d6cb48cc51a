/-
  Rows are made.
-/
import Derived.Test.YtmeakgiojhoofaaHv
namespace Go.Proofs.Ytmeakgiojhoofaa
set_option linter.unusedSimpArgs false
set_option linter.unusedVariables false
set_option maxHeartbeats 4000000
set_option maxRecDepth 100000

def rcV (l : List Int) : AV := if l = [] then .nils else .vec 1 (ints l)
def rcS (l : List Int) : AV := if l = [] then .nils else .sl 1 (ints l)
def ocV (l : List (List Int)) : List AV := l.map rcV
def ocS (l : List (List Int)) : List AV := l.map rcS
theorem ocV_len (l : List (List Int)) : (ocV l).length = l.length := by simp [ocV]
theorem ocS_len (l : List (List Int)) : (ocS l).length = l.length := by simp [ocS]
theorem rcV_noid (l : List Int) : (rcV l).allv pnoid = true := by unfold rcV; split <;> simp [AV.allv, pnoid, ints_noid', allL]
theorem rcS_noid (l : List Int) : (rcS l).allv pnoid = true := by unfold rcS; split <;> simp [AV.allv, pnoid, ints_noid', allL]
theorem rcS_noinl (l : List Int) : (rcS l).allv pnoinl = true := by unfold rcS; split <;> simp [AV.allv, pnoinl, ints_noinl', allL]
theorem rcV_frz (l : List Int) : (rcV l).mapv frz1 = rcS l := by unfold rcV rcS; split <;> simp [AV.mapv, frz1, ints_frz']
theorem rcV_okc (l : List Int) : (rcV l).okc = true := by unfold rcV; split <;> simp [AV.okc]
theorem rcS_okc (l : List Int) : (rcS l).okc = true := by unfold rcS; split <;> simp [AV.okc]
theorem ocV_noid' (l : List (List Int)) : allL pnoid (ocV l) = true := by
  induction l with
  | nil => rfl
  | cons a l ih => simp only [ocV, List.map_cons, allL] at ih ⊢; rw [rcV_noid, ih]; rfl
theorem ocS_noid' (l : List (List Int)) : allL pnoid (ocS l) = true := by
  induction l with
  | nil => rfl
  | cons a l ih => simp only [ocS, List.map_cons, allL] at ih ⊢; rw [rcS_noid, ih]; rfl
theorem ocV_frz' (l : List (List Int)) : mapL frz1 (ocV l) = ocS l := by
  induction l with
  | nil => rfl
  | cons a l ih => simp only [ocV, ocS, List.map_cons, mapL] at ih ⊢; rw [rcV_frz, ih]
theorem ocV_okc (l : List (List Int)) : (ocV l).all AV.okc = true := by
  induction l with
  | nil => rfl
  | cons a l ih => simp only [ocV, List.map_cons, List.all_cons] at ih ⊢; rw [rcV_okc, ih]; rfl
theorem ocS_okc (l : List (List Int)) : (ocS l).all AV.okc = true := by
  induction l with
  | nil => rfl
  | cons a l ih => simp only [ocS, List.map_cons, List.all_cons] at ih ⊢; rw [rcS_okc, ih]; rfl
theorem ocV_ids (l : List (List Int)) : idsL (ocV l) = [] := noidL_ids _ (ocV_noid' l)
theorem ocV_idlt' (n : Nat) (l : List (List Int)) : allL (pidlt n) (ocV l) = true := idltL_noid _ (ocV_noid' l)
theorem ocV_ren' (f : Nat → Nat) (l : List (List Int)) : mapL (ren1 f) (ocV l) = ocV l := renL_noid _ (ocV_noid' l)
theorem ocS_ids (l : List (List Int)) : idsL (ocS l) = [] := noidL_ids _ (ocS_noid' l)
theorem ocS_idlt' (n : Nat) (l : List (List Int)) : allL (pidlt n) (ocS l) = true := idltL_noid _ (ocS_noid' l)
theorem ocS_ren' (f : Nat → Nat) (l : List (List Int)) : mapL (ren1 f) (ocS l) = ocS l := renL_noid _ (ocS_noid' l)
attribute [go_sem] ocS_ids ocS_idlt' ocS_ren' ocV_len ocS_len ocV_noid' ocS_noid' ocV_frz' ocV_okc ocS_okc ocV_ids ocV_idlt' ocV_ren'
theorem ocS_at {l : List (List Int)} {i : Nat} (h : i < l.length) : rdc ((ocS l).drop i) none = some (rcS (l.getD i [])) := by
  rw [ocS, ← List.map_drop, List.drop_eq_getElem_cons h, List.getD_eq_getElem?_getD, List.getElem?_eq_getElem h]; rfl

def offs (rows : List (List Int)) (i : Nat) : List Int := (List.range (i + 1)).map fun k => (((rows.take k).flatten.length : Nat) : Int)
theorem offs_succ (rows : List (List Int)) (i : Nat) : offs rows (i + 1) = offs rows i ++ [(((rows.take (i + 1)).flatten.length : Nat) : Int)] := by
  simp only [offs]; rw [List.range_succ, List.map_append]; rfl
theorem flat_succ {rows : List (List Int)} {i : Nat} (h : i < rows.length) : (rows.take (i + 1)).flatten = (rows.take i).flatten ++ rows.getD i [] := by
  rw [take_snoc [] h, List.flatten_append]; simp
theorem flat_le {rows : List (List Int)} {n : Nat} (h : rows.flatten.length ≤ n) (i : Nat) : (rows.take i).flatten.length ≤ n := by
  have : rows.flatten = (rows.take i).flatten ++ (rows.drop i).flatten := by rw [← List.flatten_append, List.take_append_drop]
  rw [this, List.length_append] at h
  omega
theorem offs_len (rows : List (List Int)) (i : Nat) : (offs rows i).length = i + 1 := by simp [offs]

theorem joined_run {rows : List (List Int)} (h : rows.length ≤ 1000000) (h2 : rows.flatten.length ≤ 1000000) : runP tab 1209 [.sl 1 (ocS rows)] [] = some (.tup [.vec 1 (ints (offs rows rows.length)), .vec 1 (ints rows.flatten)], []) := by
  refine runP_fn t1209 rfl ?_
  simp (config := { maxSteps := 1000000 }) (disch := omega) only [go_sem, ↓reduceIte, Nat.reduceEqDiff, Nat.reduceAdd, Int.reduceToNat, reduceCtorEq, Nat.reduceLeDiff, Nat.reduceSub, Nat.reduceDiv, Nat.reduceMod, Nat.reduceMul, d1209]
  refine Ev_loop0 (fun i => ⟨[(4, .own 1 0), (5, .own 1 1), (10, .sl 1 (ocS rows)), (11, .int .i64 rows.length), (12, .int .i64 (i : Int))], [.row false (ints (offs rows i)), .row false (ints (rows.take i).flatten)], 0, [(0, 2, [4, 5, 10, 11, 12], [(4, 0), (5, 1)])]⟩) rows.length (by simp [offs, ints]) (fun i hi => ?_) ?_
  · have e := ocS_at hi
    have e1 := flat_succ hi
    have e2 := offs_succ rows i
    have l1 := flat_le h2 i
    have l2 := flat_le h2 (i + 1)
    have l3 := offs_len rows i
    rw [e1] at e2 l2
    rw [e2, e1]
    generalize hr : rows.getD i [] = r at *
    generalize (List.take i rows).flatten = T at *
    generalize offs rows i = O at *
    rw [List.length_append] at l2
    by_cases h0 : r = []
    · subst h0
      simp only [rcS, if_true] at e
      simp (config := { maxSteps := 1000000 }) (disch := omega) only [go_sem, ↓reduceIte, Nat.reduceEqDiff, Nat.reduceAdd, Int.reduceToNat, reduceCtorEq, Nat.reduceLeDiff, Nat.reduceSub, Nat.reduceDiv, Nat.reduceMod, Nat.reduceMul, d1209_b0, e]
      trace_state
    · simp only [rcS, if_neg h0] at e
      simp (config := { maxSteps := 1000000 }) (disch := omega) only [go_sem, ↓reduceIte, Nat.reduceEqDiff, Nat.reduceAdd, Int.reduceToNat, reduceCtorEq, Nat.reduceLeDiff, Nat.reduceSub, Nat.reduceDiv, Nat.reduceMod, Nat.reduceMul, d1209_b0, e]
      trace_state
  · simp (config := { maxSteps := 1000000 }) (disch := omega) only [go_sem, ↓reduceIte, Nat.reduceEqDiff, Nat.reduceAdd, Int.reduceToNat, reduceCtorEq, Nat.reduceLeDiff, Nat.reduceSub, Nat.reduceDiv, Nat.reduceMod, Nat.reduceMul, d1209_b0, List.take_length]
    trace_state

end Go.Proofs.Ytmeakgiojhoofaa
