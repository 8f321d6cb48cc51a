/- Layer 17: the document's Deal; rows alike. -/
import Derived.Test.YtimiedahbmfkhaaZh
namespace Go.Proofs.Ytimiedahbmfkhaa
set_option linter.unusedSimpArgs false
set_option linter.unusedVariables false
set_option maxHeartbeats 4000000
set_option maxRecDepth 100000
def rwV (l : List Int) : AV := .vec 1 (ints l)
def rwL (l : List Int) : AV := .sl 1 (ints l)
def owV (l : List (List Int)) : List AV := l.map rwV
def owS (l : List (List Int)) : List AV := l.map rwL
theorem owV_len (l : List (List Int)) : (owV l).length = l.length := by simp [owV]
theorem owS_len (l : List (List Int)) : (owS l).length = l.length := by simp [owS]
theorem owV_noid' (l : List (List Int)) : allL pnoid (owV l) = true := by
  induction l with
  | nil => rfl
  | cons a l ih => simp only [owV, List.map_cons, allL] at ih ⊢; rw [ih]; simp [rwV, AV.allv, pnoid, ints_noid', allL]
theorem owS_noid' (l : List (List Int)) : allL pnoid (owS l) = true := by
  induction l with
  | nil => rfl
  | cons a l ih => simp only [owS, List.map_cons, allL] at ih ⊢; rw [ih]; simp [rwL, AV.allv, pnoid, ints_noid', allL]
theorem owV_frz' (l : List (List Int)) : mapL frz1 (owV l) = owS l := by
  induction l with
  | nil => rfl
  | cons a l ih => simp only [owV, owS, List.map_cons, mapL] at ih ⊢; rw [ih]; simp [rwV, rwL, AV.mapv, frz1, ints_frz']
theorem owV_okc (l : List (List Int)) : (owV l).all AV.okc = true := by
  induction l with
  | nil => rfl
  | cons a l ih => simp only [owV, List.map_cons, List.all_cons] at ih ⊢; rw [ih]; rfl
theorem owS_okc (l : List (List Int)) : (owS l).all AV.okc = true := by
  induction l with
  | nil => rfl
  | cons a l ih => simp only [owS, List.map_cons, List.all_cons] at ih ⊢; rw [ih]; rfl
theorem owV_ids (l : List (List Int)) : idsL (owV l) = [] := noidL_ids _ (owV_noid' l)
theorem owV_idlt' (n : Nat) (l : List (List Int)) : allL (pidlt n) (owV l) = true := idltL_noid _ (owV_noid' l)
theorem owV_ren' (f : Nat → Nat) (l : List (List Int)) : mapL (ren1 f) (owV l) = owV l := renL_noid _ (owV_noid' l)
theorem owS_ids (l : List (List Int)) : idsL (owS l) = [] := noidL_ids _ (owS_noid' l)
theorem owS_idlt' (n : Nat) (l : List (List Int)) : allL (pidlt n) (owS l) = true := idltL_noid _ (owS_noid' l)
theorem owS_ren' (f : Nat → Nat) (l : List (List Int)) : mapL (ren1 f) (owS l) = owS l := renL_noid _ (owS_noid' l)
theorem owS_at {l : List (List Int)} {i : Nat} (h : i < l.length) : rdc ((owS l).drop i) none = some (.sl 1 (ints (l.getD i []))) := by
  rw [owS, ← List.map_drop, List.drop_eq_getElem_cons h, List.getD_eq_getElem?_getD, List.getElem?_eq_getElem h]; rfl
theorem owV_snoc (l : List (List Int)) (x : List Int) : owV l ++ [.vec 1 (ints x)] = owV (l ++ [x]) := by simp [owV, rwV]
attribute [go_sem] owV_len owS_len owV_noid' owS_noid' owV_frz' owV_okc owS_okc owV_ids owV_idlt' owV_ren' owS_ids owS_idlt' owS_ren'
theorem same06_run {D : List (List Int)} (hD : D.length ≤ 1000000) (hr : ∀ i, (D.getD i []).length < 1000000) : runP tab 1121 [.sl 1 (ocS D), .sl 1 (owS D)] [] = some (.bool true, []) := by
  refine runP_fn t1121 rfl ?_
  simp (config := { maxSteps := 1000000 }) (disch := omega) only [go_sem, ↓reduceIte, Nat.reduceEqDiff, Nat.reduceAdd, Int.reduceToNat, reduceCtorEq, Nat.reduceLeDiff, Nat.reduceSub, Nat.reduceDiv, Nat.reduceMod, Nat.reduceMul, d1121]
  refine Ev_loop0 (fun i => ⟨[(0, .sl 1 (ocS D)), (1, .sl 1 (owS D)), (5, .int .i64 (i : Int))], [], 0, [(0, 0, [0, 1, 5], [])]⟩) D.length rfl (fun i hi => ?_) ?_
  · have q1 := ocS_at hi
    have q2 := owS_at hi
    have g := ints_run (a := D.getD i []) (b := D.getD i []) (hr i) (hr i)
    have e : (D.getD i [] == D.getD i []) = true := beq_self_eq_true _
    rw [e] at g
    by_cases h : D.getD i [] = []
    · rw [h] at q1 q2 g
      simp only [rcS, if_true, ints_nil] at q1 q2 g
      simp (config := { maxSteps := 1000000 }) (disch := omega) only [go_sem, ↓reduceIte, Nat.reduceEqDiff, Nat.reduceAdd, Int.reduceToNat, reduceCtorEq, Nat.reduceLeDiff, Nat.reduceSub, Nat.reduceDiv, Nat.reduceMod, Nat.reduceMul, d1121_b0, q1, q2, g]
    · simp only [rcS, if_neg h] at q1
      simp (config := { maxSteps := 1000000 }) (disch := omega) only [go_sem, ↓reduceIte, Nat.reduceEqDiff, Nat.reduceAdd, Int.reduceToNat, reduceCtorEq, Nat.reduceLeDiff, Nat.reduceSub, Nat.reduceDiv, Nat.reduceMod, Nat.reduceMul, d1121_b0, q1, q2, g]
  · simp (config := { maxSteps := 1000000 }) (disch := omega) only [go_sem, ↓reduceIte, Nat.reduceEqDiff, Nat.reduceAdd, Int.reduceToNat, reduceCtorEq, Nat.reduceLeDiff, Nat.reduceSub, Nat.reduceDiv, Nat.reduceMod, Nat.reduceMul, d1121_b0]
theorem deal_row {p : List Int} {m i : Nat} (hm : 0 < m) (hi : i < m) {R : List Int} (hR : (dealR p m p.length).getD i [] = R) : (∀ t, t < R.length → i + m * t < p.length ∧ R.getD t 0 = p.getD (i + m * t) 0) ∧ p.length ≤ i + m * R.length := by
  have hc := deal_cnt hm hi p.length
  have hl : R.length = p.length / m + (if i < p.length % m then 1 else 0) := by
    rw [← hc, ← hR, dealR_at hi, List.length_map]
  have hd := Nat.div_add_mod p.length m
  have hr := Nat.mod_lt p.length hm
  refine ⟨fun t ht => ?_, ?_⟩
  · have hx : i + m * t < p.length := by
      by_cases h1 : t < p.length / m
      · have := Nat.mul_le_mul_left m (show t + 1 ≤ p.length / m by omega)
        rw [Nat.mul_add, Nat.mul_one] at this
        omega
      · have h2 : i < p.length % m := by
          by_cases h3 : i < p.length % m
          · exact h3
          · rw [if_neg h3] at hl; omega
        rw [if_pos h2] at hl
        have : t = p.length / m := by omega
        rw [this]; omega
    refine ⟨hx, ?_⟩
    have ha := deal_at (p := p) (k := p.length) hm hx
    rw [Nat.add_mul_mod_self_left, Nat.mod_eq_of_lt hi, hR, Nat.add_mul_div_left _ _ hm, Nat.div_eq_of_lt hi, Nat.zero_add] at ha
    rw [List.getD_eq_getElem?_getD, ha]; rfl
  · rw [hl]
    split
    · rw [Nat.mul_add, Nat.mul_one]; omega
    · rw [Nat.add_zero]; omega
end Go.Proofs.Ytimiedahbmfkhaa
