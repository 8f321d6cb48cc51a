/- Layer 17: the document's Deal; rows alike. -/
import Derived.Test.YtimiedahbmfkhaaZd
import Derived.Test.YtimiedahbmfkhaaHx
namespace Go.Proofs.Ytimiedahbmfkhaa
set_option linter.unusedSimpArgs false
set_option linter.unusedVariables false
set_option maxHeartbeats 4000000
set_option maxRecDepth 100000
def rwV (l : List Int) : AV := .vec 1 (ints l)
def rwL (l : List Int) : AV := .sl 1 (ints l)
def owV (l : List (List Int)) : List AV := l.map rwV
def owS (l : List (List Int)) : List AV := l.map rwL
theorem owV_len (l : List (List Int)) : (owV l).length = l.length := by simp [owV]
theorem owS_len (l : List (List Int)) : (owS l).length = l.length := by simp [owS]
theorem owV_noid' (l : List (List Int)) : allL pnoid (owV l) = true := by
  induction l with
  | nil => rfl
  | cons a l ih => simp only [owV, List.map_cons, allL] at ih ⊢; rw [ih]; simp [rwV, AV.allv, pnoid, ints_noid', allL]
theorem owS_noid' (l : List (List Int)) : allL pnoid (owS l) = true := by
  induction l with
  | nil => rfl
  | cons a l ih => simp only [owS, List.map_cons, allL] at ih ⊢; rw [ih]; simp [rwL, AV.allv, pnoid, ints_noid', allL]
theorem owV_frz' (l : List (List Int)) : mapL frz1 (owV l) = owS l := by
  induction l with
  | nil => rfl
  | cons a l ih => simp only [owV, owS, List.map_cons, mapL] at ih ⊢; rw [ih]; simp [rwV, rwL, AV.mapv, frz1, ints_frz']
theorem owV_okc (l : List (List Int)) : (owV l).all AV.okc = true := by
  induction l with
  | nil => rfl
  | cons a l ih => simp only [owV, List.map_cons, List.all_cons] at ih ⊢; rw [ih]; rfl
theorem owS_okc (l : List (List Int)) : (owS l).all AV.okc = true := by
  induction l with
  | nil => rfl
  | cons a l ih => simp only [owS, List.map_cons, List.all_cons] at ih ⊢; rw [ih]; rfl
theorem owV_ids (l : List (List Int)) : idsL (owV l) = [] := noidL_ids _ (owV_noid' l)
theorem owV_idlt' (n : Nat) (l : List (List Int)) : allL (pidlt n) (owV l) = true := idltL_noid _ (owV_noid' l)
theorem owV_ren' (f : Nat → Nat) (l : List (List Int)) : mapL (ren1 f) (owV l) = owV l := renL_noid _ (owV_noid' l)
theorem owS_ids (l : List (List Int)) : idsL (owS l) = [] := noidL_ids _ (owS_noid' l)
theorem owS_idlt' (n : Nat) (l : List (List Int)) : allL (pidlt n) (owS l) = true := idltL_noid _ (owS_noid' l)
theorem owS_ren' (f : Nat → Nat) (l : List (List Int)) : mapL (ren1 f) (owS l) = owS l := renL_noid _ (owS_noid' l)
attribute [go_sem] owV_len owS_len owV_noid' owS_noid' owV_frz' owV_okc owS_okc owV_ids owV_idlt' owV_ren' owS_ids owS_idlt' owS_ren'
end Go.Proofs.Ytimiedahbmfkhaa
