/- Graphs without words: are they graphs? -/
import Derived.Test.YtimiedahbmfkhaaHu
namespace Go.Proofs.Ytimiedahbmfkhaa
set_option linter.unusedSimpArgs false
set_option linter.unusedVariables false
set_option maxHeartbeats 4000000
set_option maxRecDepth 100000
abbrev Ed := Int × Int
def prs (l : List Ed) : List AV := l.flatMap fun e => [.int .i64 e.1, .int .i64 e.2]
theorem prs_cons (e : Ed) (l : List Ed) : prs (e :: l) = .int .i64 e.1 :: .int .i64 e.2 :: prs l := rfl
theorem prs_flat (l : List Ed) : (prs l).all flat = true := by
  induction l with
  | nil => rfl
  | cons e l ih => rw [prs_cons]; simp only [List.all_cons, flat, Bool.true_and]; exact ih
theorem prs_len (l : List Ed) : (prs l).length = l.length * 2 := by
  induction l with
  | nil => rfl
  | cons e l ih => rw [prs_cons]; simp only [List.length_cons, ih]; omega
theorem prs_okc (l : List Ed) : (prs l).all AV.okc = true := flat_okc (prs_flat l)
theorem prs_noid' (l : List Ed) : allL pnoid (prs l) = true := flat_noidL (prs_flat l)
theorem prs_noinl' (l : List Ed) : allL pnoinl (prs l) = true := flat_noinlL (prs_flat l)
theorem prs_noimm (l : List Ed) : allL pnoimm (prs l) = true := flat_noimmL (prs_flat l)
theorem prs_ids (l : List Ed) : idsL (prs l) = [] := flat_idsL (prs_flat l)
theorem prs_idlt' (n : Nat) (l : List Ed) : allL (pidlt n) (prs l) = true := flat_idltL (prs_flat l)
theorem prs_ren' (f : Nat → Nat) (l : List Ed) : mapL (ren1 f) (prs l) = prs l := flat_renL (prs_flat l)
theorem prs_frz' (l : List Ed) : mapL frz1 (prs l) = prs l := flat_frzL (prs_flat l)
theorem prs_fz (hp : List Blk) (l : List Ed) : fzL hp (prs l) = some (prs l) := flat_fzL (prs_flat l)
theorem prs_pk (n : Nat) (hp : List Blk) (l : List Ed) : pkL n hp (prs l) = some (prs l, hp) := flat_pkL (prs_flat l)
theorem prs_pks (hp : List Blk) (l : List Ed) : pksL hp (prs l) = some (prs l, hp) := flat_pksL (prs_flat l)
theorem prs_thaw (hp : List Blk) (l : List Ed) : thawL hp (prs l) = (prs l, hp) := flat_thawL (prs_flat l)
theorem mul2_div (n : Nat) : n * 2 / 2 = n := by omega
theorem prs_app (a b : List Ed) : prs a ++ prs b = prs (a ++ b) := by simp [prs]
attribute [go_sem] prs_len prs_okc prs_noid' prs_noinl' prs_noimm prs_ids prs_idlt' prs_ren' prs_frz' prs_fz prs_pk prs_pks prs_thaw mul2_div prs_app
theorem prs_drop (l : List Ed) (i : Nat) : (prs l).drop (i * 2) = prs (l.drop i) := by
  induction i generalizing l with
  | zero => simp
  | succ i ih => cases l with
    | nil => simp [prs]
    | cons r l => rw [prs_cons, show (i + 1) * 2 = i * 2 + 1 + 1 by omega, List.drop_succ_cons, List.drop_succ_cons]; exact ih l
attribute [go_sem] prs_drop
def nls (n : Nat) : List AV := List.replicate n .nils
theorem nls_len (n : Nat) : (nls n).length = n := by simp [nls]
theorem nls_okc (n : Nat) : (nls n).all AV.okc = true := by simp [nls, AV.okc]
theorem nls_all {p : AV → Bool} (h : AV.nils.allv p = true) : ∀ n, allL p (nls n) = true
  | 0 => rfl
  | n + 1 => by rw [nls, List.replicate_succ, allL, h]; exact nls_all h n
theorem nls_map {f : AV → AV} (h : AV.nils.mapv f = .nils) : ∀ n, mapL f (nls n) = nls n
  | 0 => rfl
  | n + 1 => by
    rw [nls, List.replicate_succ, mapL, h]
    have := nls_map h n
    rw [nls] at this
    rw [this]
theorem nls_noid' (n : Nat) : allL pnoid (nls n) = true := nls_all rfl n
theorem nls_noinl' (n : Nat) : allL pnoinl (nls n) = true := nls_all rfl n
theorem nls_idlt' (k n : Nat) : allL (pidlt k) (nls n) = true := nls_all rfl n
theorem nls_frz' (n : Nat) : mapL frz1 (nls n) = nls n := nls_map rfl n
theorem nls_ren' (f : Nat → Nat) (n : Nat) : mapL (ren1 f) (nls n) = nls n := nls_map rfl n
theorem nls_ids (n : Nat) : idsL (nls n) = [] := noidL_ids _ (nls_noid' n)
attribute [go_sem] nls_len nls_okc nls_noid' nls_noinl' nls_idlt' nls_frz' nls_ren' nls_ids
end Go.Proofs.Ytimiedahbmfkhaa
namespace Go.Proofs.Ytimiedahbmfkhaa
set_option linter.unusedSimpArgs false
set_option linter.unusedVariables false
set_option maxHeartbeats 4000000
set_option maxRecDepth 100000
def rcV (l : List Int) : AV := if l = [] then .nils else .vec 1 (ints l)
def rcS (l : List Int) : AV := if l = [] then .nils else .sl 1 (ints l)
def ocV (l : List (List Int)) : List AV := l.map rcV
def ocS (l : List (List Int)) : List AV := l.map rcS
theorem ocV_len (l : List (List Int)) : (ocV l).length = l.length := by simp [ocV]
theorem ocS_len (l : List (List Int)) : (ocS l).length = l.length := by simp [ocS]
theorem rcV_noid (l : List Int) : (rcV l).allv pnoid = true := by unfold rcV; split <;> simp [AV.allv, pnoid, ints_noid', allL]
theorem rcS_noid (l : List Int) : (rcS l).allv pnoid = true := by unfold rcS; split <;> simp [AV.allv, pnoid, ints_noid', allL]
theorem rcV_frz (l : List Int) : (rcV l).mapv frz1 = rcS l := by unfold rcV rcS; split <;> simp [AV.mapv, frz1, ints_frz']
theorem rcV_okc (l : List Int) : (rcV l).okc = true := by unfold rcV; split <;> simp [AV.okc]
theorem rcS_okc (l : List Int) : (rcS l).okc = true := by unfold rcS; split <;> simp [AV.okc]
theorem ocV_noid' (l : List (List Int)) : allL pnoid (ocV l) = true := by
  induction l with
  | nil => rfl
  | cons a l ih => simp only [ocV, List.map_cons, allL] at ih ⊢; rw [rcV_noid, ih]; rfl
theorem ocS_noid' (l : List (List Int)) : allL pnoid (ocS l) = true := by
  induction l with
  | nil => rfl
  | cons a l ih => simp only [ocS, List.map_cons, allL] at ih ⊢; rw [rcS_noid, ih]; rfl
theorem ocV_frz' (l : List (List Int)) : mapL frz1 (ocV l) = ocS l := by
  induction l with
  | nil => rfl
  | cons a l ih => simp only [ocV, ocS, List.map_cons, mapL] at ih ⊢; rw [rcV_frz, ih]
theorem ocV_okc (l : List (List Int)) : (ocV l).all AV.okc = true := by
  induction l with
  | nil => rfl
  | cons a l ih => simp only [ocV, List.map_cons, List.all_cons] at ih ⊢; rw [rcV_okc, ih]; rfl
theorem ocS_okc (l : List (List Int)) : (ocS l).all AV.okc = true := by
  induction l with
  | nil => rfl
  | cons a l ih => simp only [ocS, List.map_cons, List.all_cons] at ih ⊢; rw [rcS_okc, ih]; rfl
theorem ocV_ids (l : List (List Int)) : idsL (ocV l) = [] := noidL_ids _ (ocV_noid' l)
theorem ocV_idlt' (n : Nat) (l : List (List Int)) : allL (pidlt n) (ocV l) = true := idltL_noid _ (ocV_noid' l)
theorem ocV_ren' (f : Nat → Nat) (l : List (List Int)) : mapL (ren1 f) (ocV l) = ocV l := renL_noid _ (ocV_noid' l)
theorem ocS_ids (l : List (List Int)) : idsL (ocS l) = [] := noidL_ids _ (ocS_noid' l)
theorem ocS_idlt' (n : Nat) (l : List (List Int)) : allL (pidlt n) (ocS l) = true := idltL_noid _ (ocS_noid' l)
theorem ocS_ren' (f : Nat → Nat) (l : List (List Int)) : mapL (ren1 f) (ocS l) = ocS l := renL_noid _ (ocS_noid' l)
attribute [go_sem] ocS_ids ocS_idlt' ocS_ren' ocV_len ocS_len ocV_noid' ocS_noid' ocV_frz' ocV_okc ocS_okc ocV_ids ocV_idlt' ocV_ren'
end Go.Proofs.Ytimiedahbmfkhaa
namespace Go.Proofs.Ytimiedahbmfkhaa
set_option linter.unusedSimpArgs false
set_option linter.unusedVariables false
set_option maxHeartbeats 4000000
set_option maxRecDepth 100000
end Go.Proofs.Ytimiedahbmfkhaa
