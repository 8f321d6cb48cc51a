/- Layer 14: rows of keys, and of places. -/
import Derived.Test.YthpgaecloecflaaT14
import Derived.Test.YthpgaecloecflaaKh
import Derived.Test.YthpgaecloecflaaTa
import Derived.Test.YthpgaecloecflaaSb
namespace Go.Proofs.Ythpgaecloecflaa
set_option linter.unusedSimpArgs false
set_option linter.unusedVariables false
set_option maxHeartbeats 4000000
set_option maxRecDepth 100000
open Go.Sort (size_swp)
def kyC (m : Ky) : List AV := [.int .i64 m.s, .int .i64 m.d, .int .i64 m.v]
def kys (l : List Ky) : List AV := l.flatMap kyC
theorem kys_cons (m : Ky) (l : List Ky) : kys (m :: l) = .int .i64 m.s :: .int .i64 m.d :: .int .i64 m.v :: kys l := rfl
theorem kys_flat (l : List Ky) : (kys l).all flat = true := by
  induction l with
  | nil => rfl
  | cons e l ih => rw [kys_cons]; simp only [List.all_cons, flat, Bool.true_and]; exact ih
theorem kys_len (l : List Ky) : (kys l).length = l.length * 3 := by
  induction l with
  | nil => rfl
  | cons e l ih => rw [kys_cons]; simp only [List.length_cons, ih]; omega
theorem kys_okc (l : List Ky) : (kys l).all AV.okc = true := flat_okc (kys_flat l)
theorem kys_noid (l : List Ky) : noidL (kys l) = true := flat_noidL (kys_flat l)
theorem kys_noid' (l : List Ky) : allL pnoid (kys l) = true := flat_noidL (kys_flat l)
theorem kys_noinl (l : List Ky) : noinlL (kys l) = true := flat_noinlL (kys_flat l)
theorem kys_noinl' (l : List Ky) : allL pnoinl (kys l) = true := flat_noinlL (kys_flat l)
theorem kys_noimm (l : List Ky) : allL pnoimm (kys l) = true := flat_noimmL (kys_flat l)
theorem kys_ids (l : List Ky) : idsL (kys l) = [] := flat_idsL (kys_flat l)
theorem kys_idlt (n : Nat) (l : List Ky) : idltL n (kys l) = true := flat_idltL (kys_flat l)
theorem kys_idlt' (n : Nat) (l : List Ky) : allL (pidlt n) (kys l) = true := flat_idltL (kys_flat l)
theorem kys_ren (f : Nat → Nat) (l : List Ky) : renL f (kys l) = kys l := flat_renL (kys_flat l)
theorem kys_ren' (f : Nat → Nat) (l : List Ky) : mapL (ren1 f) (kys l) = kys l := flat_renL (kys_flat l)
theorem kys_frz (l : List Ky) : frzL (kys l) = kys l := flat_frzL (kys_flat l)
theorem kys_frz' (l : List Ky) : mapL frz1 (kys l) = kys l := flat_frzL (kys_flat l)
theorem kys_fz (hp : List Blk) (l : List Ky) : fzL hp (kys l) = some (kys l) := flat_fzL (kys_flat l)
theorem kys_pk (n : Nat) (hp : List Blk) (l : List Ky) : pkL n hp (kys l) = some (kys l, hp) := flat_pkL (kys_flat l)
theorem kys_pks (hp : List Blk) (l : List Ky) : pksL hp (kys l) = some (kys l, hp) := flat_pksL (kys_flat l)
theorem kys_thaw (hp : List Blk) (l : List Ky) : thawL hp (kys l) = (kys l, hp) := flat_thawL (kys_flat l)
theorem mul3_div (n : Nat) : n * 3 / 3 = n := by omega
theorem kys_app (a b : List Ky) : kys a ++ kys b = kys (a ++ b) := by simp [kys]
theorem kys_drop (l : List Ky) (i : Nat) : (kys l).drop (i * 3) = kys (l.drop i) := by
  induction i generalizing l with
  | zero => simp
  | succ i ih => cases l with
    | nil => simp [kys]
    | cons r l => rw [kys_cons, show (i + 1) * 3 = i * 3 + 1 + 1 + 1 by omega, List.drop_succ_cons, List.drop_succ_cons, List.drop_succ_cons]; exact ih l
theorem kys_take (l : List Ky) (i : Nat) : (kys l).take (i * 3) = kys (l.take i) := by
  induction i generalizing l with
  | zero => simp [kys]
  | succ i ih => cases l with
    | nil => simp [kys]
    | cons r l => rw [kys_cons, show (i + 1) * 3 = i * 3 + 1 + 1 + 1 by omega, List.take_succ_cons, List.take_succ_cons, List.take_succ_cons, ih l, List.take_succ_cons, kys_cons]
attribute [go_sem] kys_len kys_okc kys_noid kys_noid' kys_noinl kys_noinl' kys_noimm kys_ids kys_idlt kys_idlt' kys_ren kys_ren' kys_frz kys_frz' kys_fz kys_pk kys_pks kys_thaw mul3_div kys_app kys_drop kys_take
def plC (m : Pl) : List AV := [.bool m.u, .int .i64 m.k.s, .int .i64 m.k.d, .int .i64 m.k.v, .int .i64 m.n]
def pls (l : List Pl) : List AV := l.flatMap plC
theorem pls_cons (m : Pl) (l : List Pl) : pls (m :: l) = .bool m.u :: .int .i64 m.k.s :: .int .i64 m.k.d :: .int .i64 m.k.v :: .int .i64 m.n :: pls l := rfl
theorem pls_flat (l : List Pl) : (pls l).all flat = true := by
  induction l with
  | nil => rfl
  | cons e l ih => rw [pls_cons]; simp only [List.all_cons, flat, Bool.true_and]; exact ih
theorem pls_len (l : List Pl) : (pls l).length = l.length * 5 := by
  induction l with
  | nil => rfl
  | cons e l ih => rw [pls_cons]; simp only [List.length_cons, ih]; omega
theorem pls_okc (l : List Pl) : (pls l).all AV.okc = true := flat_okc (pls_flat l)
theorem pls_noid (l : List Pl) : noidL (pls l) = true := flat_noidL (pls_flat l)
theorem pls_noid' (l : List Pl) : allL pnoid (pls l) = true := flat_noidL (pls_flat l)
theorem pls_noinl (l : List Pl) : noinlL (pls l) = true := flat_noinlL (pls_flat l)
theorem pls_noinl' (l : List Pl) : allL pnoinl (pls l) = true := flat_noinlL (pls_flat l)
theorem pls_noimm (l : List Pl) : allL pnoimm (pls l) = true := flat_noimmL (pls_flat l)
theorem pls_ids (l : List Pl) : idsL (pls l) = [] := flat_idsL (pls_flat l)
theorem pls_idlt (n : Nat) (l : List Pl) : idltL n (pls l) = true := flat_idltL (pls_flat l)
theorem pls_idlt' (n : Nat) (l : List Pl) : allL (pidlt n) (pls l) = true := flat_idltL (pls_flat l)
theorem pls_ren (f : Nat → Nat) (l : List Pl) : renL f (pls l) = pls l := flat_renL (pls_flat l)
theorem pls_ren' (f : Nat → Nat) (l : List Pl) : mapL (ren1 f) (pls l) = pls l := flat_renL (pls_flat l)
theorem pls_frz (l : List Pl) : frzL (pls l) = pls l := flat_frzL (pls_flat l)
theorem pls_frz' (l : List Pl) : mapL frz1 (pls l) = pls l := flat_frzL (pls_flat l)
theorem pls_fz (hp : List Blk) (l : List Pl) : fzL hp (pls l) = some (pls l) := flat_fzL (pls_flat l)
theorem pls_pk (n : Nat) (hp : List Blk) (l : List Pl) : pkL n hp (pls l) = some (pls l, hp) := flat_pkL (pls_flat l)
theorem pls_pks (hp : List Blk) (l : List Pl) : pksL hp (pls l) = some (pls l, hp) := flat_pksL (pls_flat l)
theorem pls_thaw (hp : List Blk) (l : List Pl) : thawL hp (pls l) = (pls l, hp) := flat_thawL (pls_flat l)
theorem mul5_div (n : Nat) : n * 5 / 5 = n := by omega
theorem pls_app (a b : List Pl) : pls a ++ pls b = pls (a ++ b) := by simp [pls]
theorem pls_drop (l : List Pl) (i : Nat) : (pls l).drop (i * 5) = pls (l.drop i) := by
  induction i generalizing l with
  | zero => simp
  | succ i ih => cases l with
    | nil => simp [pls]
    | cons r l => rw [pls_cons, show (i + 1) * 5 = i * 5 + 1 + 1 + 1 + 1 + 1 by omega, List.drop_succ_cons, List.drop_succ_cons, List.drop_succ_cons, List.drop_succ_cons, List.drop_succ_cons]; exact ih l
theorem pls_take (l : List Pl) (i : Nat) : (pls l).take (i * 5) = pls (l.take i) := by
  induction i generalizing l with
  | zero => simp [pls]
  | succ i ih => cases l with
    | nil => simp [pls]
    | cons r l => rw [pls_cons, show (i + 1) * 5 = i * 5 + 1 + 1 + 1 + 1 + 1 by omega, List.take_succ_cons, List.take_succ_cons, List.take_succ_cons, List.take_succ_cons, List.take_succ_cons, ih l, List.take_succ_cons, pls_cons]
attribute [go_sem] pls_len pls_okc pls_noid pls_noid' pls_noinl pls_noinl' pls_noimm pls_ids pls_idlt pls_idlt' pls_ren pls_ren' pls_frz pls_frz' pls_fz pls_pk pls_pks pls_thaw mul5_div pls_app pls_drop pls_take
theorem kys_at {l : List Ky} {i : Nat} (h : i < l.length) : rdc (kys (l.drop i)) (some 3) = some (.agg (kyC (l.getD i default))) := by
  rw [List.drop_eq_getElem_cons h, kys_cons, List.getD_eq_getElem?_getD, List.getElem?_eq_getElem h]; rfl
theorem pls_at {l : List Pl} {i : Nat} (h : i < l.length) : rdc (pls (l.drop i)) (some 5) = some (.agg (plC (l.getD i default))) := by
  rw [List.drop_eq_getElem_cons h, pls_cons, List.getD_eq_getElem?_getD, List.getElem?_eq_getElem h]; rfl
end Go.Proofs.Ythpgaecloecflaa
