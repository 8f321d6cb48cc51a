import Derived.Test.YtcfhocnbpplecaaKz
import Derived.Test.YtcfhocnbpplecaaLa
namespace Go.Proofs.Ytcfhocnbpplecaa
abbrev Txt := List UInt8
def strs (l : List Txt) : List AV := l.map .str
theorem strs_length (l : List Txt) : (strs l).length = l.length := by simp [strs]
theorem strs_flat (l : List Txt) : (strs l).all flat = true := by simp [strs, flat]
theorem strs_okc (l : List Txt) : (strs l).all AV.okc = true := flat_okc (strs_flat l)
theorem strs_idsL (l : List Txt) : idsL (strs l) = [] := flat_idsL (strs_flat l)
theorem strs_noid (l : List Txt) : noidL (strs l) = true := flat_noidL (strs_flat l)
theorem strs_noid' (l : List Txt) : allL pnoid (strs l) = true := flat_noidL (strs_flat l)
theorem strs_noinl (l : List Txt) : noinlL (strs l) = true := flat_noinlL (strs_flat l)
theorem strs_noinl' (l : List Txt) : allL pnoinl (strs l) = true := flat_noinlL (strs_flat l)
theorem strs_noimm (l : List Txt) : allL pnoimm (strs l) = true := flat_noimmL (strs_flat l)
theorem strs_idlt' (n : Nat) (l : List Txt) : allL (pidlt n) (strs l) = true := flat_idltL (strs_flat l)
theorem strs_frz' (l : List Txt) : mapL frz1 (strs l) = strs l := flat_frzL (strs_flat l)
theorem strs_ren' (r : Nat → Nat) (l : List Txt) : mapL (ren1 r) (strs l) = strs l := flat_renL (strs_flat l)
theorem strs_fz (hp : List Blk) (l : List Txt) : fzL hp (strs l) = some (strs l) := flat_fzL (strs_flat l)
theorem strs_pk (n : Nat) (hp : List Blk) (l : List Txt) : pkL n hp (strs l) = some (strs l, hp) := flat_pkL (strs_flat l)
theorem strs_pks (hp : List Blk) (l : List Txt) : pksL hp (strs l) = some (strs l, hp) := flat_pksL (strs_flat l)
theorem strs_thaw (hp : List Blk) (l : List Txt) : thawL hp (strs l) = (strs l, hp) := flat_thawL (strs_flat l)
theorem strs_rdc {l : List Txt} {i : Nat} (h : i < l.length) : rdc ((strs l).drop i) none = some (.str (l.getD i [])) := by
  simp [rdc, strs, List.head?_drop, List.getD_eq_getElem?_getD, h]
attribute [go_sem] strs_okc strs_idsL strs_noid strs_noid' strs_noinl strs_noinl' strs_noimm strs_idlt' strs_frz' strs_ren' strs_fz strs_pk strs_pks strs_thaw strs_length
structure Req where
  id : Int
  kind : Int
  qk : Int
  frm : Int
  to : Int
  words : List Txt
  radius : Int
  most : Int
deriving DecidableEq, Inhabited
def reqS (r : Req) : List AV := [.int .i64 r.id, .int .i64 r.kind, .int .i64 r.qk, .int .i64 r.frm, .int .i64 r.to, .sl 1 (strs r.words), .int .i64 r.radius, .int .i64 r.most]
def reqV (r : Req) : List AV := [.int .i64 r.id, .int .i64 r.kind, .int .i64 r.qk, .int .i64 r.frm, .int .i64 r.to, .vec 1 (strs r.words), .int .i64 r.radius, .int .i64 r.most]
def reqsS (l : List Req) : List AV := l.flatMap reqS
def reqsV (l : List Req) : List AV := l.flatMap reqV
theorem reqsS_cons (r : Req) (l : List Req) : reqsS (r :: l) = reqS r ++ reqsS l := rfl
theorem reqsV_cons (r : Req) (l : List Req) : reqsV (r :: l) = reqV r ++ reqsV l := rfl
theorem reqsS_app (a b : List Req) : reqsS a ++ reqsS b = reqsS (a ++ b) := by simp [reqsS]
theorem reqsV_app (a b : List Req) : reqsV a ++ reqsV b = reqsV (a ++ b) := by simp [reqsV]
theorem reqsS_one (r : Req) : reqS r = reqsS [r] := by simp [reqsS]
theorem reqsV_one (r : Req) : reqV r = reqsV [r] := by simp [reqsV]
theorem reqsS_len (l : List Req) : (reqsS l).length = l.length * 8 := by
  induction l with
  | nil => rfl
  | cons r l ih => rw [reqsS_cons, List.length_append, ih]; simp [reqS]; omega
theorem reqsV_len (l : List Req) : (reqsV l).length = l.length * 8 := by
  induction l with
  | nil => rfl
  | cons r l ih => rw [reqsV_cons, List.length_append, ih]; simp [reqV]; omega
theorem mul8_div (n : Nat) : n * 8 / 8 = n := by omega
theorem allL_append (p : AV → Bool) (a b : List AV) : allL p (a ++ b) = (allL p a && allL p b) := by
  induction a with
  | nil => simp [allL]
  | cons x a ih => simp [allL, ih, Bool.and_assoc]
theorem mapL_append (f : AV → AV) (a b : List AV) : mapL f (a ++ b) = mapL f a ++ mapL f b := by
  induction a with
  | nil => rfl
  | cons x a ih => simp [mapL, ih]
theorem idsL_append (a b : List AV) : idsL (a ++ b) = idsL a ++ idsL b := by
  induction a with
  | nil => rfl
  | cons x a ih => simp [idsL, ih]
theorem reqsS_noid' (l : List Req) : allL pnoid (reqsS l) = true := by
  induction l with
  | nil => rfl
  | cons r l ih => rw [reqsS_cons, allL_append, ih]; simp [reqS, allL, AV.allv, pnoid, strs_noid']
theorem reqsV_noid' (l : List Req) : allL pnoid (reqsV l) = true := by
  induction l with
  | nil => rfl
  | cons r l ih => rw [reqsV_cons, allL_append, ih]; simp [reqV, allL, AV.allv, pnoid, strs_noid']
theorem reqsS_noinl' (l : List Req) : allL pnoinl (reqsS l) = true := by
  induction l with
  | nil => rfl
  | cons r l ih => rw [reqsS_cons, allL_append, ih]; simp [reqS, allL, AV.allv, pnoinl, strs_noinl']
theorem reqsV_noinl' (l : List Req) : allL pnoinl (reqsV l) = l.isEmpty := by
  cases l with
  | nil => rfl
  | cons r l => rw [reqsV_cons, allL_append]; simp [reqV, allL, AV.allv, pnoinl]
theorem reqsV_noimm' (l : List Req) : allL pnoimm (reqsV l) = true := by
  induction l with
  | nil => rfl
  | cons r l ih => rw [reqsV_cons, allL_append, ih]; simp [reqV, allL, AV.allv, pnoimm, strs_noimm]
theorem reqsS_idlt' (n : Nat) (l : List Req) : allL (pidlt n) (reqsS l) = true := idltL_noid _ (reqsS_noid' l)
theorem reqsV_idlt' (n : Nat) (l : List Req) : allL (pidlt n) (reqsV l) = true := idltL_noid _ (reqsV_noid' l)
theorem reqsS_ren' (f : Nat → Nat) (l : List Req) : mapL (ren1 f) (reqsS l) = reqsS l := renL_noid _ (reqsS_noid' l)
theorem reqsV_ren' (f : Nat → Nat) (l : List Req) : mapL (ren1 f) (reqsV l) = reqsV l := renL_noid _ (reqsV_noid' l)
theorem reqsS_ids (l : List Req) : idsL (reqsS l) = [] := noidL_ids _ (reqsS_noid' l)
theorem reqsV_ids (l : List Req) : idsL (reqsV l) = [] := noidL_ids _ (reqsV_noid' l)
theorem reqsS_frz' (l : List Req) : mapL frz1 (reqsS l) = reqsS l := by
  induction l with
  | nil => rfl
  | cons r l ih => rw [reqsS_cons, mapL_append, ih]; simp [reqS, mapL, AV.mapv, frz1, strs_frz']
theorem reqsV_frz' (l : List Req) : mapL frz1 (reqsV l) = reqsS l := by
  induction l with
  | nil => rfl
  | cons r l ih => rw [reqsV_cons, reqsS_cons, mapL_append, ih]; simp [reqV, reqS, mapL, AV.mapv, frz1, strs_frz']
theorem reqsS_okc (l : List Req) : (reqsS l).all AV.okc = true := by
  induction l with
  | nil => rfl
  | cons r l ih => rw [reqsS_cons, List.all_append, ih]; simp [reqS, AV.okc]
theorem reqsV_okc (l : List Req) : (reqsV l).all AV.okc = true := by
  induction l with
  | nil => rfl
  | cons r l ih => rw [reqsV_cons, List.all_append, ih]; simp [reqV, AV.okc]
theorem reqsS_drop (l : List Req) (i : Nat) : (reqsS l).drop (i * 8) = reqsS (l.drop i) := by
  induction i generalizing l with
  | zero => simp
  | succ i ih => cases l with
    | nil => simp [reqsS]
    | cons r l =>
      rw [reqsS_cons, show (i + 1) * 8 = (reqS r).length + i * 8 by simp [reqS]; omega, ← List.drop_drop, List.drop_left]
      exact ih l
theorem reqsV_drop (l : List Req) (i : Nat) : (reqsV l).drop (i * 8) = reqsV (l.drop i) := by
  induction i generalizing l with
  | zero => simp
  | succ i ih => cases l with
    | nil => simp [reqsV]
    | cons r l =>
      rw [reqsV_cons, show (i + 1) * 8 = (reqV r).length + i * 8 by simp [reqV]; omega, ← List.drop_drop, List.drop_left]
      exact ih l
theorem reqsS_take (l : List Req) (i : Nat) : (reqsS l).take (i * 8) = reqsS (l.take i) := by
  induction i generalizing l with
  | zero => simp [reqsS]
  | succ i ih => cases l with
    | nil => simp [reqsS]
    | cons r l =>
      rw [reqsS_cons, show (i + 1) * 8 = (reqS r).length + i * 8 by simp [reqS]; omega, List.take_length_add_append, ih, List.take_succ_cons, reqsS_cons]
theorem reqsV_take (l : List Req) (i : Nat) : (reqsV l).take (i * 8) = reqsV (l.take i) := by
  induction i generalizing l with
  | zero => simp [reqsV]
  | succ i ih => cases l with
    | nil => simp [reqsV]
    | cons r l =>
      rw [reqsV_cons, show (i + 1) * 8 = (reqV r).length + i * 8 by simp [reqV]; omega, List.take_length_add_append, ih, List.take_succ_cons, reqsV_cons]
theorem reqsS_fz (hp : List Blk) : ∀ l : List Req, fzL hp (reqsS l) = some (reqsS l)
  | [] => rfl
  | r :: l => by
    have := reqsS_fz hp l
    rw [reqsS_cons]
    simp [reqS, fzL, fz, strs_noid, this]
theorem reqsS_pk (n : Nat) (hp : List Blk) : ∀ l : List Req, pkL n hp (reqsS l) = some (reqsS l, hp)
  | [] => rfl
  | r :: l => by
    have := reqsS_pk n hp l
    rw [reqsS_cons]
    simp [reqS, pkL, pk, this]
theorem reqsV_pk (n : Nat) (hp : List Blk) : ∀ l : List Req, pkL n hp (reqsV l) = some (reqsV l, hp)
  | [] => rfl
  | r :: l => by
    have := reqsV_pk n hp l
    rw [reqsV_cons]
    simp [reqV, pkL, pk, this]
theorem reqS_len (r : Req) : (reqS r).length = 8 := rfl
theorem reqV_len (r : Req) : (reqV r).length = 8 := rfl
theorem reqS_fz (hp : List Blk) (r : Req) : fzL hp (reqS r) = some (reqS r) := by rw [reqsS_one]; exact reqsS_fz hp _
theorem reqS_okc (r : Req) : (reqS r).all AV.okc = true := rfl
theorem reqV_okc (r : Req) : (reqV r).all AV.okc = true := rfl
theorem reqS_noid' (r : Req) : allL pnoid (reqS r) = true := by rw [reqsS_one]; exact reqsS_noid' _
theorem reqV_noid' (r : Req) : allL pnoid (reqV r) = true := by rw [reqsV_one]; exact reqsV_noid' _
theorem reqS_noinl' (r : Req) : allL pnoinl (reqS r) = true := by rw [reqsS_one]; exact reqsS_noinl' _
theorem reqS_ids (r : Req) : idsL (reqS r) = [] := by rw [reqsS_one]; exact reqsS_ids _
theorem reqS_idlt' (n : Nat) (r : Req) : allL (pidlt n) (reqS r) = true := by rw [reqsS_one]; exact reqsS_idlt' n _
theorem reqS_ren' (f : Nat → Nat) (r : Req) : mapL (ren1 f) (reqS r) = reqS r := by rw [reqsS_one]; exact reqsS_ren' f _
theorem reqS_frz' (r : Req) : mapL frz1 (reqS r) = reqS r := by rw [reqsS_one]; exact reqsS_frz' _
theorem reqS_pks (hp : List Blk) (r : Req) : pksL hp (reqS r) = some (reqS r, hp) := by simp [reqS, pksL, pks, pk]
theorem reqS_pk (n : Nat) (hp : List Blk) (r : Req) : pkL n hp (reqS r) = some (reqS r, hp) := by rw [reqsS_one]; exact reqsS_pk n hp _
theorem reqS_unpk (hp : List Blk) (r : Req) : unpk hp (reqS r) = (reqS r, hp) := by simp [reqS, unpk]
attribute [go_sem] reqS_len reqV_len reqS_fz reqS_okc reqV_okc reqS_noid' reqV_noid' reqS_noinl' reqS_ids reqS_idlt' reqS_ren' reqS_frz' reqS_pks reqS_pk reqS_unpk
attribute [go_sem] reqsV_noimm' allL_append mapL_append idsL_append reqsS_noid' reqsV_noid' reqsS_noinl' reqsV_noinl' reqsS_idlt' reqsV_idlt' reqsS_ren' reqsV_ren' reqsS_ids reqsV_ids reqsS_frz' reqsV_frz' reqsS_okc reqsV_okc reqsS_fz reqsS_pk reqsV_pk reqsS_len reqsV_len mul8_div reqsS_app reqsV_app reqsS_drop reqsV_drop reqsS_take reqsV_take
theorem fit_str {v : AV} (h : Fit .str v) : ∃ s : Txt, v = .str s ∧ s.length ≤ 9223372036854775807 := by
  obtain ⟨s, rfl, hs⟩ := h
  exact ⟨s, rfl, by unfold maxLen at hs; omega⟩
theorem fit_strs {v : AV} (h : Fit (.sl 1 [.str]) v) : ∃ l : List Txt, v = .sl 1 (strs l) ∧ l.length ≤ 9223372036854775807 ∧ ∀ s ∈ l, s.length ≤ 9223372036854775807 := by
  obtain ⟨rows, rfl, hl, hr⟩ := h
  have : ∃ l : List Txt, rows.flatten = strs l ∧ l.length = rows.length ∧ ∀ s ∈ l, s.length ≤ 9223372036854775807 := by
    clear hl
    induction rows with
    | nil => exact ⟨[], rfl, rfl, by simp⟩
    | cons r rows ih =>
      obtain ⟨l, h1, h2, h3⟩ := ih (fun r hr' => hr r (by simp [hr']))
      have h4 := hr r (by simp)
      simp only [FitL] at h4
      obtain ⟨v, us, rfl, h5, rfl⟩ := h4
      obtain ⟨s, rfl, h6⟩ := fit_str h5
      refine ⟨s :: l, by simp [h1, strs], by simp [h2], fun x hx => ?_⟩
      rcases List.mem_cons.1 hx with rfl | hx
      · exact h6
      · exact h3 x hx
  obtain ⟨l, h1, h2, h3⟩ := this
  exact ⟨l, by rw [h1], by rw [h2]; unfold maxLen at hl; omega, h3⟩
end Go.Proofs.Ytcfhocnbpplecaa
