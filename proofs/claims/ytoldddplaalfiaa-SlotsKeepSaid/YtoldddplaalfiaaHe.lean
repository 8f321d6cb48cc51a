/-
  Slots and rows of slots: as cells.
-/
import Derived.Test.YtoldddplaalfiaaRq
namespace Go.Proofs.Ytoldddplaalfiaa
set_option linter.unusedSimpArgs false
set_option linter.unusedVariables false

/-- A slot; nl: its words are nil, not a row of none. -/
structure Hd where
  used : Bool
  req : Req
  nl : Bool
deriving DecidableEq, Inhabited
def Hd.id (h : Hd) : Int := h.req.id
/-- Its words. -/
def wS (h : Hd) : AV := if h.nl = true ∧ h.req.words = [] then .nils else .sl 1 (strs h.req.words)
def wV (h : Hd) : AV := if h.nl = true ∧ h.req.words = [] then .nils else .vec 1 (strs h.req.words)
theorem wS_noid (h : Hd) : (wS h).allv pnoid = true := by unfold wS; split <;> simp [AV.allv, pnoid, strs_noid', allL]
theorem wV_noid (h : Hd) : (wV h).allv pnoid = true := by unfold wV; split <;> simp [AV.allv, pnoid, strs_noid', allL]
theorem wS_noinl (h : Hd) : (wS h).allv pnoinl = true := by unfold wS; split <;> simp [AV.allv, pnoinl, strs_noinl', allL]
theorem wV_noimm (h : Hd) : (wV h).allv pnoimm = true := by unfold wV; split <;> simp [AV.allv, pnoimm, strs_noimm, allL]
theorem wS_idlt (n : Nat) (h : Hd) : (wS h).allv (pidlt n) = true := by unfold wS; split <;> simp [AV.allv, pidlt, strs_idlt', allL]
theorem wV_idlt (n : Nat) (h : Hd) : (wV h).allv (pidlt n) = true := by unfold wV; split <;> simp [AV.allv, pidlt, strs_idlt', allL]
theorem wS_frz (h : Hd) : (wS h).mapv frz1 = wS h := by unfold wS; split <;> simp [AV.mapv, frz1, strs_frz']
theorem wV_frz (h : Hd) : (wV h).mapv frz1 = wS h := by unfold wV wS; split <;> simp [AV.mapv, frz1, strs_frz']
theorem wS_ren (f : Nat → Nat) (h : Hd) : (wS h).mapv (ren1 f) = wS h := by unfold wS; split <;> simp [AV.mapv, ren1, strs_ren']
theorem wV_ren (f : Nat → Nat) (h : Hd) : (wV h).mapv (ren1 f) = wV h := by unfold wV; split <;> simp [AV.mapv, ren1, strs_ren']
theorem wS_ids (h : Hd) : (wS h).ids = [] := by unfold wS; split <;> simp [AV.ids, strs_idsL]
theorem wS_okc (h : Hd) : (wS h).okc = true := by unfold wS; split <;> simp [AV.okc]
theorem wV_okc (h : Hd) : (wV h).okc = true := by unfold wV; split <;> simp [AV.okc]
theorem wS_fz (hp : List Blk) (h : Hd) : fz hp (wS h) = some (.sl 1 (strs h.req.words)) := by
  unfold wS; split
  · rename_i e; rw [e.2]; rfl
  · simp [fz, strs_noid]
theorem wS_pk (n : Nat) (hp : List Blk) (h : Hd) : pk n hp (wS h) = some (wS h, hp) := by unfold wS; split <;> simp [pk]
theorem wV_pk (n : Nat) (hp : List Blk) (h : Hd) : pk n hp (wV h) = some (wV h, hp) := by unfold wV; split <;> simp [pk]
theorem wS_pks (hp : List Blk) (h : Hd) : pks hp (wS h) = some (wS h, hp) := by unfold wS; split <;> simp [pks, pk]
theorem wS_unpk (hp : List Blk) (h : Hd) (cs : List AV) : unpk hp (wS h :: cs) = (wS h :: (unpk hp cs).1, (unpk hp cs).2) := by unfold wS; split <;> simp [unpk]
theorem wS_thaw (hp : List Blk) (h : Hd) : thaw hp (wS h) = (wS h, hp) := by unfold wS; split <;> simp [thaw]
attribute [go_sem ↓] wS_noid wV_noid wS_noinl wV_noimm wS_idlt wV_idlt wS_frz wV_frz wS_ren wV_ren wS_ids wS_okc wV_okc wS_fz wS_pk wV_pk wS_pks wS_thaw wS_unpk

def rqS (h : Hd) : List AV := [.int .i64 h.req.id, .int .i64 h.req.kind, .int .i64 h.req.qk, .int .i64 h.req.frm, .int .i64 h.req.to, wS h, .int .i64 h.req.radius, .int .i64 h.req.most]
def rqV (h : Hd) : List AV := [.int .i64 h.req.id, .int .i64 h.req.kind, .int .i64 h.req.qk, .int .i64 h.req.frm, .int .i64 h.req.to, wV h, .int .i64 h.req.radius, .int .i64 h.req.most]
def hdS (h : Hd) : List AV := .bool h.used :: rqS h
def hdV (h : Hd) : List AV := .bool h.used :: rqV h
theorem rqS_len (h : Hd) : (rqS h).length = 8 := rfl
theorem mul9_div (n : Nat) : n * 9 / 9 = n := by omega
def hdsS (l : List Hd) : List AV := l.flatMap hdS
def hdsV (l : List Hd) : List AV := l.flatMap hdV

theorem hdsS_nil : hdsS [] = [] := rfl
theorem hdsV_nil : hdsV [] = [] := rfl
theorem hdsS_cons (r : Hd) (l : List Hd) : hdsS (r :: l) = hdS r ++ hdsS l := rfl
theorem hdsV_cons (r : Hd) (l : List Hd) : hdsV (r :: l) = hdV r ++ hdsV l := rfl
theorem hdsS_app (a b : List Hd) : hdsS a ++ hdsS b = hdsS (a ++ b) := by simp [hdsS]
theorem hdsV_app (a b : List Hd) : hdsV a ++ hdsV b = hdsV (a ++ b) := by simp [hdsV]
theorem hdsS_one (r : Hd) : hdS r = hdsS [r] := by simp [hdsS]
theorem hdsV_one (r : Hd) : hdV r = hdsV [r] := by simp [hdsV]
theorem hdsS_len (l : List Hd) : (hdsS l).length = l.length * 9 := by
  induction l with
  | nil => rfl
  | cons r l ih => rw [hdsS_cons, List.length_append, ih]; simp [hdS, rqS]; omega
theorem hdsV_len (l : List Hd) : (hdsV l).length = l.length * 9 := by
  induction l with
  | nil => rfl
  | cons r l ih => rw [hdsV_cons, List.length_append, ih]; simp [hdV, rqV]; omega




theorem hdsS_noid' (l : List Hd) : allL pnoid (hdsS l) = true := by
  induction l with
  | nil => rfl
  | cons r l ih => rw [hdsS_cons, allL_append, ih]; simp [hdS, rqS, wS_noid, wS_noinl, wS_frz, wS_okc, wS_fz, wS_pk, wS_pks, allL, AV.allv, pnoid, strs_noid']
theorem hdsV_noid' (l : List Hd) : allL pnoid (hdsV l) = true := by
  induction l with
  | nil => rfl
  | cons r l ih => rw [hdsV_cons, allL_append, ih]; simp [hdV, rqV, wV_noid, wV_noimm, wV_frz, wV_okc, wV_pk, allL, AV.allv, pnoid, strs_noid']
theorem hdsS_noinl' (l : List Hd) : allL pnoinl (hdsS l) = true := by
  induction l with
  | nil => rfl
  | cons r l ih => rw [hdsS_cons, allL_append, ih]; simp [hdS, rqS, wS_noid, wS_noinl, wS_frz, wS_okc, wS_fz, wS_pk, wS_pks, allL, AV.allv, pnoinl, strs_noinl']
theorem hdsV_noimm' (l : List Hd) : allL pnoimm (hdsV l) = true := by
  induction l with
  | nil => rfl
  | cons r l ih => rw [hdsV_cons, allL_append, ih]; simp [hdV, rqV, wV_noid, wV_noimm, wV_frz, wV_okc, wV_pk, allL, AV.allv, pnoimm, strs_noimm]
theorem hdsS_idlt' (n : Nat) (l : List Hd) : allL (pidlt n) (hdsS l) = true := idltL_noid _ (hdsS_noid' l)
theorem hdsV_idlt' (n : Nat) (l : List Hd) : allL (pidlt n) (hdsV l) = true := idltL_noid _ (hdsV_noid' l)
theorem hdsS_ren' (f : Nat → Nat) (l : List Hd) : mapL (ren1 f) (hdsS l) = hdsS l := renL_noid _ (hdsS_noid' l)
theorem hdsV_ren' (f : Nat → Nat) (l : List Hd) : mapL (ren1 f) (hdsV l) = hdsV l := renL_noid _ (hdsV_noid' l)
theorem hdsS_ids (l : List Hd) : idsL (hdsS l) = [] := noidL_ids _ (hdsS_noid' l)
theorem hdsV_ids (l : List Hd) : idsL (hdsV l) = [] := noidL_ids _ (hdsV_noid' l)
theorem hdsS_frz' (l : List Hd) : mapL frz1 (hdsS l) = hdsS l := by
  induction l with
  | nil => rfl
  | cons r l ih => rw [hdsS_cons, mapL_append, ih]; simp [hdS, rqS, wS_noid, wS_noinl, wS_frz, wS_okc, wS_fz, wS_pk, wS_pks, mapL, AV.mapv, frz1, strs_frz']
theorem hdsV_frz' (l : List Hd) : mapL frz1 (hdsV l) = hdsS l := by
  induction l with
  | nil => rfl
  | cons r l ih => rw [hdsV_cons, hdsS_cons, mapL_append, ih]; simp [hdV, rqV, wV_noid, wV_noimm, wV_frz, wV_okc, wV_pk, hdS, rqS, mapL, AV.mapv, frz1, strs_frz']
theorem hdsS_okc (l : List Hd) : (hdsS l).all AV.okc = true := by
  induction l with
  | nil => rfl
  | cons r l ih => rw [hdsS_cons, List.all_append, ih]; simp only [hdS, rqS, List.all_cons, List.all_nil, wS_okc, Bool.and_true]; rfl
theorem hdsV_okc (l : List Hd) : (hdsV l).all AV.okc = true := by
  induction l with
  | nil => rfl
  | cons r l ih => rw [hdsV_cons, List.all_append, ih]; simp only [hdV, rqV, List.all_cons, List.all_nil, wV_okc, Bool.and_true]; rfl
theorem hdsS_drop (l : List Hd) (i : Nat) : (hdsS l).drop (i * 9) = hdsS (l.drop i) := by
  induction i generalizing l with
  | zero => simp
  | succ i ih => cases l with
    | nil => simp [hdsS]
    | cons r l =>
      rw [hdsS_cons, show (i + 1) * 9 = (hdS r).length + i * 9 by simp [hdS, rqS]; omega, ← List.drop_drop, List.drop_left]
      exact ih l
theorem hdsV_drop (l : List Hd) (i : Nat) : (hdsV l).drop (i * 9) = hdsV (l.drop i) := by
  induction i generalizing l with
  | zero => simp
  | succ i ih => cases l with
    | nil => simp [hdsV]
    | cons r l =>
      rw [hdsV_cons, show (i + 1) * 9 = (hdV r).length + i * 9 by simp [hdV, rqV]; omega, ← List.drop_drop, List.drop_left]
      exact ih l
theorem hdsS_take (l : List Hd) (i : Nat) : (hdsS l).take (i * 9) = hdsS (l.take i) := by
  induction i generalizing l with
  | zero => simp [hdsS]
  | succ i ih => cases l with
    | nil => simp [hdsS]
    | cons r l =>
      rw [hdsS_cons, show (i + 1) * 9 = (hdS r).length + i * 9 by simp [hdS, rqS]; omega, List.take_length_add_append, ih, List.take_succ_cons, hdsS_cons]
theorem hdsV_take (l : List Hd) (i : Nat) : (hdsV l).take (i * 9) = hdsV (l.take i) := by
  induction i generalizing l with
  | zero => simp [hdsV]
  | succ i ih => cases l with
    | nil => simp [hdsV]
    | cons r l =>
      rw [hdsV_cons, show (i + 1) * 9 = (hdV r).length + i * 9 by simp [hdV, rqV]; omega, List.take_length_add_append, ih, List.take_succ_cons, hdsV_cons]
theorem hdsS_rdc {l : List Hd} {i : Nat} (h : i < l.length) : rdc ((hdsS l).drop (i * 9)) (some 9) = some (.agg (hdS (l.getD i default))) := by
  rw [hdsS_drop, List.drop_eq_getElem_cons h, hdsS_cons, List.getD_eq_getElem?_getD, List.getElem?_eq_getElem h]
  simp [rdc, hdS, rqS, List.take_append]
theorem hdsV_rdc {l : List Hd} {i : Nat} (h : i < l.length) : rdc ((hdsV l).drop (i * 9)) (some 9) = some (.agg (hdV (l.getD i default))) := by
  rw [hdsV_drop, List.drop_eq_getElem_cons h, hdsV_cons, List.getD_eq_getElem?_getD, List.getElem?_eq_getElem h]
  simp [rdc, hdV, rqV, List.take_append]
theorem hdsS_rdc' {l : List Hd} {i : Nat} (h : i < l.length) : rdc (hdsS (l.drop i)) (some 9) = some (.agg (hdS (l.getD i default))) := by rw [← hdsS_drop]; exact hdsS_rdc h
theorem hdsS_take9 {l : List Hd} {i : Nat} (h : i < l.length) : (hdsS (l.drop i)).take 9 = hdS (l.getD i default) := by
  rw [List.drop_eq_getElem_cons h, hdsS_cons, List.getD_eq_getElem?_getD, List.getElem?_eq_getElem h]
  simp [hdS, rqS, wS_noid, wS_noinl, wS_frz, wS_okc, wS_fz, wS_pk, wS_pks, List.take_append]
theorem hdsV_take9 {l : List Hd} {i : Nat} (h : i < l.length) : (hdsV (l.drop i)).take 9 = hdV (l.getD i default) := by
  rw [List.drop_eq_getElem_cons h, hdsV_cons, List.getD_eq_getElem?_getD, List.getElem?_eq_getElem h]
  simp [hdV, rqV, wV_noid, wV_noimm, wV_frz, wV_okc, wV_pk, List.take_append]
theorem hdsS_cut {l : List Hd} {i : Nat} (h : i < l.length) : hdsS (l.drop i) = .bool (l.getD i default).used :: (rqS (l.getD i default) ++ hdsS (l.drop (i + 1))) := by
  rw [List.drop_eq_getElem_cons h, hdsS_cons, List.getD_eq_getElem?_getD, List.getElem?_eq_getElem h]; rfl
theorem hdsS_used {l : List Hd} {i : Nat} (h : i < l.length) : rdc (hdsS (l.drop i)) none = some (.bool (l.getD i default).used) := by
  rw [hdsS_cut h]; rfl
theorem hdsS_id {l : List Hd} {i : Nat} (h : i < l.length) : rdc ((hdsS (l.drop i)).drop 1) none = some (.int .i64 (l.getD i default).req.id) := by
  rw [hdsS_cut h]; rfl
theorem hdsS_r8 {l : List Hd} {i : Nat} (h : i < l.length) : ((hdsS (l.drop i)).drop 1).take 8 = rqS (l.getD i default) := by
  rw [hdsS_cut h, List.drop_succ_cons, List.drop_zero]; exact List.take_left' (rqS_len _)
theorem hdsS_pk (n : Nat) (hp : List Blk) : ∀ l : List Hd, pkL n hp (hdsS l) = some (hdsS l, hp)
  | [] => rfl
  | r :: l => by
    have := hdsS_pk n hp l
    rw [hdsS_cons]
    simp [hdS, rqS, wS_noid, wS_noinl, wS_frz, wS_okc, wS_fz, wS_pk, wS_pks, pkL, pk, this]
theorem hdsV_pk (n : Nat) (hp : List Blk) : ∀ l : List Hd, pkL n hp (hdsV l) = some (hdsV l, hp)
  | [] => rfl
  | r :: l => by
    have := hdsV_pk n hp l
    rw [hdsV_cons]
    simp [hdV, rqV, wV_noid, wV_noimm, wV_frz, wV_okc, wV_pk, pkL, pk, this]

theorem hdS_len (r : Hd) : (hdS r).length = 9 := rfl
theorem hdV_len (r : Hd) : (hdV r).length = 9 := rfl
theorem hdS_okc (r : Hd) : (hdS r).all AV.okc = true := by rw [← List.append_nil (hdS r)]; exact hdsS_okc [r]
theorem hdV_okc (r : Hd) : (hdV r).all AV.okc = true := by rw [← List.append_nil (hdV r)]; exact hdsV_okc [r]
theorem hdS_noid' (r : Hd) : allL pnoid (hdS r) = true := by rw [hdsS_one]; exact hdsS_noid' _
theorem hdV_noid' (r : Hd) : allL pnoid (hdV r) = true := by rw [hdsV_one]; exact hdsV_noid' _
theorem hdS_noinl' (r : Hd) : allL pnoinl (hdS r) = true := by rw [hdsS_one]; exact hdsS_noinl' _
theorem hdS_ids (r : Hd) : idsL (hdS r) = [] := by rw [hdsS_one]; exact hdsS_ids _
theorem hdS_idlt' (n : Nat) (r : Hd) : allL (pidlt n) (hdS r) = true := by rw [hdsS_one]; exact hdsS_idlt' n _
theorem hdS_ren' (f : Nat → Nat) (r : Hd) : mapL (ren1 f) (hdS r) = hdS r := by rw [hdsS_one]; exact hdsS_ren' f _
theorem hdS_frz' (r : Hd) : mapL frz1 (hdS r) = hdS r := by rw [hdsS_one]; exact hdsS_frz' _
theorem hdS_pk (n : Nat) (hp : List Blk) (r : Hd) : pkL n hp (hdS r) = some (hdS r, hp) := by rw [hdsS_one]; exact hdsS_pk n hp _
attribute [go_sem] hdS_len hdV_len hdS_okc hdV_okc hdS_noid' hdV_noid' hdS_noinl' hdS_ids hdS_idlt' hdS_ren' hdS_frz' hdS_pk

attribute [go_sem] hdsV_noimm' hdsS_noid' hdsV_noid' hdsS_noinl' hdsS_idlt' hdsV_idlt' hdsS_ren' hdsV_ren' hdsS_ids hdsV_ids hdsS_frz' hdsV_frz' hdsS_okc hdsV_okc hdsS_pk hdsV_pk hdsS_len hdsV_len hdsS_app hdsV_app hdsS_drop hdsV_drop hdsS_take hdsV_take

theorem rqS_fz (hp : List Blk) (h : Hd) : fzL hp (rqS h) = some (reqS h.req) := by simp [rqS, reqS, fzL, fz, wS_fz]
theorem rqS_noid (h : Hd) : allL pnoid (rqS h) = true := by simp [rqS, allL, wS_noid]; simp [AV.allv, pnoid]
theorem rqS_noinl (h : Hd) : allL pnoinl (rqS h) = true := by simp [rqS, allL, wS_noinl]; simp [AV.allv, pnoinl]
theorem rqS_ids (h : Hd) : idsL (rqS h) = [] := noidL_ids _ (rqS_noid h)
theorem rqS_idlt (n : Nat) (h : Hd) : allL (pidlt n) (rqS h) = true := idltL_noid _ (rqS_noid h)
theorem rqS_ren (f : Nat → Nat) (h : Hd) : mapL (ren1 f) (rqS h) = rqS h := renL_noid _ (rqS_noid h)
theorem rqS_frz (h : Hd) : mapL frz1 (rqS h) = rqS h := by simp [rqS, mapL, wS_frz]; simp [AV.mapv, frz1]
theorem rqS_okc (h : Hd) : (rqS h).all AV.okc = true := by simp only [rqS, List.all_cons, List.all_nil, wS_okc, Bool.and_true]; rfl
attribute [go_sem] rqS_len rqS_fz rqS_noid rqS_noinl rqS_ids rqS_idlt rqS_ren rqS_frz rqS_okc
/-- What two slots are told apart by. -/
def Hd.key (h : Hd) : Bool × Req := (h.used, h.req)
attribute [go_sem] mul9_div
def hdTy : List Ty := .bool :: reqTy
theorem fit_bool {v : AV} (h : Fit .bool v) : ∃ b, v = .bool b := h
theorem fit_hd {vs : List AV} (h : FitL hdTy vs) : ∃ x : Hd, vs = hdS x ∧ x.req.fits := by
  unfold hdTy at h
  rw [FitL] at h
  obtain ⟨v, us, rfl, h1, h2⟩ := h
  obtain ⟨b, rfl⟩ := fit_bool h1
  obtain ⟨r, rfl, hr⟩ := fit_req h2
  exact ⟨⟨b, r, false⟩, by simp [hdS, rqS, wS, reqS], hr⟩
theorem fit_hds {v : AV} (h : Fit (.sl 9 hdTy) v) : ∃ l : List Hd, v = .sl 9 (hdsS l) ∧ l.length ≤ 9223372036854775807 ∧ ∀ x ∈ l, x.req.fits := by
  obtain ⟨rows, rfl, hl, hr⟩ := h
  have : ∃ l : List Hd, rows.flatten = hdsS l ∧ l.length = rows.length ∧ ∀ r ∈ l, r.req.fits := by
    clear hl
    induction rows with
    | nil => exact ⟨[], rfl, rfl, by simp⟩
    | cons r rows ih =>
      obtain ⟨l, h1, h2, h3⟩ := ih (fun r hr' => hr r (by simp [hr']))
      obtain ⟨q, rfl, hq⟩ := fit_hd (hr r (by simp))
      refine ⟨q :: l, by simp [h1, hdsS_cons], by simp [h2], fun x hx => ?_⟩
      rcases List.mem_cons.1 hx with rfl | hx
      · exact hq
      · exact h3 x hx
  obtain ⟨l, h1, h2, h3⟩ := this
  exact ⟨l, by rw [h1], by rw [h2]; unfold maxLen at hl; omega, h3⟩

end Go.Proofs.Ytoldddplaalfiaa
