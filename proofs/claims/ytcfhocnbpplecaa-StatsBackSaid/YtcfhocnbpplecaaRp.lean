import Derived.Test.YtcfhocnbpplecaaRq
namespace Go.Proofs.Ytcfhocnbpplecaa
set_option maxHeartbeats 4000000
set_option maxRecDepth 100000
structure Hit where
  v : Int
  d : Int
deriving DecidableEq, Inhabited
def hitC (m : Hit) : List AV := [.int .i64 m.v, .int .i64 m.d]
def hts (l : List Hit) : List AV := l.flatMap hitC
theorem hts_nil : hts [] = [] := rfl
theorem hts_cons (m : Hit) (l : List Hit) : hts (m :: l) = .int .i64 m.v :: .int .i64 m.d :: hts l := rfl
theorem hts_flat (l : List Hit) : (hts l).all flat = true := by
  induction l with
  | nil => rfl
  | cons e l ih => rw [hts_cons]; simp only [List.all_cons, flat, Bool.true_and]; exact ih
theorem hts_len (l : List Hit) : (hts l).length = l.length * 2 := by
  induction l with
  | nil => rfl
  | cons e l ih => rw [hts_cons]; simp only [List.length_cons, ih]; omega
theorem hts_okc (l : List Hit) : (hts l).all AV.okc = true := flat_okc (hts_flat l)
theorem hts_noid (l : List Hit) : noidL (hts l) = true := flat_noidL (hts_flat l)
theorem hts_noid' (l : List Hit) : allL pnoid (hts l) = true := flat_noidL (hts_flat l)
theorem hts_noinl (l : List Hit) : noinlL (hts l) = true := flat_noinlL (hts_flat l)
theorem hts_noinl' (l : List Hit) : allL pnoinl (hts l) = true := flat_noinlL (hts_flat l)
theorem hts_noimm (l : List Hit) : allL pnoimm (hts l) = true := flat_noimmL (hts_flat l)
theorem hts_ids (l : List Hit) : idsL (hts l) = [] := flat_idsL (hts_flat l)
theorem hts_idlt (n : Nat) (l : List Hit) : idltL n (hts l) = true := flat_idltL (hts_flat l)
theorem hts_idlt' (n : Nat) (l : List Hit) : allL (pidlt n) (hts l) = true := flat_idltL (hts_flat l)
theorem hts_ren (f : Nat → Nat) (l : List Hit) : renL f (hts l) = hts l := flat_renL (hts_flat l)
theorem hts_ren' (f : Nat → Nat) (l : List Hit) : mapL (ren1 f) (hts l) = hts l := flat_renL (hts_flat l)
theorem hts_frz (l : List Hit) : frzL (hts l) = hts l := flat_frzL (hts_flat l)
theorem hts_frz' (l : List Hit) : mapL frz1 (hts l) = hts l := flat_frzL (hts_flat l)
theorem hts_fz (hp : List Blk) (l : List Hit) : fzL hp (hts l) = some (hts l) := flat_fzL (hts_flat l)
theorem hts_pk (n : Nat) (hp : List Blk) (l : List Hit) : pkL n hp (hts l) = some (hts l, hp) := flat_pkL (hts_flat l)
theorem hts_pks (hp : List Blk) (l : List Hit) : pksL hp (hts l) = some (hts l, hp) := flat_pksL (hts_flat l)
theorem hts_thaw (hp : List Blk) (l : List Hit) : thawL hp (hts l) = (hts l, hp) := flat_thawL (hts_flat l)
theorem mul2_div (n : Nat) : n * 2 / 2 = n := by omega
theorem hts_app (a b : List Hit) : hts a ++ hts b = hts (a ++ b) := by simp [hts]
theorem hts_drop (l : List Hit) (i : Nat) : (hts l).drop (i * 2) = hts (l.drop i) := by
  induction i generalizing l with
  | zero => simp
  | succ i ih => cases l with
    | nil => simp [hts]
    | cons r l => rw [hts_cons, show (i + 1) * 2 = i * 2 + 1 + 1 by omega, List.drop_succ_cons, List.drop_succ_cons]; exact ih l
theorem hts_take (l : List Hit) (i : Nat) : (hts l).take (i * 2) = hts (l.take i) := by
  induction i generalizing l with
  | zero => simp [hts]
  | succ i ih => cases l with
    | nil => simp [hts]
    | cons r l => rw [hts_cons, show (i + 1) * 2 = i * 2 + 1 + 1 by omega, List.take_succ_cons, List.take_succ_cons, ih l, List.take_succ_cons, hts_cons]
attribute [go_sem] hts_len hts_okc hts_noid hts_noid' hts_noinl hts_noinl' hts_noimm hts_ids hts_idlt hts_idlt' hts_ren hts_ren' hts_frz hts_frz' hts_fz hts_pk hts_pks hts_thaw mul2_div hts_app hts_drop hts_take
theorem hts_at {l : List Hit} {i : Nat} (h : i < l.length) : rdc (hts (l.drop i)) (some 2) = some (.agg (hitC (l.getD i default))) := by
  rw [List.drop_eq_getElem_cons h, hts_cons, List.getD_eq_getElem?_getD, List.getElem?_eq_getElem h]; rfl
structure Rep where
  id : Int
  code : Int
  found : Bool
  d : Int
  hits : List Hit
deriving DecidableEq, Inhabited
def repS (r : Rep) : List AV := [.int .i64 r.id, .int .i64 r.code, .bool r.found, .int .i64 r.d, .sl 2 (hts r.hits)]
def repV (r : Rep) : List AV := [.int .i64 r.id, .int .i64 r.code, .bool r.found, .int .i64 r.d, .vec 2 (hts r.hits)]
def repsS (l : List Rep) : List AV := l.flatMap repS
def repsV (l : List Rep) : List AV := l.flatMap repV
theorem repsS_nil : repsS [] = [] := rfl
theorem repsS_cons (r : Rep) (l : List Rep) : repsS (r :: l) = repS r ++ repsS l := rfl
theorem repsV_cons (r : Rep) (l : List Rep) : repsV (r :: l) = repV r ++ repsV l := rfl
theorem repsS_app (a b : List Rep) : repsS a ++ repsS b = repsS (a ++ b) := by simp [repsS]
theorem repsV_app (a b : List Rep) : repsV a ++ repsV b = repsV (a ++ b) := by simp [repsV]
theorem repsS_one (r : Rep) : repS r = repsS [r] := by simp [repsS]
theorem repsV_one (r : Rep) : repV r = repsV [r] := by simp [repsV]
theorem repsS_len (l : List Rep) : (repsS l).length = l.length * 5 := by
  induction l with
  | nil => rfl
  | cons r l ih => rw [repsS_cons, List.length_append, ih]; simp [repS]; omega
theorem repsV_len (l : List Rep) : (repsV l).length = l.length * 5 := by
  induction l with
  | nil => rfl
  | cons r l ih => rw [repsV_cons, List.length_append, ih]; simp [repV]; omega
theorem mul5_div (n : Nat) : n * 5 / 5 = n := by omega
theorem repsS_noid' (l : List Rep) : allL pnoid (repsS l) = true := by
  induction l with
  | nil => rfl
  | cons r l ih => rw [repsS_cons, allL_append, ih]; simp [repS, allL, AV.allv, pnoid, hts_noid']
theorem repsV_noid' (l : List Rep) : allL pnoid (repsV l) = true := by
  induction l with
  | nil => rfl
  | cons r l ih => rw [repsV_cons, allL_append, ih]; simp [repV, allL, AV.allv, pnoid, hts_noid']
theorem repsS_noinl' (l : List Rep) : allL pnoinl (repsS l) = true := by
  induction l with
  | nil => rfl
  | cons r l ih => rw [repsS_cons, allL_append, ih]; simp [repS, allL, AV.allv, pnoinl, hts_noinl']
theorem repsV_noinl' (l : List Rep) : allL pnoinl (repsV l) = l.isEmpty := by
  cases l with
  | nil => rfl
  | cons r l => rw [repsV_cons, allL_append]; simp [repV, allL, AV.allv, pnoinl]
theorem repsV_noimm' (l : List Rep) : allL pnoimm (repsV l) = true := by
  induction l with
  | nil => rfl
  | cons r l ih => rw [repsV_cons, allL_append, ih]; simp [repV, allL, AV.allv, pnoimm, hts_noimm]
theorem repsS_idlt' (n : Nat) (l : List Rep) : allL (pidlt n) (repsS l) = true := idltL_noid _ (repsS_noid' l)
theorem repsV_idlt' (n : Nat) (l : List Rep) : allL (pidlt n) (repsV l) = true := idltL_noid _ (repsV_noid' l)
theorem repsS_ren' (f : Nat → Nat) (l : List Rep) : mapL (ren1 f) (repsS l) = repsS l := renL_noid _ (repsS_noid' l)
theorem repsV_ren' (f : Nat → Nat) (l : List Rep) : mapL (ren1 f) (repsV l) = repsV l := renL_noid _ (repsV_noid' l)
theorem repsS_ids (l : List Rep) : idsL (repsS l) = [] := noidL_ids _ (repsS_noid' l)
theorem repsV_ids (l : List Rep) : idsL (repsV l) = [] := noidL_ids _ (repsV_noid' l)
theorem repsS_frz' (l : List Rep) : mapL frz1 (repsS l) = repsS l := by
  induction l with
  | nil => rfl
  | cons r l ih => rw [repsS_cons, mapL_append, ih]; simp [repS, mapL, AV.mapv, frz1, hts_frz']
theorem repsV_frz' (l : List Rep) : mapL frz1 (repsV l) = repsS l := by
  induction l with
  | nil => rfl
  | cons r l ih => rw [repsV_cons, repsS_cons, mapL_append, ih]; simp [repV, repS, mapL, AV.mapv, frz1, hts_frz']
theorem repsS_okc (l : List Rep) : (repsS l).all AV.okc = true := by
  induction l with
  | nil => rfl
  | cons r l ih => rw [repsS_cons, List.all_append, ih]; simp [repS, AV.okc]
theorem repsV_okc (l : List Rep) : (repsV l).all AV.okc = true := by
  induction l with
  | nil => rfl
  | cons r l ih => rw [repsV_cons, List.all_append, ih]; simp [repV, AV.okc]
theorem repsS_drop (l : List Rep) (i : Nat) : (repsS l).drop (i * 5) = repsS (l.drop i) := by
  induction i generalizing l with
  | zero => simp
  | succ i ih => cases l with
    | nil => simp [repsS]
    | cons r l =>
      rw [repsS_cons, show (i + 1) * 5 = (repS r).length + i * 5 by simp [repS]; omega, ← List.drop_drop, List.drop_left]
      exact ih l
theorem repsV_drop (l : List Rep) (i : Nat) : (repsV l).drop (i * 5) = repsV (l.drop i) := by
  induction i generalizing l with
  | zero => simp
  | succ i ih => cases l with
    | nil => simp [repsV]
    | cons r l =>
      rw [repsV_cons, show (i + 1) * 5 = (repV r).length + i * 5 by simp [repV]; omega, ← List.drop_drop, List.drop_left]
      exact ih l
theorem repsS_take (l : List Rep) (i : Nat) : (repsS l).take (i * 5) = repsS (l.take i) := by
  induction i generalizing l with
  | zero => simp [repsS]
  | succ i ih => cases l with
    | nil => simp [repsS]
    | cons r l =>
      rw [repsS_cons, show (i + 1) * 5 = (repS r).length + i * 5 by simp [repS]; omega, List.take_length_add_append, ih, List.take_succ_cons, repsS_cons]
theorem repsV_take (l : List Rep) (i : Nat) : (repsV l).take (i * 5) = repsV (l.take i) := by
  induction i generalizing l with
  | zero => simp [repsV]
  | succ i ih => cases l with
    | nil => simp [repsV]
    | cons r l =>
      rw [repsV_cons, show (i + 1) * 5 = (repV r).length + i * 5 by simp [repV]; omega, List.take_length_add_append, ih, List.take_succ_cons, repsV_cons]
theorem repsS_rdc {l : List Rep} {i : Nat} (h : i < l.length) : rdc ((repsS l).drop (i * 5)) (some 5) = some (.agg (repS (l.getD i default))) := by
  rw [repsS_drop, List.drop_eq_getElem_cons h, repsS_cons, List.getD_eq_getElem?_getD, List.getElem?_eq_getElem h]
  simp [rdc, repS]
theorem repsS_rdc' {l : List Rep} {i : Nat} (h : i < l.length) : rdc (repsS (l.drop i)) (some 5) = some (.agg (repS (l.getD i default))) := by rw [← repsS_drop]; exact repsS_rdc h
theorem repsS_id {l : List Rep} {i : Nat} (h : i < l.length) : rdc (repsS (l.drop i)) none = some (.int .i64 (l.getD i default).id) := by
  rw [List.drop_eq_getElem_cons h, repsS_cons, List.getD_eq_getElem?_getD, List.getElem?_eq_getElem h]; rfl
theorem repsS_fz (hp : List Blk) : ∀ l : List Rep, fzL hp (repsS l) = some (repsS l)
  | [] => rfl
  | r :: l => by
    have := repsS_fz hp l
    rw [repsS_cons]
    simp [repS, fzL, fz, hts_noid, this]
theorem repsS_pk (n : Nat) (hp : List Blk) : ∀ l : List Rep, pkL n hp (repsS l) = some (repsS l, hp)
  | [] => rfl
  | r :: l => by
    have := repsS_pk n hp l
    rw [repsS_cons]
    simp [repS, pkL, pk, this]
theorem repsV_pk (n : Nat) (hp : List Blk) : ∀ l : List Rep, pkL n hp (repsV l) = some (repsV l, hp)
  | [] => rfl
  | r :: l => by
    have := repsV_pk n hp l
    rw [repsV_cons]
    simp [repV, pkL, pk, this]
theorem repS_len (r : Rep) : (repS r).length = 5 := rfl
theorem repV_len (r : Rep) : (repV r).length = 5 := rfl
theorem repS_fz (hp : List Blk) (r : Rep) : fzL hp (repS r) = some (repS r) := by rw [repsS_one]; exact repsS_fz hp _
theorem repS_okc (r : Rep) : (repS r).all AV.okc = true := rfl
theorem repV_okc (r : Rep) : (repV r).all AV.okc = true := rfl
theorem repS_noid' (r : Rep) : allL pnoid (repS r) = true := by rw [repsS_one]; exact repsS_noid' _
theorem repV_noid' (r : Rep) : allL pnoid (repV r) = true := by rw [repsV_one]; exact repsV_noid' _
theorem repS_noinl' (r : Rep) : allL pnoinl (repS r) = true := by rw [repsS_one]; exact repsS_noinl' _
theorem repS_ids (r : Rep) : idsL (repS r) = [] := by rw [repsS_one]; exact repsS_ids _
theorem repS_idlt' (n : Nat) (r : Rep) : allL (pidlt n) (repS r) = true := by rw [repsS_one]; exact repsS_idlt' n _
theorem repS_ren' (f : Nat → Nat) (r : Rep) : mapL (ren1 f) (repS r) = repS r := by rw [repsS_one]; exact repsS_ren' f _
theorem repS_frz' (r : Rep) : mapL frz1 (repS r) = repS r := by rw [repsS_one]; exact repsS_frz' _
theorem repS_pks (hp : List Blk) (r : Rep) : pksL hp (repS r) = some (repS r, hp) := by simp [repS, pksL, pks, pk]
theorem repS_pk (n : Nat) (hp : List Blk) (r : Rep) : pkL n hp (repS r) = some (repS r, hp) := by rw [repsS_one]; exact repsS_pk n hp _
theorem repS_unpk (hp : List Blk) (r : Rep) : unpk hp (repS r) = (repS r, hp) := by simp [repS, unpk]
attribute [go_sem] repS_len repV_len repS_fz repS_okc repV_okc repS_noid' repV_noid' repS_noinl' repS_ids repS_idlt' repS_ren' repS_frz' repS_pks repS_pk repS_unpk
attribute [go_sem] repsV_noimm' repsS_noid' repsV_noid' repsS_noinl' repsV_noinl' repsS_idlt' repsV_idlt' repsS_ren' repsV_ren' repsS_ids repsV_ids repsS_frz' repsV_frz' repsS_okc repsV_okc repsS_fz repsS_pk repsV_pk repsS_len repsV_len mul5_div repsS_app repsV_app repsS_drop repsV_drop repsS_take repsV_take
end Go.Proofs.Ytcfhocnbpplecaa
