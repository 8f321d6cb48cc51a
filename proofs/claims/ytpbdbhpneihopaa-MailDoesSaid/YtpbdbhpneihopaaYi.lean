/- Layer 16: what is parsed; the table with its oracles. -/
import Derived.Test.YtpbdbhpneihopaaYf
import Derived.Test.YtpbdbhpneihopaaZr
namespace Go.Proofs.Ytpbdbhpneihopaa
set_option linter.unusedSimpArgs false
set_option linter.unusedVariables false
set_option maxHeartbeats 4000000
set_option maxRecDepth 100000
def hmOk (v w : Int) : Bool := decide (0 ≤ v ∧ v ≤ 1000000 ∧ 1 ≤ w ∧ w ≤ 16)
def hmR (v w : Int) : Int := if hmOk v w then ((v * 40503 + 12345).tmod 65536).tmod w else 0
theorem hm_lt {v w : Int} (h : hmOk v w = true) : 0 ≤ hmR v w ∧ hmR v w < w := by
  have h' := h
  simp only [hmOk, decide_eq_true_eq] at h'
  rw [hmR, if_pos h]
  have h1 : 0 ≤ (v * 40503 + 12345).tmod 65536 := Int.tmod_nonneg _ (by omega)
  exact ⟨Int.tmod_nonneg _ h1, Int.tmod_lt_of_pos _ (by omega)⟩
theorem hm_cases (v w : Int) : (hmOk v w = true ∧ hmR v w = ((v * 40503 + 12345).tmod 65536).tmod w ∧ 0 ≤ v ∧ v ≤ 1000000 ∧ 1 ≤ w ∧ w ≤ 16) ∨ (hmOk v w = false ∧ hmR v w = 0 ∧ ¬ (0 ≤ v ∧ v ≤ 1000000 ∧ 1 ≤ w ∧ w ≤ 16)) := by
  cases h : hmOk v w with
  | true => left; have h' := h; simp only [hmOk, decide_eq_true_eq] at h'; rw [hmR, if_pos h]; exact ⟨rfl, rfl, h'.1, h'.2.1, h'.2.2.1, h'.2.2.2⟩
  | false => right; have h' := h; simp only [hmOk, decide_eq_false_iff_not] at h'; rw [hmR, if_neg (by rw [h]; simp)]; exact ⟨rfl, rfl, h'⟩
theorem may_run {w : Int} : runP tab 1250 [.int .i64 w] [] = some (.bool (decide (1 ≤ w ∧ w ≤ 16)), []) := by
  refine runP_fn t1250 rfl ?_
  by_cases h1 : 1 ≤ w
  · by_cases h2 : w ≤ 16
    · rw [decide_eq_true (show 1 ≤ w ∧ w ≤ 16 from ⟨h1, h2⟩)]
      simp (config := { maxSteps := 1000000 }) (disch := omega) only [go_sem, ↓reduceIte, Nat.reduceEqDiff, Nat.reduceAdd, Int.reduceToNat, reduceCtorEq, Nat.reduceLeDiff, Nat.reduceSub, Nat.reduceDiv, Nat.reduceMod, Nat.reduceMul, d1250]
    · rw [decide_eq_false (show ¬ (1 ≤ w ∧ w ≤ 16) by omega)]
      simp (config := { maxSteps := 1000000 }) (disch := omega) only [go_sem, ↓reduceIte, Nat.reduceEqDiff, Nat.reduceAdd, Int.reduceToNat, reduceCtorEq, Nat.reduceLeDiff, Nat.reduceSub, Nat.reduceDiv, Nat.reduceMod, Nat.reduceMul, d1250]
  · rw [decide_eq_false (show ¬ (1 ≤ w ∧ w ≤ 16) by omega)]
    simp (config := { maxSteps := 1000000 }) (disch := omega) only [go_sem, ↓reduceIte, Nat.reduceEqDiff, Nat.reduceAdd, Int.reduceToNat, reduceCtorEq, Nat.reduceLeDiff, Nat.reduceSub, Nat.reduceDiv, Nat.reduceMod, Nat.reduceMul, d1250]
theorem home_run {v w : Int} : runP tab 1237 [.int .i64 v, .int .i64 w] [] = some (.tup [.int .i64 (hmR v w), .bool (hmOk v w)], []) := by
  refine runP_fn t1237 rfl ?_
  have gm := may_run (w := w)
  rcases hm_cases v w with ⟨h1, h2, a, b, c, d⟩ | ⟨h1, h2, h⟩
  · rw [h1, h2]
    rw [decide_eq_true (show 1 ≤ w ∧ w ≤ 16 from ⟨c, d⟩)] at gm
    have q : 0 ≤ (v * 40503 + 12345).tmod 65536 := Int.tmod_nonneg _ (by omega)
    have q2 := Int.tmod_lt_of_pos (v * 40503 + 12345) (show (0 : Int) < 65536 by omega)
    simp (config := { maxSteps := 1000000 }) (disch := omega) only [go_sem, ↓reduceIte, Nat.reduceEqDiff, Nat.reduceAdd, Int.reduceToNat, reduceCtorEq, Nat.reduceLeDiff, Nat.reduceSub, Nat.reduceDiv, Nat.reduceMod, Nat.reduceMul, d1237, gm]
  · rw [h1, h2]
    by_cases a : v < 0
    · simp (config := { maxSteps := 1000000 }) (disch := omega) only [go_sem, ↓reduceIte, Nat.reduceEqDiff, Nat.reduceAdd, Int.reduceToNat, reduceCtorEq, Nat.reduceLeDiff, Nat.reduceSub, Nat.reduceDiv, Nat.reduceMod, Nat.reduceMul, d1237, gm]
    by_cases b : 1000000 < v
    · simp (config := { maxSteps := 1000000 }) (disch := omega) only [go_sem, ↓reduceIte, Nat.reduceEqDiff, Nat.reduceAdd, Int.reduceToNat, reduceCtorEq, Nat.reduceLeDiff, Nat.reduceSub, Nat.reduceDiv, Nat.reduceMod, Nat.reduceMul, d1237, gm]
    rw [decide_eq_false (show ¬ (1 ≤ w ∧ w ≤ 16) by omega)] at gm
    simp (config := { maxSteps := 1000000 }) (disch := omega) only [go_sem, ↓reduceIte, Nat.reduceEqDiff, Nat.reduceAdd, Int.reduceToNat, reduceCtorEq, Nat.reduceLeDiff, Nat.reduceSub, Nat.reduceDiv, Nat.reduceMod, Nat.reduceMul, d1237, gm]
theorem rhome_run {v w : Int} : runP tab 1238 [.int .i64 v, .int .i64 w] [] = some (.tup [.int .i64 (hmR v w), .bool (hmOk v w)], []) := by
  refine runP_fn t1238 rfl ?_
  rcases hm_cases v w with ⟨h1, h2, a, b, c, d⟩ | ⟨h1, h2, h⟩
  · rw [h1, h2]
    have q : 0 ≤ (v * 40503 + 12345).tmod 65536 := Int.tmod_nonneg _ (by omega)
    have q2 := Int.tmod_lt_of_pos (v * 40503 + 12345) (show (0 : Int) < 65536 by omega)
    simp (config := { maxSteps := 1000000 }) (disch := omega) only [go_sem, ↓reduceIte, Nat.reduceEqDiff, Nat.reduceAdd, Int.reduceToNat, reduceCtorEq, Nat.reduceLeDiff, Nat.reduceSub, Nat.reduceDiv, Nat.reduceMod, Nat.reduceMul, d1238]
  · rw [h1, h2]
    by_cases a : v < 0
    · simp (config := { maxSteps := 1000000 }) (disch := omega) only [go_sem, ↓reduceIte, Nat.reduceEqDiff, Nat.reduceAdd, Int.reduceToNat, reduceCtorEq, Nat.reduceLeDiff, Nat.reduceSub, Nat.reduceDiv, Nat.reduceMod, Nat.reduceMul, d1238]
    by_cases b : 1000000 < v
    · simp (config := { maxSteps := 1000000 }) (disch := omega) only [go_sem, ↓reduceIte, Nat.reduceEqDiff, Nat.reduceAdd, Int.reduceToNat, reduceCtorEq, Nat.reduceLeDiff, Nat.reduceSub, Nat.reduceDiv, Nat.reduceMod, Nat.reduceMul, d1238]
    by_cases c : w < 1
    · simp (config := { maxSteps := 1000000 }) (disch := omega) only [go_sem, ↓reduceIte, Nat.reduceEqDiff, Nat.reduceAdd, Int.reduceToNat, reduceCtorEq, Nat.reduceLeDiff, Nat.reduceSub, Nat.reduceDiv, Nat.reduceMod, Nat.reduceMul, d1238]
    simp (config := { maxSteps := 1000000 }) (disch := omega) only [go_sem, ↓reduceIte, Nat.reduceEqDiff, Nat.reduceAdd, Int.reduceToNat, reduceCtorEq, Nat.reduceLeDiff, Nat.reduceSub, Nat.reduceDiv, Nat.reduceMod, Nat.reduceMul, d1238]
def okB (k : Ky) : Bool := decide (0 ≤ k.s ∧ k.s ≤ 1000) && (decide (0 ≤ k.d ∧ k.d ≤ 1) && decide (0 ≤ k.v ∧ k.v ≤ 199))
def kyC (k : Ky) : List AV := [.int .i64 k.s, .int .i64 k.d, .int .i64 k.v]
theorem within_run {n m : Int} : runP tab 1054 [.int .i64 n, .int .i64 m] [] = some (.bool (decide (0 ≤ n ∧ n ≤ m)), []) := by
  refine runP_fn t1054 rfl ?_
  by_cases h1 : 0 ≤ n
  · by_cases h2 : n ≤ m
    · have e : decide (0 ≤ n ∧ n ≤ m) = true := by simp [h1, h2]
      rw [e]; simp (config := { maxSteps := 1000000 }) (disch := omega) only [go_sem, ↓reduceIte, Nat.reduceEqDiff, Nat.reduceAdd, Int.reduceToNat, reduceCtorEq, Nat.reduceLeDiff, Nat.reduceSub, Nat.reduceDiv, Nat.reduceMod, Nat.reduceMul, d1054]
    · have e : decide (0 ≤ n ∧ n ≤ m) = false := by simp [h2]
      rw [e]; simp (config := { maxSteps := 1000000 }) (disch := omega) only [go_sem, ↓reduceIte, Nat.reduceEqDiff, Nat.reduceAdd, Int.reduceToNat, reduceCtorEq, Nat.reduceLeDiff, Nat.reduceSub, Nat.reduceDiv, Nat.reduceMod, Nat.reduceMul, d1054]
  · have e : decide (0 ≤ n ∧ n ≤ m) = false := by simp [h1]
    rw [e]; simp (config := { maxSteps := 1000000 }) (disch := omega) only [go_sem, ↓reduceIte, Nat.reduceEqDiff, Nat.reduceAdd, Int.reduceToNat, reduceCtorEq, Nat.reduceLeDiff, Nat.reduceSub, Nat.reduceDiv, Nat.reduceMod, Nat.reduceMul, d1054]
theorem ownm_run {l : List Ml} (h : l.length ≤ 1000000) : runP tab 1111 [.sl 4 (mls l)] [] = some (.vec 4 (mls l), []) := by
  refine runP_fn t1111 rfl ?_
  simp (config := { maxSteps := 1000000 }) (disch := omega) only [go_sem, ↓reduceIte, Nat.reduceEqDiff, Nat.reduceAdd, Int.reduceToNat, reduceCtorEq, Nat.reduceLeDiff, Nat.reduceSub, Nat.reduceDiv, Nat.reduceMod, Nat.reduceMul, d1111]
theorem mls_at2 (a b : List Ml) (hl : a.length = b.length) : (∀ i, i < a.length → a.getD i default = b.getD i default) ∧ a = b ∨ ∃ n, n < a.length ∧ (∀ i, i < n → a.getD i default = b.getD i default) ∧ a.getD n default ≠ b.getD n default ∧ a ≠ b := by
  rcases first_ix (fun i => a.getD i default = b.getD i default) a.length with h | ⟨m, h1, h2, h3⟩
  · refine .inl ⟨h, List.ext_getElem hl fun i x y => ?_⟩
    have := h i x
    rwa [List.getD_eq_getElem?_getD, List.getD_eq_getElem?_getD, List.getElem?_eq_getElem x, List.getElem?_eq_getElem y] at this
  · exact .inr ⟨m, h1, h2, h3, by rintro rfl; exact h3 rfl⟩
theorem ml_enc (a b c d : Int) : encA [.int .i64 a, .int .i64 b, .int .i64 c, .int .i64 d] = 40 := rfl
theorem ml_eq (x y : Ml) : aeqL [.int .i64 x.s, .int .i64 x.b, .int .i64 x.v, .int .i64 x.d] [.int .i64 y.s, .int .i64 y.b, .int .i64 y.v, .int .i64 y.d] = some (decide (x = y)) := by
  obtain ⟨a, b, c, d⟩ := x
  obtain ⟨e, f, g, h⟩ := y
  simp only [aeqL, aeq, if_true, Option.bind_some, Option.map_some, Bool.and_true, Option.some.injEq]
  rw [Bool.eq_iff_iff]
  simp only [Bool.and_eq_true, beq_iff_eq, decide_eq_true_eq, Ml.mk.injEq]
theorem same16_run {a b : List Ml} (ha : a.length ≤ 1000000) (hb : b.length ≤ 1000000) : runP tab 1120 [.sl 4 (mls a), .sl 4 (mls b)] [] = some (.bool (decide (a = b)), []) := by
  refine runP_fn t1120 rfl ?_
  by_cases hl : a.length = b.length
  · simp (config := { maxSteps := 1000000 }) (disch := omega) only [go_sem, ↓reduceIte, Nat.reduceEqDiff, Nat.reduceAdd, Int.reduceToNat, reduceCtorEq, Nat.reduceLeDiff, Nat.reduceSub, Nat.reduceDiv, Nat.reduceMod, Nat.reduceMul, d1120]
    rcases mls_at2 a b hl with ⟨h1, h2⟩ | ⟨k, h0, h1, h2, h3⟩
    · rw [decide_eq_true h2]
      refine Ev_loop0 (fun i => ⟨[(0, .sl 4 (mls a)), (1, .sl 4 (mls b)), (5, .int .i64 (i : Int))], [], 0, [(0, 0, [0, 1, 5], [])]⟩) a.length rfl (fun i hi => ?_) ?_
      · have e := h1 i (by omega)
        have q1 := mls_at (l := a) hi
        have q2 := mls_at (l := b) (show i < b.length by omega)
        rw [e] at q1
        simp only [mlC] at q1 q2
        have qe := ml_eq (b.getD i default) (b.getD i default)
        rw [decide_eq_true rfl] at qe
        simp (config := { maxSteps := 1000000 }) (disch := omega) only [go_sem, ↓reduceIte, Nat.reduceEqDiff, Nat.reduceAdd, Int.reduceToNat, reduceCtorEq, Nat.reduceLeDiff, Nat.reduceSub, Nat.reduceDiv, Nat.reduceMod, Nat.reduceMul, d1120_b0, q1, q2, ml_enc, qe]
      · simp (config := { maxSteps := 1000000 }) (disch := omega) only [go_sem, ↓reduceIte, Nat.reduceEqDiff, Nat.reduceAdd, Int.reduceToNat, reduceCtorEq, Nat.reduceLeDiff, Nat.reduceSub, Nat.reduceDiv, Nat.reduceMod, Nat.reduceMul, d1120_b0]
    · rw [decide_eq_false h3]
      refine Ev_loop0 (fun i => ⟨[(0, .sl 4 (mls a)), (1, .sl 4 (mls b)), (5, .int .i64 (i : Int))], [], 0, [(0, 0, [0, 1, 5], [])]⟩) k rfl (fun i hi => ?_) ?_
      · have e := h1 i (by omega)
        have q1 := mls_at (l := a) (show i < a.length by omega)
        have q2 := mls_at (l := b) (show i < b.length by omega)
        rw [e] at q1
        simp only [mlC] at q1 q2
        have qe := ml_eq (b.getD i default) (b.getD i default)
        rw [decide_eq_true rfl] at qe
        simp (config := { maxSteps := 1000000 }) (disch := omega) only [go_sem, ↓reduceIte, Nat.reduceEqDiff, Nat.reduceAdd, Int.reduceToNat, reduceCtorEq, Nat.reduceLeDiff, Nat.reduceSub, Nat.reduceDiv, Nat.reduceMod, Nat.reduceMul, d1120_b0, q1, q2, ml_enc, qe]
      · have q1 := mls_at (l := a) h0
        have q2 := mls_at (l := b) (show k < b.length by omega)
        simp only [mlC] at q1 q2
        generalize a.getD k default = x at *
        generalize b.getD k default = y at *
        have qe := ml_eq x y
        rw [decide_eq_false h2] at qe
        simp (config := { maxSteps := 1000000 }) (disch := omega) only [go_sem, ↓reduceIte, Nat.reduceEqDiff, Nat.reduceAdd, Int.reduceToNat, reduceCtorEq, Nat.reduceLeDiff, Nat.reduceSub, Nat.reduceDiv, Nat.reduceMod, Nat.reduceMul, d1120_b0, q1, q2, ml_enc, qe]
  · have h : decide (a = b) = false := decide_eq_false (by rintro rfl; exact hl rfl)
    simp (config := { maxSteps := 1000000 }) (disch := omega) only [go_sem, ↓reduceIte, Nat.reduceEqDiff, Nat.reduceAdd, Int.reduceToNat, reduceCtorEq, Nat.reduceLeDiff, Nat.reduceSub, Nat.reduceDiv, Nat.reduceMod, Nat.reduceMul, d1120, h]
theorem fit_mls {v : AV} (h : Fit (.sl 4 [.int .i64, .int .i64, .int .i64, .int .i64]) v) : ∃ l : List Ml, v = .sl 4 (mls l) ∧ l.length ≤ 9223372036854775807 := by
  obtain ⟨rows, rfl, hl, hr⟩ := h
  have : ∃ l : List Ml, rows.flatten = mls l ∧ l.length = rows.length := by
    clear hl
    induction rows with
    | nil => exact ⟨[], rfl, rfl⟩
    | cons r rows ih =>
      obtain ⟨l, h1, h2⟩ := ih (fun r hr' => hr r (by simp [hr']))
      have h4 := hr r (by simp)
      simp only [FitL] at h4
      obtain ⟨v, us, rfl, h5, v2, us2, rfl, h6, v3, us3, rfl, h7, v4, us4, rfl, h8, rfl⟩ := h4
      obtain ⟨a, rfl, _⟩ := fit_int h5
      obtain ⟨b, rfl, _⟩ := fit_int h6
      obtain ⟨c, rfl, _⟩ := fit_int h7
      obtain ⟨d, rfl, _⟩ := fit_int h8
      exact ⟨⟨a, b, c, d⟩ :: l, by simp [h1, mls_cons], by simp [h2]⟩
  obtain ⟨l, h1, h2⟩ := this
  exact ⟨l, by rw [h1], by rw [h2]; unfold maxLen at hl; omega⟩
theorem lst_spec : ∀ {l : List Int}, l ≠ [] → lst l ∈ l ∧ ∀ y ∈ l, lst l ≤ y := by
  intro l
  refine snocIndK (p := fun l => l ≠ [] → lst l ∈ l ∧ ∀ y ∈ l, lst l ≤ y) (by simp) (fun l x ih _ => ?_) l
  by_cases h : l = []
  · subst h; simp [lst]
  · obtain ⟨h1, h2⟩ := ih h
    rw [lst_snoc h]
    split
    · refine ⟨by simp, fun y hy => ?_⟩
      rcases List.mem_append.1 hy with hy | hy
      · have := h2 y hy; omega
      · rw [List.mem_singleton] at hy; omega
    · refine ⟨by simp [h1], fun y hy => ?_⟩
      rcases List.mem_append.1 hy with hy | hy
      · exact h2 y hy
      · rw [List.mem_singleton] at hy; omega
theorem lst_perm {a b : List Int} (h : a.Perm b) : lst a = lst b := by
  by_cases ha : a = []
  · subst ha
    have := h.nil_eq
    rw [← this]
  · have hb : b ≠ [] := fun e => ha (by rw [e] at h; exact h.eq_nil)
    obtain ⟨a1, a2⟩ := lst_spec ha
    obtain ⟨b1, b2⟩ := lst_spec hb
    have := a2 _ (h.mem_iff.2 b1)
    have := b2 _ (h.mem_iff.1 a1)
    omega
theorem lD_perm {a b : List Ml} (h : a.Perm b) : lD a = lD b := by
  funext k
  exact lst_perm ((h.filter _).map _)
theorem kyL_perm {a b : List Ml} (h : a.Perm b) : (kyL a).Perm (kyL b) := by
  refine (List.perm_ext_iff_of_nodup (kyL_nodup a) (kyL_nodup b)).2 fun k => ?_
  rw [kyL_mem, kyL_mem]
  exact ⟨fun ⟨m, h1, h2⟩ => ⟨m, h.mem_iff.1 h1, h2⟩, fun ⟨m, h1, h2⟩ => ⟨m, h.mem_iff.2 h1, h2⟩⟩
def cmb (l : List Ml) : List Ml := (sorted ltT (kyL l)).map fun k => ⟨k.s, k.d, k.v, lD l k⟩
theorem cmb_perm {a b : List Ml} (h : a.Perm b) : cmb a = cmb b := by
  unfold cmb
  rw [lD_perm h, sorted_congrK ordrT (kyL_perm h)]
theorem cmb_cells (l : List Ml) : @mfs (ci l) (sorted ltT (kyL l)) = mls (cmb l) := by
  unfold cmb
  generalize sorted ltT (kyL l) = S
  induction S with
  | nil => rfl
  | cons k S ih => rw [@mfs_cons (ci l), List.map_cons, mls_cons, ih]; rfl
theorem cmb_len (l : List Ml) : (cmb l).length ≤ l.length := by
  unfold cmb; rw [List.length_map, sorted_len]; exact kyL_len l
theorem mls_inj {a b : List Ml} (h : mls a = mls b) : a = b := by
  induction a generalizing b with
  | nil => cases b with
    | nil => rfl
    | cons y b => simp [mls, mlC] at h
  | cons x a ih =>
    cases b with
    | nil => simp [mls, mlC] at h
    | cons y b =>
      simp only [mls_cons, List.cons.injEq, AV.int.injEq, true_and] at h
      obtain ⟨h1, h2, h3, h4, h5⟩ := h
      rw [ih h5]
      congr 1
      cases x; cases y; simp_all
def CmbQ (as : List AV) (hp : List Blk) (l : List Ml) : Prop := as = [.sl 4 (mls l)] ∧ hp = [] ∧ l.length ≤ 60000
open Classical in
noncomputable def gCombine (as : List AV) (hp : List Blk) : Option (AV × List Blk) :=
  if h : ∃ l : List Ml, CmbQ as hp l then some (.vec 4 (mls (cmb h.choose)), []) else none
theorem gCombine_eq {l : List Ml} (hl : l.length ≤ 60000) : gCombine [.sl 4 (mls l)] [] = some (.vec 4 (mls (cmb l)), []) := by
  have hx : ∃ l' : List Ml, CmbQ [.sl 4 (mls l)] [] l' := ⟨l, rfl, rfl, hl⟩
  unfold gCombine
  rw [dif_pos hx]
  have h2 := hx.choose_spec
  generalize hx.choose = q at h2
  obtain ⟨h3, _, _⟩ := h2
  simp only [List.cons.injEq, AV.sl.injEq, and_true, true_and] at h3
  rw [mls_inj h3]
theorem rkey_run {k : Ky} : runP tab 1046 [.agg (kyC k)] [] = some (.bool (okB k), []) := by
  refine runP_fn t1046 rfl ?_
  have g := fun n m => within_run (n := n) (m := m)
  unfold okB
  cases h1 : decide (0 ≤ k.s ∧ k.s ≤ 1000) <;> cases h2 : decide (0 ≤ k.d ∧ k.d ≤ 1) <;> simp (config := { maxSteps := 1000000 }) (disch := omega) only [go_sem, ↓reduceIte, Nat.reduceEqDiff, Nat.reduceAdd, Int.reduceToNat, reduceCtorEq, Nat.reduceLeDiff, Nat.reduceSub, Nat.reduceDiv, Nat.reduceMod, Nat.reduceMul, d1046, kyC, g, h1, h2, Bool.true_and, Bool.false_and]
def okM (m : Ml) : Bool := okB (kyM m) && decide (0 ≤ m.d ∧ m.d ≤ 200)
theorem okM_iff {m : Ml} : okM m = true ↔ ((0 ≤ m.s ∧ m.s ≤ 1000) ∧ (0 ≤ m.b ∧ m.b ≤ 1) ∧ (0 ≤ m.v ∧ m.v ≤ 199)) ∧ (0 ≤ m.d ∧ m.d ≤ 200) := by
  simp only [okM, okB, Bool.and_eq_true, decide_eq_true_eq]
  simp only [kyM]
theorem state_run {m : Ml} : runP tab 1621 [.agg (kyC (kyM m)), .int .i64 m.d] [] = some (.bool (okM m), []) := by
  refine runP_fn t1621 rfl ?_
  have g1 := rkey_run (k := kyM m)
  have g2 := within_run (n := m.d) (m := 200)
  unfold okM
  simp only [kyC] at g1 ⊢
  cases h1 : okB (kyM m) <;> rw [h1] at g1 <;> simp (config := { maxSteps := 1000000 }) (disch := omega) only [go_sem, ↓reduceIte, Nat.reduceEqDiff, Nat.reduceAdd, Int.reduceToNat, reduceCtorEq, Nat.reduceLeDiff, Nat.reduceSub, Nat.reduceDiv, Nat.reduceMod, Nat.reduceMul, d1621, g1, g2, Bool.true_and, Bool.false_and]
theorem rmay14_run {k : Ky} : runP tab 1049 [.agg (kyC k)] [] = some (.bool (okB k), []) := by
  refine runP_fn t1049 rfl ?_
  by_cases h1 : 0 ≤ k.s
  case neg => simp (config := { maxSteps := 1000000 }) (disch := omega) only [go_sem, ↓reduceIte, Nat.reduceEqDiff, Nat.reduceAdd, Int.reduceToNat, reduceCtorEq, Nat.reduceLeDiff, Nat.reduceSub, Nat.reduceDiv, Nat.reduceMod, Nat.reduceMul, d1049, kyC, okB, h1, false_and, decide_false, Bool.false_and]
  by_cases h2 : k.s ≤ 1000
  case neg => simp (config := { maxSteps := 1000000 }) (disch := omega) only [go_sem, ↓reduceIte, Nat.reduceEqDiff, Nat.reduceAdd, Int.reduceToNat, reduceCtorEq, Nat.reduceLeDiff, Nat.reduceSub, Nat.reduceDiv, Nat.reduceMod, Nat.reduceMul, d1049, kyC, okB, h2, and_false, decide_false, Bool.false_and]
  by_cases h3 : 0 ≤ k.v
  case neg =>
    have e : okB k = false := by simp [okB]; omega
    rw [e]
    by_cases h4 : k.d = 0
    · simp (config := { maxSteps := 1000000 }) (disch := omega) only [go_sem, ↓reduceIte, Nat.reduceEqDiff, Nat.reduceAdd, Int.reduceToNat, reduceCtorEq, Nat.reduceLeDiff, Nat.reduceSub, Nat.reduceDiv, Nat.reduceMod, Nat.reduceMul, d1049, kyC]
    · by_cases h5 : k.d = 1
      · simp (config := { maxSteps := 1000000 }) (disch := omega) only [go_sem, ↓reduceIte, Nat.reduceEqDiff, Nat.reduceAdd, Int.reduceToNat, reduceCtorEq, Nat.reduceLeDiff, Nat.reduceSub, Nat.reduceDiv, Nat.reduceMod, Nat.reduceMul, d1049, kyC]
      · simp (config := { maxSteps := 1000000 }) (disch := omega) only [go_sem, ↓reduceIte, Nat.reduceEqDiff, Nat.reduceAdd, Int.reduceToNat, reduceCtorEq, Nat.reduceLeDiff, Nat.reduceSub, Nat.reduceDiv, Nat.reduceMod, Nat.reduceMul, d1049, kyC]
  by_cases h4 : k.d = 0
  · by_cases h6 : k.v < 200
    · have e : okB k = true := by simp [okB]; omega
      rw [e]; simp (config := { maxSteps := 1000000 }) (disch := omega) only [go_sem, ↓reduceIte, Nat.reduceEqDiff, Nat.reduceAdd, Int.reduceToNat, reduceCtorEq, Nat.reduceLeDiff, Nat.reduceSub, Nat.reduceDiv, Nat.reduceMod, Nat.reduceMul, d1049, kyC]
    · have e : okB k = false := by simp [okB]; omega
      rw [e]; simp (config := { maxSteps := 1000000 }) (disch := omega) only [go_sem, ↓reduceIte, Nat.reduceEqDiff, Nat.reduceAdd, Int.reduceToNat, reduceCtorEq, Nat.reduceLeDiff, Nat.reduceSub, Nat.reduceDiv, Nat.reduceMod, Nat.reduceMul, d1049, kyC]
  · by_cases h5 : k.d = 1
    · by_cases h6 : k.v < 200
      · have e : okB k = true := by simp [okB]; omega
        rw [e]; simp (config := { maxSteps := 1000000 }) (disch := omega) only [go_sem, ↓reduceIte, Nat.reduceEqDiff, Nat.reduceAdd, Int.reduceToNat, reduceCtorEq, Nat.reduceLeDiff, Nat.reduceSub, Nat.reduceDiv, Nat.reduceMod, Nat.reduceMul, d1049, kyC]
      · have e : okB k = false := by simp [okB]; omega
        rw [e]; simp (config := { maxSteps := 1000000 }) (disch := omega) only [go_sem, ↓reduceIte, Nat.reduceEqDiff, Nat.reduceAdd, Int.reduceToNat, reduceCtorEq, Nat.reduceLeDiff, Nat.reduceSub, Nat.reduceDiv, Nat.reduceMod, Nat.reduceMul, d1049, kyC]
    · have e : okB k = false := by simp [okB]; omega
      rw [e]; simp (config := { maxSteps := 1000000 }) (disch := omega) only [go_sem, ↓reduceIte, Nat.reduceEqDiff, Nat.reduceAdd, Int.reduceToNat, reduceCtorEq, Nat.reduceLeDiff, Nat.reduceSub, Nat.reduceDiv, Nat.reduceMod, Nat.reduceMul, d1049, kyC]
theorem rmay_run {m : Ml} : runP tab 1622 [.agg (mlC m)] [] = some (.bool (okM m), []) := by
  refine runP_fn t1622 rfl ?_
  have g1 := rmay14_run (k := kyM m)
  unfold okM
  simp only [kyC, kyM] at g1 ⊢
  cases h1 : okB ⟨m.s, m.b, m.v⟩ <;> rw [h1] at g1
  · simp (config := { maxSteps := 1000000 }) (disch := omega) only [go_sem, ↓reduceIte, Nat.reduceEqDiff, Nat.reduceAdd, Int.reduceToNat, reduceCtorEq, Nat.reduceLeDiff, Nat.reduceSub, Nat.reduceDiv, Nat.reduceMod, Nat.reduceMul, d1622, mlC, g1, Bool.false_and]
  · by_cases h2 : 0 ≤ m.d
    · by_cases h3 : m.d ≤ 200
      · rw [decide_eq_true (show 0 ≤ m.d ∧ m.d ≤ 200 from ⟨h2, h3⟩)]
        simp (config := { maxSteps := 1000000 }) (disch := omega) only [go_sem, ↓reduceIte, Nat.reduceEqDiff, Nat.reduceAdd, Int.reduceToNat, reduceCtorEq, Nat.reduceLeDiff, Nat.reduceSub, Nat.reduceDiv, Nat.reduceMod, Nat.reduceMul, d1622, mlC, g1, Bool.true_and]
      · rw [decide_eq_false (show ¬ (0 ≤ m.d ∧ m.d ≤ 200) by omega)]
        simp (config := { maxSteps := 1000000 }) (disch := omega) only [go_sem, ↓reduceIte, Nat.reduceEqDiff, Nat.reduceAdd, Int.reduceToNat, reduceCtorEq, Nat.reduceLeDiff, Nat.reduceSub, Nat.reduceDiv, Nat.reduceMod, Nat.reduceMul, d1622, mlC, g1, Bool.true_and]
    · rw [decide_eq_false (show ¬ (0 ≤ m.d ∧ m.d ≤ 200) by omega)]
      simp (config := { maxSteps := 1000000 }) (disch := omega) only [go_sem, ↓reduceIte, Nat.reduceEqDiff, Nat.reduceAdd, Int.reduceToNat, reduceCtorEq, Nat.reduceLeDiff, Nat.reduceSub, Nat.reduceDiv, Nat.reduceMod, Nat.reduceMul, d1622, mlC, g1, Bool.true_and]
def okMs (l : List Ml) : Bool := l.all okM
theorem okMs_cases (l : List Ml) : (okMs l = true ∧ ∀ i, i < l.length → okM (l.getD i default) = true) ∨ (okMs l = false ∧ ∃ n, n < l.length ∧ (∀ i, i < n → okM (l.getD i default) = true) ∧ okM (l.getD n default) = false) := by
  rcases first_ix (fun i => okM (l.getD i default) = true) l.length with h | ⟨n, h1, h2, h3⟩
  · refine .inl ⟨List.all_eq_true.2 fun x hx => ?_, h⟩
    obtain ⟨i, hi, rfl⟩ := List.getElem_of_mem hx
    have := h i hi
    rwa [List.getD_eq_getElem?_getD, List.getElem?_eq_getElem hi] at this
  · have h3 : okM (l.getD n default) = false := by simpa using h3
    refine .inr ⟨?_, n, h1, h2, h3⟩
    refine Bool.eq_false_iff.2 fun h => ?_
    have := List.all_eq_true.1 h (l.getD n default) (by rw [List.getD_eq_getElem?_getD, List.getElem?_eq_getElem h1]; exact List.getElem_mem h1)
    rw [this] at h3; cases h3
theorem check_run {l : List Ml} (hl : l.length ≤ 1000000) : runP tab 1615 [.sl 4 (mls l)] [] = some (.bool (okMs l), []) := by
  refine runP_fn t1615 rfl ?_
  have L := mls_len l
  have Ld : l.length * 4 / 4 = l.length := by omega
  simp (config := { maxSteps := 1000000 }) (disch := omega) only [go_sem, ↓reduceIte, Nat.reduceEqDiff, Nat.reduceAdd, Int.reduceToNat, reduceCtorEq, Nat.reduceLeDiff, Nat.reduceSub, Nat.reduceDiv, Nat.reduceMod, Nat.reduceMul, d1615, L, Ld]
  have st : ∀ i, i < l.length → rdc (mls (l.drop i)) (some 4) = some (.agg (mlC (l.getD i default))) ∧ runP tab 1621 [.agg (kyC (kyM (l.getD i default))), .int .i64 (l.getD i default).d] [] = some (.bool (okM (l.getD i default)), []) := fun i hi => ⟨mls_at hi, state_run⟩
  rcases okMs_cases l with ⟨h, ha⟩ | ⟨h, n, hn, ha, hb⟩
  · rw [h]
    refine Ev_loop0 (fun i => ⟨[(5, .sl 4 (mls l)), (6, .int .i64 l.length), (7, .int .i64 (i : Int))], [], 0, [(0, 0, [5, 6, 7], [])]⟩) l.length rfl (fun i hi => ?_) ?_
    · obtain ⟨q, g⟩ := st i hi
      rw [ha i hi] at g
      generalize l.getD i default = m at *
      simp only [mlC, kyC, kyM] at q g
      simp (config := { maxSteps := 1000000 }) (disch := omega) only [go_sem, ↓reduceIte, Nat.reduceEqDiff, Nat.reduceAdd, Int.reduceToNat, reduceCtorEq, Nat.reduceLeDiff, Nat.reduceSub, Nat.reduceDiv, Nat.reduceMod, Nat.reduceMul, d1615_b0, q, g, L, Ld]
    · simp (config := { maxSteps := 1000000 }) (disch := omega) only [go_sem, ↓reduceIte, Nat.reduceEqDiff, Nat.reduceAdd, Int.reduceToNat, reduceCtorEq, Nat.reduceLeDiff, Nat.reduceSub, Nat.reduceDiv, Nat.reduceMod, Nat.reduceMul, d1615_b0, L, Ld]
  · rw [h]
    refine Ev_loop0 (fun i => ⟨[(5, .sl 4 (mls l)), (6, .int .i64 l.length), (7, .int .i64 (i : Int))], [], 0, [(0, 0, [5, 6, 7], [])]⟩) n rfl (fun i hi => ?_) ?_
    · obtain ⟨q, g⟩ := st i (by omega)
      rw [ha i hi] at g
      generalize l.getD i default = m at *
      simp only [mlC, kyC, kyM] at q g
      simp (config := { maxSteps := 1000000 }) (disch := omega) only [go_sem, ↓reduceIte, Nat.reduceEqDiff, Nat.reduceAdd, Int.reduceToNat, reduceCtorEq, Nat.reduceLeDiff, Nat.reduceSub, Nat.reduceDiv, Nat.reduceMod, Nat.reduceMul, d1615_b0, q, g, L, Ld]
    · obtain ⟨q, g⟩ := st n hn
      rw [hb] at g
      generalize l.getD n default = m at *
      simp only [mlC, kyC, kyM] at q g
      simp (config := { maxSteps := 1000000 }) (disch := omega) only [go_sem, ↓reduceIte, Nat.reduceEqDiff, Nat.reduceAdd, Int.reduceToNat, reduceCtorEq, Nat.reduceLeDiff, Nat.reduceSub, Nat.reduceDiv, Nat.reduceMod, Nat.reduceMul, d1615_b0, q, g, L, Ld]
theorem rcheck_run {l : List Ml} (hl : l.length ≤ 1000000) : runP tab 1616 [.sl 4 (mls l)] [] = some (.bool (okMs l), []) := by
  refine runP_fn t1616 rfl ?_
  have L := mls_len l
  have Ld : l.length * 4 / 4 = l.length := by omega
  simp (config := { maxSteps := 1000000 }) (disch := omega) only [go_sem, ↓reduceIte, Nat.reduceEqDiff, Nat.reduceAdd, Int.reduceToNat, reduceCtorEq, Nat.reduceLeDiff, Nat.reduceSub, Nat.reduceDiv, Nat.reduceMod, Nat.reduceMul, d1616, L, Ld]
  have st : ∀ i, i < l.length → rdc (mls (l.drop i)) (some 4) = some (.agg (mlC (l.getD i default))) ∧ runP tab 1622 [.agg (mlC (l.getD i default))] [] = some (.bool (okM (l.getD i default)), []) := fun i hi => ⟨mls_at hi, rmay_run⟩
  rcases okMs_cases l with ⟨h, ha⟩ | ⟨h, n, hn, ha, hb⟩
  · rw [h]
    refine Ev_loop0 (fun i => ⟨[(0, .sl 4 (mls l)), (3, .int .i64 (i : Int))], [], 0, [(0, 0, [0, 3], [])]⟩) l.length rfl (fun i hi => ?_) ?_
    · obtain ⟨q, g⟩ := st i hi
      rw [ha i hi] at g
      generalize l.getD i default = m at *
      simp only [mlC] at q g
      simp (config := { maxSteps := 1000000 }) (disch := omega) only [go_sem, ↓reduceIte, Nat.reduceEqDiff, Nat.reduceAdd, Int.reduceToNat, reduceCtorEq, Nat.reduceLeDiff, Nat.reduceSub, Nat.reduceDiv, Nat.reduceMod, Nat.reduceMul, d1616_b0, q, g, L, Ld]
    · simp (config := { maxSteps := 1000000 }) (disch := omega) only [go_sem, ↓reduceIte, Nat.reduceEqDiff, Nat.reduceAdd, Int.reduceToNat, reduceCtorEq, Nat.reduceLeDiff, Nat.reduceSub, Nat.reduceDiv, Nat.reduceMod, Nat.reduceMul, d1616_b0, L, Ld]
  · rw [h]
    refine Ev_loop0 (fun i => ⟨[(0, .sl 4 (mls l)), (3, .int .i64 (i : Int))], [], 0, [(0, 0, [0, 3], [])]⟩) n rfl (fun i hi => ?_) ?_
    · obtain ⟨q, g⟩ := st i (by omega)
      rw [ha i hi] at g
      generalize l.getD i default = m at *
      simp only [mlC] at q g
      simp (config := { maxSteps := 1000000 }) (disch := omega) only [go_sem, ↓reduceIte, Nat.reduceEqDiff, Nat.reduceAdd, Int.reduceToNat, reduceCtorEq, Nat.reduceLeDiff, Nat.reduceSub, Nat.reduceDiv, Nat.reduceMod, Nat.reduceMul, d1616_b0, q, g, L, Ld]
    · obtain ⟨q, g⟩ := st n hn
      rw [hb] at g
      generalize l.getD n default = m at *
      simp only [mlC] at q g
      simp (config := { maxSteps := 1000000 }) (disch := omega) only [go_sem, ↓reduceIte, Nat.reduceEqDiff, Nat.reduceAdd, Int.reduceToNat, reduceCtorEq, Nat.reduceLeDiff, Nat.reduceSub, Nat.reduceDiv, Nat.reduceMod, Nat.reduceMul, d1616_b0, q, g, L, Ld]
end Go.Proofs.Ytpbdbhpneihopaa

namespace Go.Proofs.Ytpbdbhpneihopaa
set_option linter.unusedSimpArgs false
set_option linter.unusedVariables false
set_option maxHeartbeats 4000000
set_option maxRecDepth 100000
def prB (m : Ml) : List UInt8 := encL [m.s, m.b, m.v, m.d]
def prM (l : List Ml) : List UInt8 := encN l.length ++ l.flatMap prB
def rng (x : Int) : Prop := 0 ≤ x ∧ x ≤ 2147483647
theorem okM_rng {m : Ml} (h : okM m = true) : ∀ x ∈ [m.s, m.b, m.v, m.d], 0 ≤ x ∧ x ≤ 2147483647 := by
  have := okM_iff.1 h
  intro x hx
  simp only [List.mem_cons, List.not_mem_nil, or_false] at hx
  rcases hx with rfl | rfl | rfl | rfl <;> omega
theorem prB_len {m : Ml} (h : okM m = true) : (prB m).length ≤ 20 := by
  have := encL_len (okM_rng h)
  simpa [prB] using this
theorem prs_len {l : List Ml} (h : ∀ m ∈ l, okM m = true) : (l.flatMap prB).length ≤ 20 * l.length := by
  induction l with
  | nil => simp
  | cons m l ih =>
    have h1 := prB_len (h m (by simp))
    have h2 := ih (fun x hx => h x (by simp [hx]))
    simp only [List.flatMap_cons, List.length_append, List.length_cons]
    omega
theorem mls_open {l : List Ml} {i : Nat} (h : i < l.length) : mls (l.drop i) = .int .i64 (l.getD i default).s :: .int .i64 (l.getD i default).b :: .int .i64 (l.getD i default).v :: .int .i64 (l.getD i default).d :: mls (l.drop (i + 1)) := by
  rw [List.drop_eq_getElem_cons h, mls_cons, List.getD_eq_getElem?_getD, List.getElem?_eq_getElem h]; rfl
def printA (l : List Ml) : List AV := if 1000 < l.length then [.str [], .int .i64 2] else if okMs l then [.str (prM l), .int .i64 0] else [.str [], .int .i64 1]
theorem okMs_at {l : List Ml} (h : okMs l = true) {i : Nat} (hi : i < l.length) : okM (l.getD i default) = true := by
  rw [List.getD_eq_getElem?_getD, List.getElem?_eq_getElem hi]
  exact List.all_eq_true.1 h _ (List.getElem_mem hi)
theorem okMs_mem {l : List Ml} (h : okMs l = true) : ∀ m ∈ l, okM m = true := List.all_eq_true.1 h
theorem print_run {l : List Ml} (hl : l.length ≤ 1000000) : runP tab 1612 [.sl 4 (mls l)] [] = some (.tup (printA l), []) := by
  refine runP_fn t1612 rfl ?_
  have L := mls_len l
  have Ld : l.length * 4 / 4 = l.length := by omega
  have gc := check_run hl
  unfold printA
  by_cases h1 : 1000 < l.length
  · rw [if_pos h1]
    simp (config := { maxSteps := 1000000 }) (disch := omega) only [go_sem, ↓reduceIte, Nat.reduceEqDiff, Nat.reduceAdd, Int.reduceToNat, reduceCtorEq, Nat.reduceLeDiff, Nat.reduceSub, Nat.reduceDiv, Nat.reduceMod, Nat.reduceMul, d1612, L, Ld]
  rw [if_neg h1]
  cases h2 : okMs l with
  | false =>
    rw [h2] at gc
    simp (config := { maxSteps := 1000000 }) (disch := omega) only [go_sem, ↓reduceIte, Nat.reduceEqDiff, Nat.reduceAdd, Int.reduceToNat, reduceCtorEq, Nat.reduceLeDiff, Nat.reduceSub, Nat.reduceDiv, Nat.reduceMod, Nat.reduceMul, d1612, L, Ld, gc, Bool.false_eq_true, if_false]
  | true =>
    rw [h2] at gc
    have gl := lays_run (l := [(l.length : Int)]) (by simp) (fun x hx => by simp at hx; omega)
    simp only [ints, List.map_cons, List.map_nil, encL, List.flatMap_cons, List.flatMap_nil, List.append_nil, Int.toNat_natCast] at gl
    have k0 := encN_len (n := l.length) (by omega)
    have k1 := prs_len (l := l) (okMs_mem h2)
    simp (config := { maxSteps := 1000000 }) (disch := omega) only [go_sem, ↓reduceIte, Nat.reduceEqDiff, Nat.reduceAdd, Int.reduceToNat, reduceCtorEq, Nat.reduceLeDiff, Nat.reduceSub, Nat.reduceDiv, Nat.reduceMod, Nat.reduceMul, d1612, L, Ld, gc, gl, if_true]
    refine Ev_loop0 (fun i => ⟨[(4, .str (encN l.length ++ (l.take i).flatMap prB)), (17, .sl 4 (mls l)), (18, .int .i64 l.length), (19, .int .i64 (i : Int))], [], 0, [(0, 0, [4, 17, 18, 19], [])]⟩) l.length (by simp) (fun i hi => ?_) ?_
    · have q := mls_at hi
      have hm := okMs_at h2 hi
      have k2 := prB_len hm
      have k3 := prs_len (l := l.take i) (fun m hm => okMs_mem h2 m (List.mem_of_mem_take hm))
      rw [List.length_take] at k3
      have gm := lays_run (l := [(l.getD i default).s, (l.getD i default).b, (l.getD i default).v, (l.getD i default).d]) (by simp) (okM_rng hm)
      simp only [ints, List.map_cons, List.map_nil] at gm
      rw [take_snoc default hi, List.flatMap_append, ← List.append_assoc]
      have e1 : List.flatMap prB [l.getD i default] = encL [(l.getD i default).s, (l.getD i default).b, (l.getD i default).v, (l.getD i default).d] := by simp [prB]
      rw [e1]
      unfold prB at k2
      generalize l.getD i default = m at *
      simp only [mlC] at q
      simp (config := { maxSteps := 1000000 }) (disch := omega) only [go_sem, ↓reduceIte, Nat.reduceEqDiff, Nat.reduceAdd, Int.reduceToNat, reduceCtorEq, Nat.reduceLeDiff, Nat.reduceSub, Nat.reduceDiv, Nat.reduceMod, Nat.reduceMul, d1612_b0, q, gm, L, Ld, List.length_append]
    · rw [List.take_length]
      simp (config := { maxSteps := 1000000 }) (disch := omega) only [go_sem, ↓reduceIte, Nat.reduceEqDiff, Nat.reduceAdd, Int.reduceToNat, reduceCtorEq, Nat.reduceLeDiff, Nat.reduceSub, Nat.reduceDiv, Nat.reduceMod, Nat.reduceMul, d1612_b0, L, Ld, prM]
theorem rprint_run {l : List Ml} (hl : l.length ≤ 1000000) : runP tab 1613 [.sl 4 (mls l)] [] = some (.tup (printA l), []) := by
  refine runP_fn t1613 rfl ?_
  have L := mls_len l
  have Ld : l.length * 4 / 4 = l.length := by omega
  have gc := rcheck_run hl
  unfold printA
  by_cases h1 : 1000 < l.length
  · rw [if_pos h1]
    simp (config := { maxSteps := 1000000 }) (disch := omega) only [go_sem, ↓reduceIte, Nat.reduceEqDiff, Nat.reduceAdd, Int.reduceToNat, reduceCtorEq, Nat.reduceLeDiff, Nat.reduceSub, Nat.reduceDiv, Nat.reduceMod, Nat.reduceMul, d1613, L, Ld]
  rw [if_neg h1]
  cases h2 : okMs l with
  | false =>
    rw [h2] at gc
    simp (config := { maxSteps := 1000000 }) (disch := omega) only [go_sem, ↓reduceIte, Nat.reduceEqDiff, Nat.reduceAdd, Int.reduceToNat, reduceCtorEq, Nat.reduceLeDiff, Nat.reduceSub, Nat.reduceDiv, Nat.reduceMod, Nat.reduceMul, d1613, L, Ld, gc, Bool.false_eq_true, if_false]
  | true =>
    rw [h2] at gc
    have gl := rnumber_run (n := (l.length : Int)) (by omega) (by omega)
    rw [Int.toNat_natCast] at gl
    have k0 := encN_len (n := l.length) (by omega)
    have k1 := prs_len (l := l) (okMs_mem h2)
    simp (config := { maxSteps := 1000000 }) (disch := omega) only [go_sem, ↓reduceIte, Nat.reduceEqDiff, Nat.reduceAdd, Int.reduceToNat, reduceCtorEq, Nat.reduceLeDiff, Nat.reduceSub, Nat.reduceDiv, Nat.reduceMod, Nat.reduceMul, d1613, L, Ld, gc, gl, if_true]
    refine Ev_loop0 (fun i => ⟨[(0, .sl 4 (mls l)), (4, .str (encN l.length ++ (l.take i).flatMap prB)), (6, .int .i64 (i : Int))], [], 0, [(0, 0, [0, 4, 6], [])]⟩) l.length (by simp) (fun i hi => ?_) ?_
    · have q := mls_open hi
      have hm := okMs_at h2 hi
      have k2 := prB_len hm
      have k3 := prs_len (l := l.take i) (fun m hm => okMs_mem h2 m (List.mem_of_mem_take hm))
      rw [List.length_take] at k3
      have hr := okM_rng hm
      have g1 := rnumber_run (hr (l.getD i default).s (by simp)).1 (hr (l.getD i default).s (by simp)).2
      have g2 := rnumber_run (hr (l.getD i default).b (by simp)).1 (hr (l.getD i default).b (by simp)).2
      have g3 := rnumber_run (hr (l.getD i default).v (by simp)).1 (hr (l.getD i default).v (by simp)).2
      have g4 := rnumber_run (hr (l.getD i default).d (by simp)).1 (hr (l.getD i default).d (by simp)).2
      rw [take_snoc default hi, List.flatMap_append, ← List.append_assoc]
      have e1 : List.flatMap prB [l.getD i default] = encN (l.getD i default).s.toNat ++ (encN (l.getD i default).b.toNat ++ (encN (l.getD i default).v.toNat ++ encN (l.getD i default).d.toNat)) := by simp [prB, encL]
      rw [e1, ← List.append_assoc, ← List.append_assoc, ← List.append_assoc]
      have e2 : (prB (l.getD i default)).length = (encN (l.getD i default).s.toNat).length + ((encN (l.getD i default).b.toNat).length + ((encN (l.getD i default).v.toNat).length + (encN (l.getD i default).d.toNat).length)) := by simp [prB, encL]
      rw [e2] at k2
      generalize l.getD i default = m at *
      simp (config := { maxSteps := 1000000 }) (disch := omega) only [go_sem, ↓reduceIte, Nat.reduceEqDiff, Nat.reduceAdd, Int.reduceToNat, reduceCtorEq, Nat.reduceLeDiff, Nat.reduceSub, Nat.reduceDiv, Nat.reduceMod, Nat.reduceMul, d1613_b0, q, List.drop_succ_cons, List.drop_zero, rdc, List.head?_cons, g1, g2, g3, g4, L, Ld, List.length_append]
    · rw [List.take_length]
      simp (config := { maxSteps := 1000000 }) (disch := omega) only [go_sem, ↓reduceIte, Nat.reduceEqDiff, Nat.reduceAdd, Int.reduceToNat, reduceCtorEq, Nat.reduceLeDiff, Nat.reduceSub, Nat.reduceDiv, Nat.reduceMod, Nat.reduceMul, d1613_b0, L, Ld, prM]
end Go.Proofs.Ytpbdbhpneihopaa

namespace Go.Proofs.Ytpbdbhpneihopaa
set_option linter.unusedSimpArgs false
set_option linter.unusedVariables false
set_option maxHeartbeats 4000000
set_option maxRecDepth 100000
theorem encL_cons (x : Int) (l : List Int) : encL (x :: l) = encN x.toNat ++ encL l := by simp [encL]
theorem rsK_sound : ∀ {m : Nat} {s : List UInt8} {j e : Nat} {acc l : List Int}, j ≤ s.length → rsK m s j acc = some (l, e) → ∃ q : List Int, l = acc ++ q ∧ s.take e = s.take j ++ encL q ∧ (∀ x ∈ q, 0 ≤ x ∧ x ≤ 2147483647) ∧ e ≤ s.length
  | 0, s, j, e, acc, l, hj, h => by
    simp only [rsK, Option.some.injEq, Prod.mk.injEq] at h
    obtain ⟨rfl, rfl⟩ := h
    exact ⟨[], by simp, by simp [encL], by simp, hj⟩
  | m + 1, s, j, e, acc, l, hj, h => by
    simp only [rsK] at h
    split at h
    · rename_i n e' hr
      obtain ⟨h1, h2, h3, h4⟩ := rdN_sound hr
      obtain ⟨q, rfl, k2, k3, k4⟩ := rsK_sound h2 h
      refine ⟨(n : Int) :: q, by simp, ?_, ?_, k4⟩
      · rw [k2, h4, encL_cons, Int.toNat_natCast, List.append_assoc]
      · intro x hx
        rcases List.mem_cons.1 hx with rfl | hx
        · omega
        · exact k3 x hx
    · cases h
theorem ml4_of {l : List Int} (h : l.length = 4) : l = [(ml4 l).s, (ml4 l).b, (ml4 l).v, (ml4 l).d] := by
  match l, h with
  | [a, b, c, d], _ => rfl
def rngM (m : Ml) : Prop := ∀ x ∈ [m.s, m.b, m.v, m.d], 0 ≤ x ∧ x ≤ 2147483647
theorem rsM_sound : ∀ {m : Nat} {s : List UInt8} {j e : Nat} {acc l : List Ml}, j ≤ s.length → rsM m s j acc = some (l, e) → ∃ q : List Ml, l = acc ++ q ∧ q.length = m ∧ s.take e = s.take j ++ q.flatMap prB ∧ (∀ x ∈ q, rngM x) ∧ e ≤ s.length
  | 0, s, j, e, acc, l, hj, h => by
    simp only [rsM, Option.some.injEq, Prod.mk.injEq] at h
    obtain ⟨rfl, rfl⟩ := h
    exact ⟨[], by simp, rfl, by simp, by simp, hj⟩
  | m + 1, s, j, e, acc, l, hj, h => by
    simp only [rsM] at h
    split at h
    · rename_i p e' hr
      have hl := rsK_len hr
      obtain ⟨p', hp, k2, k3, k4⟩ := rsK_sound hj hr
      rw [List.nil_append] at hp
      subst hp
      obtain ⟨q, rfl, c1, c2, c3, c4⟩ := rsM_sound k4 h
      have e4 := ml4_of (by simpa using hl)
      refine ⟨ml4 p :: q, by simp, by simp [c1], ?_, ?_, c4⟩
      · rw [c2, k2, List.flatMap_cons, List.append_assoc]
        congr 2
        rw [prB, ← e4]
      · intro x hx
        rcases List.mem_cons.1 hx with rfl | hx
        · unfold rngM; rw [← e4]; exact k3
        · exact c3 x hx
    · cases h
theorem psM_sound {s : List UInt8} {l : List Ml} {e : Nat} (h : psM s = some (l, e)) : s.take e = prM l ∧ e ≤ s.length ∧ l.length ≤ 1000 ∧ ∀ m ∈ l, rngM m := by
  unfold psM at h
  split at h
  case h_2 => cases h
  rename_i n j hr
  split at h
  case isFalse => cases h
  rename_i hn
  obtain ⟨h1, h2, h3, h4⟩ := rdN_sound hr
  obtain ⟨q, rfl, c1, c2, c3, c4⟩ := rsM_sound h2 h
  refine ⟨?_, c4, by simp [c1]; omega, by simpa using c3⟩
  rw [c2, h4]
  simp [prM, c1]
theorem rsK_back : ∀ (l : List Int) (a r : List UInt8) (acc : List Int), (∀ x ∈ l, 0 ≤ x ∧ x ≤ 2147483647) → rsK l.length (a ++ (encL l ++ r)) a.length acc = some (acc ++ l, a.length + (encL l).length)
  | [], a, r, acc, _ => by simp [rsK, encL]
  | x :: l, a, r, acc, h => by
    have hx := h x (by simp)
    have g := rdN_enc (a := a) (r := encL l ++ r) (n := x.toNat) (by omega)
    simp only [List.length_cons, rsK]
    rw [encL_cons, List.append_assoc, g]
    simp only
    have ih := rsK_back l (a ++ encN x.toNat) r (acc ++ [(x.toNat : Int)]) (fun y hy => h y (by simp [hy]))
    rw [List.length_append, List.append_assoc] at ih
    rw [ih, show ((x.toNat : Nat) : Int) = x by omega]
    simp [Nat.add_assoc]
theorem rsM_back : ∀ (l : List Ml) (a r : List UInt8) (acc : List Ml), (∀ m ∈ l, rngM m) → rsM l.length (a ++ (l.flatMap prB ++ r)) a.length acc = some (acc ++ l, a.length + (l.flatMap prB).length)
  | [], a, r, acc, _ => by simp [rsM]
  | m :: l, a, r, acc, h => by
    have g := rsK_back [m.s, m.b, m.v, m.d] a (l.flatMap prB ++ r) [] (h m (by simp))
    simp only [List.length_cons, List.length_nil, List.nil_append] at g
    simp only [List.length_cons, rsM]
    rw [List.flatMap_cons, List.append_assoc, prB, g]
    simp only
    have ih := rsM_back l (a ++ encL [m.s, m.b, m.v, m.d]) r (acc ++ [m]) (fun y hy => h y (by simp [hy]))
    rw [List.length_append, List.append_assoc] at ih
    rw [show ml4 [m.s, m.b, m.v, m.d] = m from rfl, ih]
    simp [Nat.add_assoc]
theorem psM_back {l : List Ml} (hl : l.length ≤ 1000) (h : ∀ m ∈ l, rngM m) (r : List UInt8) : psM (prM l ++ r) = some (l, (prM l).length) := by
  unfold psM prM
  have g := rdN_enc (a := []) (r := l.flatMap prB ++ r) (n := l.length) (by omega)
  simp only [List.nil_append, List.length_nil, Nat.zero_add] at g
  rw [List.append_assoc, g]
  simp only
  rw [if_pos hl, rsM_back l (encN l.length) r [] h]
  simp
theorem alM_iff {s : List UInt8} {l : List Ml} : alM s = some l ↔ (s = prM l ∧ l.length ≤ 1000 ∧ ∀ m ∈ l, rngM m) := by
  constructor
  · intro h
    unfold alM at h
    split at h
    · rename_i l' e hp
      split at h
      · rename_i he
        injection h with h; subst h
        obtain ⟨h1, h2, h3, h4⟩ := psM_sound hp
        exact ⟨by rw [← h1, he, List.take_length], h3, h4⟩
      · cases h
    · cases h
  · rintro ⟨rfl, h1, h2⟩
    have := psM_back h1 h2 []
    rw [List.append_nil] at this
    unfold alM
    rw [this]
    simp
def parseA (s : List UInt8) : List AV := match alM s with
  | some l => if okMs l then [.vec 4 (mls l), .int .i64 0] else [.vec 4 [], .int .i64 220]
  | none => [.vec 4 [], .int .i64 220]
def gWhole : List AV → List Blk → Option (AV × List Blk)
  | [.str s, .clo 1624 [] []], [] => if s.length ≤ 1000000 then some (.tup (wholeA s), []) else none
  | _, _ => none
noncomputable def tabM : Nat → Option Entry := fun k => if k = 1124 then some (.orc gCombine) else if k = 1623 then some (.orc gWhole) else tab k
theorem m1124 : tabM 1124 = some (.orc gCombine) := rfl
theorem m1623 : tabM 1623 = some (.orc gWhole) := rfl
theorem tabM_le : TLe tab tabM := by
  intro k e h
  unfold tabM
  split
  · rename_i hk; subst hk; rw [nd1124] at h; cases h
  · split
    · rename_i hk; subst hk; rw [n1623] at h; cases h
    · exact h
theorem up {k : Nat} {as : List AV} {hps : List Blk} {r : AV × List Blk} (h : runP tab k as hps = some r) : runP tabM k as hps = some r := runP_up tabM_le h
theorem cmb_run {l : List Ml} (hl : l.length ≤ 60000) : runP tabM 1124 [.sl 4 (mls l)] [] = some (.vec 4 (mls (cmb l)), []) := by
  rw [runP_orc m1124]; exact gCombine_eq hl
theorem whole_run {s : List UInt8} (hs : s.length ≤ 1000000) : runP tabM 1623 [.str s, .clo 1624 [] []] [] = some (.tup (wholeA s), []) := by
  rw [runP_orc m1623]
  simp [gWhole, hs]
theorem goodN_of {P : Program} (G : Good P fid tab) (h1 : ∀ f, fid f = some 1124 → EntryOk P fid f (.fn d1124)) : Good P fid tabN := by
  intro f k e hf he
  unfold tabN at he
  split at he
  · rename_i hk; subst hk; injection he with he; subst he; exact h1 f hf
  · exact G f k e hf he
theorem goodM_of {P : Program} (G : Good P fid tab) (GN : Good P fid tabN) (N : NeedIs P) (hC : ∀ f, fid f = some 1623 → Catch P fid f 23 6 wA0 wR2 wR3 wR4 wR5 wB1 wB2 wRs) : Good P fid tabM := by
  intro f k e hf he
  unfold tabM at he
  split at he
  · rename_i hk; subst hk; injection he with he; subst he
    have hthere : FnThere P f := by
      obtain ⟨fn, c, q1, q2, q3, _⟩ := GN f 1124 _ hf u1124
      exact ⟨fn, q1, by rw [q2]; rfl, q3⟩
    refine ⟨hthere, fun as hps r h => ?_⟩
    unfold gCombine at h
    split at h
    · rename_i hx
      injection h with h; subst h
      have hsp := hx.choose_spec
      generalize hx.choose = q at hsp ⊢
      obtain ⟨b1, b2, b3⟩ := hsp
      rw [b1, b2]
      have hc := combine_fn GN b3
      rw [cmb_cells] at hc
      exact (C_ok hc hf).2
    · cases h
  · split at he
    · rename_i hk; subst hk; injection he with he; subst he
      refine ⟨(whole_mail G N (hC f hf) (s := []) (by simp)).1, fun as hps r h => ?_⟩
      unfold gWhole at h
      split at h
      · rename_i s
        split at h
        · rename_i hs
          injection h with h; subst h
          exact (whole_mail G N (hC f hf) hs).2
        · cases h
      · cases h
    · exact G f k e hf he
theorem parse_run {s : List UInt8} (hs : s.length ≤ 1000000) : runP tabM 1618 [.str s] [] = some (.tup (parseA s), []) := by
  refine runP_fn (show tabM 1618 = _ from t1618) rfl ?_
  have g := whole_run hs
  unfold parseA
  cases h : alM s with
  | none =>
    simp only [wholeA, h] at g
    simp (config := { maxSteps := 1000000 }) (disch := omega) only [go_sem, ↓reduceIte, Nat.reduceEqDiff, Nat.reduceAdd, Int.reduceToNat, reduceCtorEq, Nat.reduceLeDiff, Nat.reduceSub, Nat.reduceDiv, Nat.reduceMod, Nat.reduceMul, d1618, g]
  | some l =>
    simp only [wholeA, h] at g
    obtain ⟨_, h1, _⟩ := alM_iff.1 h
    have gc := up (check_run (l := l) (by omega))
    simp only
    cases h2 : okMs l with
    | true =>
      rw [h2] at gc
      simp (config := { maxSteps := 1000000 }) (disch := omega) only [go_sem, ↓reduceIte, Nat.reduceEqDiff, Nat.reduceAdd, Int.reduceToNat, reduceCtorEq, Nat.reduceLeDiff, Nat.reduceSub, Nat.reduceDiv, Nat.reduceMod, Nat.reduceMul, d1618, g, gc, if_true]
    | false =>
      rw [h2] at gc
      simp (config := { maxSteps := 1000000 }) (disch := omega) only [go_sem, ↓reduceIte, Nat.reduceEqDiff, Nat.reduceAdd, Int.reduceToNat, reduceCtorEq, Nat.reduceLeDiff, Nat.reduceSub, Nat.reduceDiv, Nat.reduceMod, Nat.reduceMul, d1618, g, gc, Bool.false_eq_true, if_false]
end Go.Proofs.Ytpbdbhpneihopaa
