import Derived.Test.YtcfhocnbpplecaaUc
namespace Go.Proofs.Ytcfhocnbpplecaa
set_option linter.unusedVariables false
set_option maxHeartbeats 4000000
set_option maxRecDepth 100000
def SrtQ (as : List AV) (hp : List Blk) (b id : Nat) (fr : Bool) (l : List Int) (vs : List AV) : Prop :=
  as = [.clo 1430 [] [.ref b 0]] ∧ hp[b]? = some (.row fr [.mref id]) ∧ hp[id]? = some (.mp (ints l) vs) ∧ hp.all (fun x => x.idlt hp.length) = true ∧ l.length ≤ 60000 ∧ vs.length = l.length
open Classical in
noncomputable def gSorted (as : List AV) (hp : List Blk) : Option (AV × List Blk) :=
  if h : ∃ q : Nat × Nat × Bool × List Int × List AV, SrtQ as hp q.1 q.2.1 q.2.2.1 q.2.2.2.1 q.2.2.2.2 then some (.vec 1 (ints (sorted ltI h.choose.2.2.2.1)), hp) else none
theorem ints_injA {a b : List Int} (h : ints a = ints b) : a = b := by
  induction a generalizing b with
  | nil => cases b with
    | nil => rfl
    | cons y b => simp [ints] at h
  | cons x a ih => cases b with
    | nil => simp [ints] at h
    | cons y b =>
      simp only [ints, List.map_cons, List.cons.injEq, AV.int.injEq, true_and] at h
      rw [h.1, ih h.2]
theorem gSorted_eq {as : List AV} {hp : List Blk} {b id : Nat} {fr : Bool} {l : List Int} {vs : List AV} (h : SrtQ as hp b id fr l vs) : gSorted as hp = some (.vec 1 (ints (sorted ltI l)), hp) := by
  have hx : ∃ q : Nat × Nat × Bool × List Int × List AV, SrtQ as hp q.1 q.2.1 q.2.2.1 q.2.2.2.1 q.2.2.2.2 := ⟨(b, id, fr, l, vs), h⟩
  unfold gSorted
  rw [dif_pos hx]
  have h2 := hx.choose_spec
  generalize hx.choose = q at h2
  obtain ⟨a1, a2, a3, _⟩ := h
  obtain ⟨b1, b2, b3, _⟩ := h2
  rw [a1] at b1
  simp only [List.cons.injEq, AV.clo.injEq, AV.ref.injEq, and_true, true_and] at b1
  rw [← b1, a2] at b2
  simp only [Option.some.injEq, Blk.row.injEq, List.cons.injEq, AV.mref.injEq, and_true] at b2
  rw [← b2.2, a3] at b3
  simp only [Option.some.injEq, Blk.mp.injEq] at b3
  rw [ints_injA b3.1]
theorem evC_up {T T' : Nat → Option Entry} (h : TLe T T') {k : Nat} {as : List AV} {hp : List Blk} {Q : AV → List Blk → Prop} (c : EvC T k as hp Q) : EvC T' k as hp Q := by
  obtain ⟨r, h1, h2⟩ := c
  exact ⟨r, run_up h h1, h2⟩
theorem evC_imp {T : Nat → Option Entry} {k : Nat} {as : List AV} {hp : List Blk} {Q Q' : AV → List Blk → Prop} (c : EvC T k as hp Q) (h : ∀ v hp', Q v hp' → Q' v hp') : EvC T k as hp Q' := by
  obtain ⟨r, h1, h2⟩ := c
  exact ⟨r, h1, h _ _ h2⟩
noncomputable def tabO : Nat → Option Entry := fun k => if k = 1407 then some (.fn d1407) else tabM k
theorem u1407 : tabO 1407 = some (.fn d1407) := rfl
theorem mnd1407 : tabM 1407 = none := by rfl
theorem tabO_le : TLe tabM tabO := by
  intro k e h
  unfold tabO
  split
  · rename_i hk; subst hk; rw [mnd1407] at h; cases h
  · exact h
def onceB (l : List Txt) : Bool := decide (∀ c ∈ ddI (idsR l), cnI (idsR l) c ≤ 1)
def ocH (I : List Int) (l : List Txt) (seen : List Nat) : List Blk := [mpI I, .row false [.mref 0], .row false [.sl 1 (strs l)], .dead, .it 0 (ddI I).length seen]
def ocM : List Mark := [(0, 5, [7], [(7, 4)])]
section
variable {P : Program}
theorem ex_gst {o : Option St} {R : St → Prop} (h : gst o R) : ∃ st2, o = some st2 ∧ R st2 := by
  cases o with
  | none => exact h.elim
  | some st => exact ⟨st, rfl, h⟩
theorem once_loop (G : Good P fid tabO) {l : List Txt} {I : List Int} (hI : I.length ≤ 60000) :
    SayS P fid (.loop d1407_b0) ⟨[(7, .ref 4 0)], ocH I l [], 0, ocM⟩ (fun e st => e = .exit 0 ∧ (∀ c ∈ ddI I, cnI I c ≤ 1) ∧ (∃ seen, st.hp = ocH I l seen) ∨ e = .ret ∧ ¬ (∀ c ∈ ddI I, cnI I c ≤ 1) ∧ lk st.env 2 = .bool false ∧ ∃ seen, st.hp = ocH I l seen) := by
  have hd := ddI_len I
  refine S_loop (fun k st => ∃ seen : List Nat, seen.Nodup ∧ (∀ i ∈ seen, i < (ddI I).length ∧ cnI I ((ddI I).getD i 0) ≤ 1) ∧ k = (ddI I).length - seen.length ∧ st = ⟨[(7, .ref 4 0)], ocH I l seen, 0, ocM⟩) ?_ ⟨[], List.nodup_nil, by simp, rfl, rfl⟩
  rintro k st ⟨seen, hnd, hin, rfl, rfl⟩
  have hsl : seen.length ≤ (ddI I).length := by simpa using hnd.length_le_of_subset (l₂ := List.range (ddI I).length) fun i hi => List.mem_range.2 (hin i hi).1
  have Lk := ints_length (ddI I)
  unfold d1407_b0 ocH mpI
  refine S_after (S_seq (S_ops (O_cons (P_next (id := 4) (mid := 0) (n := (ddI I).length) (seen := seen) (ks := ints (ddI I)) (vs := vsI I) rfl rfl rfl Lk ?_ ?_))))
  · intro hall
    refine O_det G ?_
    simp (disch := omega) only [go_sem, ↓reduceIte, St.put]
    refine S_det G ?_
    simp (disch := omega) only [go_sem, ↓reduceIte, Nat.reduceEqDiff, reduceCtorEq]
    refine .inl ⟨fun c hc => ?_, seen, rfl⟩
    obtain ⟨j, hj, e⟩ := List.mem_iff_getElem.1 hc
    have := (hin j (hall j hj)).2
    rw [List.getD_eq_getElem?_getD, List.getElem?_eq_getElem hj] at this
    rw [← e]; exact this
  · intro i hi his
    refine O_det G ?_
    simp (disch := omega) only [go_sem, ↓reduceIte, St.put]
    have e3 : (ints (ddI I))[i]? = some (.int .i64 ((ddI I).getD i 0)) := by simp [ints, List.getD_eq_getElem?_getD, List.getElem?_eq_getElem hi]
    have hy := vsI_at hi
    have hlast : (seen ++ [i]).getLast? = some i := by simp
    have hc := cnI_len I ((ddI I).getD i 0)
    have hnd2 : (seen ++ [i]).Nodup := by
      rw [List.nodup_append]
      exact ⟨hnd, by simp, fun a ha c hc e => his (by rw [List.mem_singleton] at hc; rw [← hc, ← e]; exact ha)⟩
    have hlt2 : ∀ j ∈ seen ++ [i], j < (ddI I).length := fun j hj => by
      rcases List.mem_append.1 hj with h | h
      · exact (hin j h).1
      · rw [List.mem_singleton] at h; omega
    have hsl2 : (seen ++ [i]).length ≤ (ddI I).length := by simpa using hnd2.length_le_of_subset (l₂ := List.range (ddI I).length) fun j hj => List.mem_range.2 (hlt2 j hj)
    have hs1 : (seen ++ [i]).length = seen.length + 1 := by simp
    refine S_det G ?_
    by_cases h1 : cnI I ((ddI I).getD i 0) ≤ 1
    · simp (disch := omega) only [go_sem, ↓reduceIte, Nat.reduceEqDiff, reduceCtorEq, e3, hlast, hy, Lk]
      refine ex_gst ?_
      unfold ocM
      simp (disch := omega) only [go_sem, ↓reduceIte, Nat.reduceEqDiff, Nat.reduceAdd]
      refine ⟨(ddI I).length - (seen ++ [i]).length, by omega, seen ++ [i], hnd2, fun j hj => ?_, rfl, rfl⟩
      rcases List.mem_append.1 hj with h | h
      · exact hin j h
      · rw [List.mem_singleton] at h; subst h; exact ⟨hi, h1⟩
    · simp (disch := omega) only [go_sem, ↓reduceIte, Nat.reduceEqDiff, reduceCtorEq, e3, hlast, hy, Lk]
      refine .inr ⟨fun hh => h1 (hh _ ?_), seen ++ [i], rfl⟩
      rw [List.getD_eq_getElem?_getD, List.getElem?_eq_getElem hi]; exact List.getElem_mem hi
theorem once_fn (G : Good P fid tabO) {l : List Txt} (hl : okB l) : SayC P fid 1407 [.sl 1 (strs l)] [] (fun v hp' => fin 0 hp' v = some (.bool (onceB l), [])) := by
  refine C_fn G u1407 ?_
  unfold d1407
  refine S_seq (SayS.mono (S_det G (Q := fun x st' => x = .normal ∧ st' = ⟨[(2, .bool false), (0, .sl 1 (strs l))], [], 0, []⟩) ?_) ?_)
  · simp (disch := omega) only [go_sem]
  rintro x st ⟨rfl, rfl⟩
  refine S_seq (S_seq (SayS.mono (S_det G (Q := fun x st' => x = .normal ∧ lk st'.env 7 = .ref 4 0 ∧ st'.hp = ocH (idsR l) l [] ∧ st'.lo = 0 ∧ st'.mks = []) ?_) ?_))
  · simp (disch := omega) only [go_sem, ↓reduceIte, reduceCtorEq]
    refine EvO_all (evC_imp (evC_up tabO_le (perId_C hl)) ?_)
    rintro v hp' ⟨rfl, rfl⟩
    have Lk := ints_length (ddI (idsR l))
    simp (disch := omega) only [go_sem, ↓reduceIte, Nat.reduceAdd, alQ, mpI, ocH, Lk]
  rintro x ⟨env, hp, lo, mks⟩ ⟨rfl, h1, h2, h3, h4⟩
  simp only at h1 h2 h3 h4
  subst h2 h3 h4
  refine S_block (S_ghost (st1 := ⟨[(7, .ref 4 0)], ocH (idsR l) l [], 0, ocM⟩) (by simp [ghost, keepEnv, homesOf, h1, AV.idof, ocH, ocM]) (SayS.mono (once_loop G (Nat.le_trans (idsR_len l) hl.1)) ?_))
  rintro x ⟨env', hp', lo', mks'⟩ (⟨rfl, h5, seen, h6⟩ | ⟨rfl, h5, h7, seen, h6⟩)
  · simp only at h6; subst h6
    have hb : onceB l = true := decide_eq_true h5
    refine S_ghost (st1 := ⟨[], ocH (idsR l) l seen, lo', mks'⟩) (by simp [ghost, keepEnv]) (SayS.mono (S_det G (Q := fun x st' => x = .ret ∧ lk st'.env 2 = .bool true ∧ st'.hp = ocH (idsR l) l seen) ?_) ?_)
    · simp (disch := omega) only [go_sem, ↓reduceIte]
    · rintro x ⟨env, hp, lo, mks⟩ ⟨rfl, h1, h2⟩
      simp only at h1 h2
      subst h2
      refine ⟨nofun, .bool true, by simp [results, rvs, rvv, h1, nz, tupv], ?_⟩
      simp [rsIds, rvv, h1, immIds, still, fin, tidy, pk, idlt, AV.allv, pidlt, hb]
  · simp only at h6 h7; subst h6
    have hb : onceB l = false := decide_eq_false h5
    refine ⟨nofun, .bool false, by simp [results, rvs, rvv, h7, nz, tupv], ?_⟩
    simp [rsIds, rvv, h7, immIds, still, fin, tidy, pk, idlt, AV.allv, pidlt, hb]
end
def OncQ (as : List AV) (hp : List Blk) (l : List Txt) : Prop := as = [.sl 1 (strs l)] ∧ hp = [] ∧ okB l
open Classical in
noncomputable def gOnce (as : List AV) (hp : List Blk) : Option (AV × List Blk) := if h : ∃ l, OncQ as hp l then some (.bool (onceB h.choose), []) else none
theorem strs_injO {a b : List Txt} (h : strs a = strs b) : a = b := by
  induction a generalizing b with
  | nil => cases b with
    | nil => rfl
    | cons y b => simp [strs] at h
  | cons x a ih => cases b with
    | nil => simp [strs] at h
    | cons y b =>
      simp only [strs, List.map_cons, List.cons.injEq, AV.str.injEq] at h
      rw [h.1, ih h.2]
theorem gOnce_eq {l : List Txt} (h : okB l) : gOnce [.sl 1 (strs l)] [] = some (.bool (onceB l), []) := by
  have hx : ∃ k, OncQ [.sl 1 (strs l)] [] k := ⟨l, rfl, rfl, h⟩
  unfold gOnce
  rw [dif_pos hx]
  have h2 := hx.choose_spec
  generalize hx.choose = q at h2
  have := h2.1
  simp only [List.cons.injEq, AV.sl.injEq, and_true, true_and] at this
  rw [strs_injO this]
noncomputable def tabP : Nat → Option Entry := fun k => if k = 1416 then some (.orc gSorted) else if k = 1407 then some (.orc gOnce) else tabM k
theorem p1416 : tabP 1416 = some (.orc gSorted) := rfl
theorem p1407 : tabP 1407 = some (.orc gOnce) := rfl
theorem tabP_le : TLe tabM tabP := by
  intro k e h
  unfold tabP
  split
  · rename_i hk; subst hk; rw [mnd1416] at h; cases h
  · split
    · rename_i hk; subst hk; rw [mnd1407] at h; cases h
    · exact h
theorem upP {k : Nat} {as : List AV} {hps : List Blk} {r : AV × List Blk} (h : runP tabM k as hps = some r) : runP tabP k as hps = some r := runP_up tabP_le h
theorem goodN_of {P : Program} (G : Good P fid tabM) (h1 : ∀ f, fid f = some 1416 → EntryOk P fid f (.fn d1416)) (h2 : ∀ f, fid f = some 1429 → EntryOk P fid f (.fn d1429)) (h3 : ∀ f, fid f = some 1430 → EntryOk P fid f (.fn d1430)) (h4 : ∀ f, fid f = some 1440 → EntryOk P fid f (.fn d1440)) : Good P fid tabN := by
  intro f k e hf he
  unfold tabN at he
  split at he
  · rename_i hk; subst hk; injection he with he; subst he; exact h1 f hf
  · split at he
    · rename_i hk; subst hk; injection he with he; subst he; exact h2 f hf
    · split at he
      · rename_i hk; subst hk; injection he with he; subst he; exact h3 f hf
      · split at he
        · rename_i hk; subst hk; injection he with he; subst he; exact h4 f hf
        · exact G f k e hf he
theorem goodO_of {P : Program} (G : Good P fid tabM) (h1 : ∀ f, fid f = some 1407 → EntryOk P fid f (.fn d1407)) : Good P fid tabO := by
  intro f k e hf he
  unfold tabO at he
  split at he
  · rename_i hk; subst hk; injection he with he; subst he; exact h1 f hf
  · exact G f k e hf he
theorem goodP_of {P : Program} (G : Good P fid tabM) (GN : Good P fid tabN) (GO : Good P fid tabO) : Good P fid tabP := by
  intro f k e hf he
  unfold tabP at he
  split at he
  · rename_i hk; subst hk; injection he with he; subst he
    have hthere : FnThere P f := by
      obtain ⟨fn, c, q1, q2, q3, _⟩ := GN f 1416 _ hf u1416
      exact ⟨fn, q1, by rw [q2]; rfl, q3⟩
    refine ⟨hthere, fun as hps r h => ?_⟩
    unfold gSorted at h
    split at h
    · rename_i hx
      injection h with h; subst h
      have hsp := hx.choose_spec
      generalize hx.choose = q at hsp ⊢
      obtain ⟨b1, b2, b3, b4, b5, b6⟩ := hsp
      rw [b1]
      exact (C_ok (sorted_fn GN b2 b3 b4 b5 b6) hf).2
    · cases h
  · split at he
    · rename_i hk; subst hk; injection he with he; subst he
      have hthere : FnThere P f := by
        obtain ⟨fn, c, q1, q2, q3, _⟩ := GO f 1407 _ hf u1407
        exact ⟨fn, q1, by rw [q2]; rfl, q3⟩
      refine ⟨hthere, fun as hps r h => ?_⟩
      unfold gOnce at h
      split at h
      · rename_i hx
        injection h with h; subst h
        have hsp := hx.choose_spec
        generalize hx.choose = q at hsp ⊢
        obtain ⟨b1, b2, b3⟩ := hsp
        rw [b1, b2]
        exact (C_ok (once_fn GO b3) hf).2
      · cases h
    · exact G f k e hf he
theorem once_run {l : List Txt} (hl : okB l) : runP tabP 1407 [.sl 1 (strs l)] [] = some (.bool (onceB l), []) := by
  rw [runP_orc p1407]; exact gOnce_eq hl
theorem ids_run {l : List Txt} (hl : okB l) : runP tabP 1405 [.sl 1 (strs l)] [] = some (.vec 1 (ints (rising (idsR l))), []) := by
  refine runP_fn (show tabP 1405 = _ from t1405) rfl ?_
  have hn := idsR_len l
  have h0 := hl.1
  have hd := ddI_len (idsR l)
  have Lk := ints_length (ddI (idsR l))
  simp (disch := omega) only [go_sem, ↓reduceIte, reduceCtorEq, d1405]
  refine EvO_all (evC_imp (evC_up tabP_le (perId_C hl)) ?_)
  rintro v hp' ⟨rfl, rfl⟩
  simp (disch := omega) only [go_sem, alQ]
  refine EvO_all (EvC_fn (show tabP 1417 = _ from t1417) rfl ?_)
  simp (disch := omega) only [go_sem, ↓reduceIte, Nat.reduceEqDiff, Nat.reduceAdd, d1417, alQ, mpI]
  have hlt : ([.mp (ints (ddI (idsR l))) (vsI (idsR l)), .row false [.mref 0], .row false [.sl 1 (strs l)], .dead, .row false [.mref 0]] : List Blk).all (fun x => x.idlt 5) = true := by
    have h1 : idltL 5 (ints (ddI (idsR l))) = true := ints_idlt' _ _
    have h2 : idltL 5 (vsI (idsR l)) = true := vsI_idlt' _ _
    have h3 : idltL 5 [AV.sl 1 (strs l)] = true := by
      have := strs_idlt' 5 l
      simp [idltL, allL, AV.allv, pidlt, this]
    simp [Blk.idlt, h1, h2, h3]
    rfl
  refine EvO_all (EvC_orc p1416 (gSorted_eq (b := 4) (id := 0) (fr := false) (l := ddI (idsR l)) (vs := vsI (idsR l)) ⟨rfl, rfl, rfl, hlt, by omega, vsI_len _⟩) ?_)
  rw [sorted_dd]
  simp (disch := omega) only [go_sem, ↓reduceIte, Nat.reduceAdd, alQ]
end Go.Proofs.Ytcfhocnbpplecaa

namespace Go.Proofs.Ytcfhocnbpplecaa
set_option linter.unusedVariables false
set_option maxHeartbeats 4000000
set_option maxRecDepth 100000
def ctsP (xs : List Int) : List Hit := (rising xs).map fun c => ⟨c, (cnI xs c : Nat)⟩
def codL : Blk := .lp 0 [(2, .nils), (3, .int .i64 0), (4, .ref 1 0), (5, .ref 2 0), (13, .clo 1422 [] [.ref 3 0])] [14, 15] d1398_r0a d1398_r0 .normal
def codS (l : List Txt) (i : Nat) : St := ⟨[(0, .yld 4), (7, .sl 1 (strs l)), (8, .int .i64 l.length), (9, .int .i64 (i : Int))], [mpI (cdsR (l.take i)), .row false [.mref 0], .row false [.int .i64 (odds (l.take i) : Nat)], .row false [.sl 1 (strs l)], codL], 5, [(0, 5, [0, 7, 8, 9], [(0, 4)])]⟩
def codT (l : List Txt) (C S : List Int) (o : Nat) (j : Nat) : St := ⟨[(4, .ref 1 0), (5, .ref 2 0), (8, .own 2 7), (26, .own 1 6), (27, .int .i64 S.length), (28, .int .i64 (j : Int))], [mpI C, .row false [.mref 0], .row false [.int .i64 (o : Nat)], .row false [.sl 1 (strs l)], .dead, .row false [.mref 0], .row false (ints S), .row false (hts ((S.take j).map fun c => ⟨c, (cnI C c : Nat)⟩))], 0, [(0, 8, [4, 5, 8, 26, 27, 28], [(4, 1), (5, 2), (8, 7), (26, 6)])]⟩
theorem codes_run {l : List Txt} (hl : okB l) : runP tabP 1398 [.sl 1 (strs l)] [] = some (.tup [.vec 2 (hts (ctsP (cdsR l))), .int .i64 (odds l : Nat)], []) := by
  refine runP_fn (show tabP 1398 = _ from t1398) rfl ?_
  obtain ⟨hl, ht⟩ := hl
  have g := upP (up (sread_run (l := l)))
  simp (disch := omega) only [go_sem, ↓reduceIte, Nat.reduceEqDiff, Nat.reduceAdd, reduceCtorEq, d1398, g]
  refine Ev_rangef rfl ?_
  refine EvC_fn (show tabP 1422 = _ from t1422) rfl ?_
  have L := strs_length l
  simp (disch := omega) only [go_sem, ↓reduceIte, Nat.reduceEqDiff, Nat.reduceAdd, reduceCtorEq, d1422, L]
  refine Ev_loop0 (fun i => codS l i) l.length rfl (fun i hi => ?_) ?_
  · have e := strs_rdc hi
    have g := upP (getRM (ht i hi))
    have hn := cdsR_len (l.take i)
    have ho := odds_len (l.take i)
    simp only [List.length_take] at hn ho
    have hd := ddI_len (cdsR (l.take i))
    cases h : rp (l.getD i []) with
    | none =>
      rw [getRA_no h] at g
      unfold codS mpI
      rw [cdsR_no hi h, (reps_no hi h).2]
      generalize cdsR (l.take i) = I at *
      generalize odds (l.take i) = o at *
      simp only [repV, zR, hts_nil] at g
      simp (disch := omega) only [go_sem, ↓reduceIte, Nat.reduceEqDiff, Nat.reduceAdd, reduceCtorEq, d1422_b0, e, g, codL, L]
      refine EvR_eq rfl rfl ?_
      simp (disch := omega) only [go_sem, ↓reduceIte, Nat.reduceEqDiff, Nat.reduceAdd, reduceCtorEq, Nat.reduceLeDiff, d1398_r0a, d1398_r0]
    | some y =>
      rw [getRA_yes h] at g
      have hy := rp_len h
      have hc := cnI_len (cdsR (l.take i)) y.code
      unfold codS mpI
      rw [cdsR_yes hi h, (reps_yes hi h).2]
      generalize cdsR (l.take i) = I at *
      generalize odds (l.take i) = o at *
      simp only [repV] at g
      by_cases hm : y.code ∈ ddI I
      · obtain ⟨j, j1, j2, j3, j4⟩ := ddI_ix hm
        have en := vsI_in hm j1 j2
        have hi4 := vsI_idlt' 5 (I ++ [y.code])
        rw [en] at hi4
        rw [ddI_snoc, if_pos hm, en]
        simp (disch := omega) only [go_sem, ↓reduceIte, Nat.reduceEqDiff, Nat.reduceAdd, reduceCtorEq, d1422_b0, e, g, codL, L]
        refine EvR_eq rfl rfl ?_
        simp (disch := omega) only [go_sem, ↓reduceIte, Nat.reduceEqDiff, Nat.reduceAdd, reduceCtorEq, Nat.reduceLeDiff, d1398_r0a, d1398_r0, j3, j4, hi4]
      · have j3 := kget_iout hm
        have en := vsI_out hm
        rw [ddI_snoc, if_neg hm, en]
        simp (disch := omega) only [go_sem, ↓reduceIte, Nat.reduceEqDiff, Nat.reduceAdd, reduceCtorEq, d1422_b0, e, g, codL, L]
        refine EvR_eq rfl rfl ?_
        simp (disch := omega) only [go_sem, ↓reduceIte, Nat.reduceEqDiff, Nat.reduceAdd, reduceCtorEq, Nat.reduceLeDiff, d1398_r0a, d1398_r0, j3]
  · unfold codS mpI
    rw [List.take_length]
    have hn := cdsR_len l
    have ho := odds_len l
    generalize cdsR l = C at *
    generalize odds l = o at *
    have hd := ddI_len C
    have Lk := ints_length (ddI C)
    simp (disch := omega) only [go_sem, ↓reduceIte, Nat.reduceEqDiff, reduceCtorEq, d1422_b0, codL]
    refine EvO_all (EvC_fn (show tabP 1417 = _ from t1417) rfl ?_)
    simp (disch := omega) only [go_sem, ↓reduceIte, Nat.reduceEqDiff, Nat.reduceAdd, d1417, alQ]
    have hlt : ([.mp (ints (ddI C)) (vsI C), .row false [.mref 0], .row false [.int .i64 (o : Nat)], .row false [.sl 1 (strs l)], .dead, .row false [.mref 0]] : List Blk).all (fun x => x.idlt 6) = true := by
      have h1 : idltL 6 (ints (ddI C)) = true := ints_idlt' _ _
      have h2 : idltL 6 (vsI C) = true := vsI_idlt' _ _
      have h3 : idltL 6 [AV.sl 1 (strs l)] = true := by
        have := strs_idlt' 6 l
        simp [idltL, allL, AV.allv, pidlt, this]
      simp [Blk.idlt, h1, h2, h3]
      exact ⟨rfl, rfl, rfl⟩
    refine EvO_all (EvC_orc p1416 (gSorted_eq (b := 5) (id := 0) (fr := false) (l := ddI C) (vs := vsI C) ⟨rfl, rfl, rfl, hlt, by omega, vsI_len _⟩) ?_)
    rw [sorted_dd]
    have hS : ∀ j, j < (rising C).length → (rising C).getD j 0 ∈ ddI C := fun j hj => (ddI_mem _ _).2 ((rising_mem _ _).1 (getD_memI hj))
    have hSl := rising_len C
    unfold ctsP
    generalize rising C = S at *
    have LS := ints_length S
    simp (disch := omega) only [go_sem, ↓reduceIte, Nat.reduceEqDiff, Nat.reduceAdd, alQ, LS]
    refine Ev_loop0 (fun j => codT l C S o j) S.length rfl (fun j hj => ?_) ?_
    · obtain ⟨k, k1, k2, k3, k4⟩ := ddI_ix (hS j hj)
      have e1 := ints_rdc0 hj
      have et : ((S.take (j + 1)).map fun c => (⟨c, (cnI C c : Nat)⟩ : Hit)) = ((S.take j).map fun c => (⟨c, (cnI C c : Nat)⟩ : Hit)) ++ [⟨S.getD j 0, (cnI C (S.getD j 0) : Nat)⟩] := by rw [take_snoc 0 hj, List.map_append]; rfl
      have Ln : ((S.take j).map fun c => (⟨c, (cnI C c : Nat)⟩ : Hit)).length = j := by simp; omega
      have hc := cnI_len C (S.getD j 0)
      unfold codT mpI
      rw [et, ← hts_app]
      generalize ((S.take j).map fun c => (⟨c, (cnI C c : Nat)⟩ : Hit)) = Q at *
      simp (disch := omega) only [go_sem, ↓reduceIte, Nat.reduceEqDiff, Nat.reduceAdd, reduceCtorEq, Nat.reduceLeDiff, Nat.reduceDiv, d1398_b0, LS, e1, k3, k4, Ln, hts_cons, hts_nil]
    · unfold codT mpI
      rw [List.take_length]
      simp (disch := omega) only [go_sem, ↓reduceIte, Nat.reduceEqDiff, reduceCtorEq, d1398_b0]
end Go.Proofs.Ytcfhocnbpplecaa

namespace Go.Proofs.Ytcfhocnbpplecaa
set_option linter.unusedVariables false
set_option maxHeartbeats 4000000
set_option maxRecDepth 100000
theorem rsamec_run {a b : List Hit} (ha : a.length ≤ 1000000) (hb : b.length ≤ 1000000) : runP tab 1403 [.sl 2 (hts a), .sl 2 (hts b)] [] = some (.bool (a == b), []) := by
  refine runP_fn t1403 rfl ?_
  by_cases hl : a.length = b.length
  · simp (disch := omega) only [go_sem, ↓reduceIte, Nat.reduceEqDiff, reduceCtorEq, d1403]
    rcases hits_at a b hl with ⟨h1, h2⟩ | ⟨k, h0, h1, h2, h3⟩
    · rw [h2]
      refine Ev_loop0 (fun i => ⟨[(0, .sl 2 (hts a)), (1, .sl 2 (hts b)), (5, .int .i64 (i : Int))], [], 0, [(0, 0, [0, 1, 5], [])]⟩) a.length rfl (fun i hi => ?_) ?_
      · have h := h1 i hi
        have c := hit_eq (a.getD i default) (b.getD i default)
        rw [decide_eq_true h] at c
        simp (disch := omega) only [go_sem, ↓reduceIte, Nat.reduceEqDiff, Nat.reduceAdd, reduceCtorEq, Nat.reduceMul, d1403_b0, hts_get, c, encA, digA]
      · simp (disch := omega) only [go_sem, ↓reduceIte, Nat.reduceEqDiff, reduceCtorEq, d1403_b0]
    · rw [h3]
      refine Ev_loop0 (fun i => ⟨[(0, .sl 2 (hts a)), (1, .sl 2 (hts b)), (5, .int .i64 (i : Int))], [], 0, [(0, 0, [0, 1, 5], [])]⟩) k rfl (fun i hi => ?_) ?_
      · have h := h1 i hi
        have c := hit_eq (a.getD i default) (b.getD i default)
        rw [decide_eq_true h] at c
        simp (disch := omega) only [go_sem, ↓reduceIte, Nat.reduceEqDiff, Nat.reduceAdd, reduceCtorEq, Nat.reduceMul, d1403_b0, hts_get, c, encA, digA]
      · have c := hit_eq (a.getD k default) (b.getD k default)
        rw [decide_eq_false h2] at c
        simp (disch := omega) only [go_sem, ↓reduceIte, Nat.reduceEqDiff, Nat.reduceAdd, reduceCtorEq, Nat.reduceMul, d1403_b0, hts_get, c, encA, digA]
  · have h : (a == b) = false := by rw [← Bool.not_eq_true, beq_iff_eq]; rintro rfl; exact hl rfl
    simp (disch := omega) only [go_sem, ↓reduceIte, Nat.reduceEqDiff, reduceCtorEq, d1403, h]
theorem repsS_all : ∀ (a b : List Rep), a.length = b.length → ((∀ i, i < a.length → a.getD i default = b.getD i default) ∧ (a == b) = true) ∨ ∃ k, k < a.length ∧ (∀ i, i < k → a.getD i default = b.getD i default) ∧ ¬ (a.getD k default = b.getD k default) ∧ (a == b) = false
  | [], [], _ => .inl ⟨by simp, rfl⟩
  | [], _ :: _, h => by simp at h
  | _ :: _, [], h => by simp at h
  | x :: a, y :: b, h => by
    by_cases hxy : x = y
    · subst hxy
      rcases repsS_all a b (by simpa using h) with ⟨h1, h2⟩ | ⟨k, h1, h2, h3, h4⟩
      · refine .inl ⟨fun i hi => ?_, by simpa using h2⟩
        cases i with | zero => rfl | succ i => simpa using h1 i (by simpa using hi)
      · refine .inr ⟨k + 1, by simpa using h1, fun i hi => ?_, by simpa using h3, by simpa using h4⟩
        cases i with | zero => rfl | succ i => simpa using h2 i (by omega)
    · exact .inr ⟨0, by simp, by omega, by simpa using hxy, by simp [hxy]⟩
theorem rsames_run {a b : List Rep} (ha : a.length ≤ 100000) (hb : b.length ≤ 100000) (ha' : ∀ x ∈ a, x.hits.length ≤ 1000000) (hb' : ∀ x ∈ b, x.hits.length ≤ 1000000) : runP tab 1404 [.sl 5 (repsS a), .sl 5 (repsS b)] [] = some (.bool (a == b), []) := by
  refine runP_fn t1404 rfl ?_
  have La := repsS_len a
  have Lb := repsS_len b
  have st : ∀ i, i < a.length → a.length = b.length → runP tab 1415 [.agg (repS (a.getD i default)), .agg (repS (b.getD i default))] [] = some (.bool (a.getD i default == b.getD i default), []) := fun i hi hl => by
    refine samerep_run (ha' _ ?_) (hb' _ ?_)
    · rw [List.getD_eq_getElem?_getD, List.getElem?_eq_getElem hi]; exact List.getElem_mem hi
    · rw [List.getD_eq_getElem?_getD, List.getElem?_eq_getElem (by omega)]; exact List.getElem_mem (by omega)
  by_cases hl : a.length = b.length
  · simp (disch := omega) only [go_sem, ↓reduceIte, Nat.reduceEqDiff, reduceCtorEq, d1404, La, Lb]
    rcases repsS_all a b hl with ⟨h1, h2⟩ | ⟨k, h0, h1, h2, h3⟩
    · rw [h2]
      refine Ev_loop0 (fun i => ⟨[(0, .sl 5 (repsS a)), (1, .sl 5 (repsS b)), (5, .int .i64 (i : Int))], [], 0, [(0, 0, [0, 1, 5], [])]⟩) a.length rfl (fun i hi => ?_) ?_
      · have h := h1 i hi
        have g := st i hi hl
        have e1 := repsS_rdc' (l := a) (i := i) (by omega)
        have e2 := repsS_rdc' (l := b) (i := i) (by omega)
        rw [h, beq_self_eq_true] at g
        rw [h] at e1
        generalize b.getD i default = y at *
        simp (disch := omega) only [go_sem, ↓reduceIte, Nat.reduceEqDiff, reduceCtorEq, d1404_b0, e1, e2, g, La, Lb]
      · simp (disch := omega) only [go_sem, ↓reduceIte, Nat.reduceEqDiff, reduceCtorEq, d1404_b0, La]
    · rw [h3]
      refine Ev_loop0 (fun i => ⟨[(0, .sl 5 (repsS a)), (1, .sl 5 (repsS b)), (5, .int .i64 (i : Int))], [], 0, [(0, 0, [0, 1, 5], [])]⟩) k rfl (fun i hi => ?_) ?_
      · have h := h1 i hi
        have g := st i (by omega) hl
        have e1 := repsS_rdc' (l := a) (i := i) (by omega)
        have e2 := repsS_rdc' (l := b) (i := i) (by omega)
        rw [h, beq_self_eq_true] at g
        rw [h] at e1
        generalize b.getD i default = y at *
        simp (disch := omega) only [go_sem, ↓reduceIte, Nat.reduceEqDiff, reduceCtorEq, d1404_b0, e1, e2, g, La, Lb]
      · have g := st k h0 hl
        have e1 := repsS_rdc' (l := a) (i := k) (by omega)
        have e2 := repsS_rdc' (l := b) (i := k) (by omega)
        rw [show (a.getD k default == b.getD k default) = false from by simpa using h2] at g
        generalize a.getD k default = x at *
        generalize b.getD k default = y at *
        simp (disch := omega) only [go_sem, ↓reduceIte, Nat.reduceEqDiff, reduceCtorEq, d1404_b0, e1, e2, g, La, Lb]
  · have h : (a == b) = false := by rw [← Bool.not_eq_true, beq_iff_eq]; rintro rfl; exact hl rfl
    simp (disch := omega) only [go_sem, ↓reduceIte, Nat.reduceEqDiff, reduceCtorEq, d1404, h, La, Lb]
theorem otx_run {l : List Txt} (hl : l.length ≤ 1000) : runP tab 1276 [.sl 1 (strs l)] [] = some (.vec 1 (strs l), []) := by
  refine runP_fn t1276 rfl ?_
  simp (disch := omega) only [go_sem, ↓reduceIte, Nat.reduceEqDiff, reduceCtorEq, d1276, strs_length]
theorem bigB_run {l : List Txt} (hl : l.length ≤ 9223372036854775807) (ht : ∀ w ∈ l, w.length ≤ 9223372036854775807) : ∃ b, runP tab 1397 [.sl 1 (strs l)] [] = some (.bool b, []) ∧ (b = false → l.length ≤ 60 ∧ ∀ i, i < l.length → (l.getD i []).length ≤ 300) := by
  have L := strs_length l
  by_cases c : l.length ≤ 60
  case neg =>
    refine ⟨true, runP_fn t1397 rfl ?_, fun h => by cases h⟩
    simp (disch := omega) only [go_sem, ↓reduceIte, reduceCtorEq, d1397]
    refine Ev_loop0 (fun i => ⟨[(0, .sl 1 (strs l)), (3, .int .i64 (i : Int))], [], 0, [(0, 0, [0, 3], [])]⟩) 0 rfl (fun i hi => by omega) ?_
    by_cases c0 : 0 < l.length
    · simp (disch := omega) only [go_sem, ↓reduceIte, Nat.reduceEqDiff, reduceCtorEq, d1397_b0, L]
    · omega
  rcases first_ix' (fun i => (l.getD i []).length ≤ 300) l.length with h | ⟨k, h1, h2, h3⟩
  · refine ⟨false, runP_fn t1397 rfl ?_, fun _ => ⟨c, h⟩⟩
    simp (disch := omega) only [go_sem, ↓reduceIte, reduceCtorEq, d1397]
    refine Ev_loop0 (fun i => ⟨[(0, .sl 1 (strs l)), (3, .int .i64 (i : Int))], [], 0, [(0, 0, [0, 3], [])]⟩) l.length rfl (fun i hi => ?_) ?_
    · have e := strs_rdc hi
      have h := h i hi
      simp (disch := omega) only [go_sem, ↓reduceIte, Nat.reduceEqDiff, reduceCtorEq, d1397_b0, L, e]
    · simp (disch := omega) only [go_sem, ↓reduceIte, Nat.reduceEqDiff, reduceCtorEq, d1397_b0, L]
  · refine ⟨true, runP_fn t1397 rfl ?_, fun h => by cases h⟩
    simp (disch := omega) only [go_sem, ↓reduceIte, reduceCtorEq, d1397]
    refine Ev_loop0 (fun i => ⟨[(0, .sl 1 (strs l)), (3, .int .i64 (i : Int))], [], 0, [(0, 0, [0, 3], [])]⟩) k rfl (fun i hi => ?_) ?_
    · have e := strs_rdc (l := l) (i := i) (by omega)
      have h := h2 i hi
      simp (disch := omega) only [go_sem, ↓reduceIte, Nat.reduceEqDiff, reduceCtorEq, d1397_b0, L, e]
    · have e := strs_rdc (l := l) (i := k) h1
      simp (disch := omega) only [go_sem, ↓reduceIte, Nat.reduceEqDiff, reduceCtorEq, d1397_b0, L, e]
theorem repsS_cd' {l : List Rep} {i : Nat} (h : i < l.length) : rdc (List.drop 1 (repsS (l.drop i))) none = some (.int .i64 (l.getD i default).code) := by
  rw [List.drop_eq_getElem_cons h, repsS_cons, List.getD_eq_getElem?_getD, List.getElem?_eq_getElem h]; rfl
def cts (xs : List Int) (m : Nat) : List Hit := ((List.range m).filter fun k : Nat => decide (0 < cnI xs (k : Int))).map fun k : Nat => ⟨(k : Int), (cnI xs (k : Int) : Nat)⟩
theorem cts_yes {xs : List Int} {m : Nat} (h : 0 < cnI xs m) : cts xs (m + 1) = cts xs m ++ [⟨m, (cnI xs m : Nat)⟩] := by
  unfold cts; rw [List.range_succ, List.filter_append, List.map_append]; simp [h]
theorem cts_no {xs : List Int} {m : Nat} (h : ¬ 0 < cnI xs m) : cts xs (m + 1) = cts xs m := by
  unfold cts; rw [List.range_succ, List.filter_append, List.map_append]; simp [h]
theorem cts_len (xs : List Int) (m : Nat) : (cts xs m).length ≤ m := by
  unfold cts; rw [List.length_map]; exact Nat.le_trans (List.length_filter_le _ _) (by simp)
theorem cts_eq {xs : List Int} (h : ∀ x ∈ xs, 0 ≤ x ∧ x ≤ 1000) : cts xs 1001 = ctsP xs := by
  have e : ((List.range 1001).filter fun k : Nat => decide (0 < cnI xs (k : Int))).map Int.ofNat = rising xs := by
    refine inc_ext ?_ (rising_inc xs) fun x => ?_
    · refine List.Pairwise.map Int.ofNat (R := (· < ·)) (fun a b h => by simpa using h) ?_
      exact List.Pairwise.filter _ List.pairwise_lt_range
    · rw [rising_mem, List.mem_map]
      constructor
      · rintro ⟨k, hk, rfl⟩
        have := (List.mem_filter.1 hk).2
        exact (cnI_pos _ _).1 (of_decide_eq_true this)
      · intro hx
        obtain ⟨h1, h2⟩ := h x hx
        refine ⟨x.toNat, List.mem_filter.2 ⟨List.mem_range.2 (by omega), ?_⟩, by simp; omega⟩
        rw [decide_eq_true_eq, cnI_pos, show ((x.toNat : Nat) : Int) = x by omega]; exact hx
  unfold ctsP
  rw [← e, cts, List.map_map]; rfl
def rcT (R : List Rep) (o : Nat) (c : Nat) : St := ⟨[(4, .sl 5 (repsS R)), (5, .int .i64 (o : Nat)), (6, .own 2 0), (7, .int .i64 (c : Int))], [.row false (hts (cts (R.map (·.code)) c))], 0, [(0, 1, [4, 5, 6, 7], [(6, 0)])]⟩
def rcU (R : List Rep) (o : Nat) (c : Nat) (Q : List Hit) (i : Nat) : St := ⟨[(4, .sl 5 (repsS R)), (5, .int .i64 (o : Nat)), (6, .own 2 0), (7, .int .i64 (c : Int)), (8, .int .i64 (cnI ((R.take i).map (·.code)) c : Nat)), (9, .int .i64 (i : Int))], [.row false (hts Q)], 0, [(1, 1, [4, 5, 6, 7, 8, 9], [(6, 0)]), (0, 1, [4, 5, 6, 7], [(6, 0)])]⟩
theorem rcodes_run {l : List Txt} (hl : okB l) : runP tab 1399 [.sl 1 (strs l)] [] = some (.tup [.vec 2 (hts (cts (cdsR l) 1001)), .int .i64 (odds l : Nat)], []) := by
  refine runP_fn t1399 rfl ?_
  have g := rread_run hl
  have hn := reps_len l
  have hl := hl.1
  unfold cdsR
  have ho := odds_len l
  generalize reps l = R at *
  generalize odds l = o at *
  have L := repsS_len R
  simp (disch := omega) only [go_sem, ↓reduceIte, Nat.reduceEqDiff, reduceCtorEq, d1399, g]
  refine Ev_loop0 (fun c => rcT R o c) 1001 rfl (fun c hc => ?_) ?_
  · have LQ := cts_len (R.map (·.code)) c
    unfold rcT
    by_cases h : 0 < cnI (R.map (·.code)) c
    · rw [cts_yes h, ← hts_app]
      generalize cts (R.map (·.code)) c = Q at *
      simp (disch := omega) only [go_sem, ↓reduceIte, Nat.reduceEqDiff, d1399_b0]
      refine Ev_loop0 (fun i => rcU R o c Q i) R.length rfl (fun i hi => ?_) ?_
      · have e := repsS_cd' hi
        have hi2 := cnI_len ((R.take i).map (·.code)) c
        simp only [List.length_map, List.length_take] at hi2
        have es : cnI ((R.take (i + 1)).map (·.code)) c = cnI ((R.take i).map (·.code)) c + if (R.getD i default).code = c then 1 else 0 := by rw [take_snoc default hi, List.map_append]; exact cnI_snoc _ _ _
        unfold rcU
        rw [es]
        generalize cnI ((R.take i).map (·.code)) c = n at *
        by_cases hx : (R.getD i default).code = c
        · simp (disch := omega) only [go_sem, ↓reduceIte, Nat.reduceEqDiff, d1399_b1, e, L, hx]
        · simp (disch := omega) only [go_sem, ↓reduceIte, Nat.reduceEqDiff, d1399_b1, e, L, hx]
      · unfold rcU
        rw [List.take_length]
        have hi2 := cnI_len (R.map (·.code)) c
        simp only [List.length_map] at hi2
        generalize cnI (R.map (·.code)) c = n at *
        simp (disch := omega) only [go_sem, ↓reduceIte, Nat.reduceEqDiff, Nat.reduceAdd, reduceCtorEq, Nat.reduceLeDiff, Nat.reduceDiv, d1399_b1, L]
        rw [← hts_app]
        rfl
    · rw [cts_no h]
      generalize cts (R.map (·.code)) c = Q at *
      simp (disch := omega) only [go_sem, ↓reduceIte, Nat.reduceEqDiff, d1399_b0]
      refine Ev_loop0 (fun i => rcU R o c Q i) R.length rfl (fun i hi => ?_) ?_
      · have e := repsS_cd' hi
        have hi2 := cnI_len ((R.take i).map (·.code)) c
        simp only [List.length_map, List.length_take] at hi2
        have es : cnI ((R.take (i + 1)).map (·.code)) c = cnI ((R.take i).map (·.code)) c + if (R.getD i default).code = c then 1 else 0 := by rw [take_snoc default hi, List.map_append]; exact cnI_snoc _ _ _
        unfold rcU
        rw [es]
        generalize cnI ((R.take i).map (·.code)) c = n at *
        by_cases hx : (R.getD i default).code = c
        · simp (disch := omega) only [go_sem, ↓reduceIte, Nat.reduceEqDiff, d1399_b1, e, L, hx]
        · simp (disch := omega) only [go_sem, ↓reduceIte, Nat.reduceEqDiff, d1399_b1, e, L, hx]
      · unfold rcU
        rw [List.take_length]
        have hi2 := cnI_len (R.map (·.code)) c
        simp only [List.length_map] at hi2
        generalize cnI (R.map (·.code)) c = n at *
        simp (disch := omega) only [go_sem, ↓reduceIte, Nat.reduceEqDiff, reduceCtorEq, d1399_b1, L]
  · unfold rcT
    simp (disch := omega) only [go_sem, ↓reduceIte, Nat.reduceEqDiff, reduceCtorEq, d1399_b0]
theorem cds_ok (l : List Txt) : ∀ x ∈ cdsR l, 0 ≤ x ∧ x ≤ 1000 := by
  intro x hx
  obtain ⟨y, hy, rfl⟩ := List.mem_map.1 hx
  obtain ⟨s, _, h⟩ := List.mem_filterMap.1 hy
  exact (of_decide_eq_true (formR.iff.1 h).1 : RepOk y).2.1
end Go.Proofs.Ytcfhocnbpplecaa
