import Derived.Test.YtcfhocnbpplecaaUb
namespace Go.Proofs.Ytcfhocnbpplecaa
set_option linter.unusedVariables false
set_option maxHeartbeats 4000000
set_option maxRecDepth 100000
theorem foldl_snoc {α β : Type} (f : β → α → β) {l : List α} {i : Nat} (d : α) (h : i < l.length) (b : β) : (l.take (i + 1)).foldl f b = f ((l.take i).foldl f b) (l.getD i d) := by
  rw [take_snoc d h, List.foldl_append]; rfl
theorem rising_snoc {l : List Int} {i : Nat} (h : i < l.length) : rising (l.take (i + 1)) = ins (rising (l.take i)) (l.getD i 0) := foldl_snoc ins 0 h []
theorem rising_run {l : List Int} (hb : l.length ≤ 1000000) : runP tab 1021 [.sl 1 (ints l)] [] = some (.vec 1 (ints (rising l)), []) := by
  refine runP_fn t1021 rfl ?_
  simp (disch := omega) only [go_sem, ↓reduceIte, Nat.reduceEqDiff, reduceCtorEq, d1021]
  refine Ev_loop0 (fun i => ⟨[(0, .sl 1 (ints l)), (3, .own 1 0), (4, .int .i64 (i : Int))], [.row false (ints (rising (l.take i)))], 0, [(0, 1, [0, 3, 4], [(3, 0)])]⟩) l.length (by simp [rising, ints]) (fun i hi => ?_) ?_
  · have hl := rising_len (l.take i)
    simp only [List.length_take] at hl
    rw [rising_snoc hi]
    have a1 := lwb_le (rising (l.take i)) (l.getD i 0)
    have a2 := fun k => lwb_before (o := rising (l.take i)) (x := l.getD i 0) (i := k)
    have a3 := lwb_at (o := rising (l.take i)) (x := l.getD i 0)
    unfold ins
    generalize rising (l.take i) = o at *
    generalize hxx : l.getD i 0 = x at *
    generalize hj : lwb o x = j at *
    simp (disch := omega) only [go_sem, ↓reduceIte, Nat.reduceEqDiff, reduceCtorEq, d1021_b0]
    refine Ev_loop0 (fun k => ⟨[(0, .sl 1 (ints l)), (3, .own 1 0), (4, .int .i64 (i : Int)), (5, .int .i64 (k : Int))], [.row false (ints o)], 0, [(1, 1, [0, 3, 4, 5], [(3, 0)]), (0, 1, [0, 3, 4], [(3, 0)])]⟩) j rfl (fun k hk => ?_) ?_
    · have := a2 k hk
      simp (disch := omega) only [go_sem, ↓reduceIte, Nat.reduceEqDiff, reduceCtorEq, d1021_b1, hxx]
    · by_cases hjl : j < o.length
      · have a3 := a3 hjl
        by_cases hx : o.getD j 0 = x
        · rw [if_pos ⟨hjl, hx⟩]
          simp (disch := omega) only [go_sem, ↓reduceIte, Nat.reduceEqDiff, reduceCtorEq, d1021_b1, hxx, hx]
        · rw [if_neg (fun h => hx h.2), show o.take j ++ x :: o.drop j = o.take j ++ [x] ++ o.drop j by simp]
          simp (disch := omega) only [go_sem, ↓reduceIte, Nat.reduceEqDiff, Nat.reduceAdd, reduceCtorEq, Nat.reduceLeDiff, d1021_b1, hxx]
      · rw [if_neg (fun h => hjl h.1)]
        obtain rfl : j = o.length := by omega
        simp (disch := omega) only [go_sem, ↓reduceIte, Nat.reduceEqDiff, Nat.reduceAdd, reduceCtorEq, Nat.reduceLeDiff, d1021_b1, hxx, List.drop_length, List.take_length]
  · simp (disch := omega) only [go_sem, ↓reduceIte, Nat.reduceEqDiff, reduceCtorEq, d1021_b0, List.take_length]
def rp (s : Txt) : Option Rep := alG tRep okR s
def reps (l : List Txt) : List Rep := l.filterMap rp
def odds (l : List Txt) : Nat := l.countP fun s => (rp s).isNone
def idsR (l : List Txt) : List Int := (reps l).map (·.id)
def cdsR (l : List Txt) : List Int := (reps l).map (·.code)
def okB (l : List Txt) : Prop := l.length ≤ 60000 ∧ ∀ i, i < l.length → (l.getD i []).length ≤ 1000000
theorem reps_yes {l : List Txt} {i : Nat} {y : Rep} (hi : i < l.length) (h : rp (l.getD i []) = some y) : reps (l.take (i + 1)) = reps (l.take i) ++ [y] ∧ odds (l.take (i + 1)) = odds (l.take i) := by
  rw [take_snoc [] hi]
  unfold reps odds
  rw [List.filterMap_append, List.countP_append]
  generalize l.getD i [] = x at h
  simp [h]
theorem reps_no {l : List Txt} {i : Nat} (hi : i < l.length) (h : rp (l.getD i []) = none) : reps (l.take (i + 1)) = reps (l.take i) ∧ odds (l.take (i + 1)) = odds (l.take i) + 1 := by
  rw [take_snoc [] hi]
  unfold reps odds
  rw [List.filterMap_append, List.countP_append]
  generalize l.getD i [] = x at h
  simp [h]
theorem reps_len (l : List Txt) : (reps l).length ≤ l.length := List.length_filterMap_le _ _
theorem odds_len (l : List Txt) : odds l ≤ l.length := List.countP_le_length
theorem rp_len {s : Txt} {y : Rep} (h : rp s = some y) : y.hits.length ≤ 100 := (of_decide_eq_true (formR.iff.1 h).1 : RepOk y).2.2.2.1
theorem getRA_yes {s : Txt} {y : Rep} (h : rp s = some y) : getRA s = [.agg (repV y), .int .i64 0] := by
  unfold getRA; rw [show alG tRep okR s = some y from h]
theorem getRA_no {s : Txt} (h : rp s = none) : getRA s = [.agg (repV zR), .int .i64 220] := by
  unfold getRA; rw [show alG tRep okR s = none from h]
theorem repsV_snoc (l : List Rep) (y : Rep) : repsV (l ++ [y]) = repsV l ++ [.int .i64 y.id, .int .i64 y.code, .bool y.found, .int .i64 y.d, .vec 2 (hts y.hits)] := by rw [← repsV_app]; simp [repsV, repV]
def rrdS (l : List Txt) (i : Nat) : St := ⟨[(0, .sl 1 (strs l)), (4, .own 5 0), (5, .int .i64 (odds (l.take i) : Nat)), (6, .int .i64 (i : Int))], [.row false (repsV (reps (l.take i)))], 0, [(0, 1, [0, 4, 5, 6], [(4, 0)])]⟩
theorem rread_run {l : List Txt} (hl : okB l) : runP tab 1414 [.sl 1 (strs l)] [] = some (.tup [.sl 5 (repsS (reps l)), .int .i64 (odds l : Nat)], []) := by
  refine runP_fn t1414 rfl ?_
  obtain ⟨hl, ht⟩ := hl
  have L := strs_length l
  simp (disch := omega) only [go_sem, ↓reduceIte, Nat.reduceEqDiff, reduceCtorEq, d1414]
  refine Ev_loop0 (fun i => rrdS l i) l.length rfl (fun i hi => ?_) ?_
  · have e := strs_rdc hi
    have g := rgetR_run (ht i hi)
    have hn := reps_len (l.take i)
    have ho := odds_len (l.take i)
    simp only [List.length_take] at hn ho
    cases h : rp (l.getD i []) with
    | none =>
      rw [getRA_no h] at g
      obtain ⟨e1, e2⟩ := reps_no hi h
      unfold rrdS
      rw [e1, e2]
      generalize reps (l.take i) = R at *
      generalize odds (l.take i) = o at *
      simp only [repV, zR, hts_nil] at g
      simp (disch := omega) only [go_sem, ↓reduceIte, Nat.reduceEqDiff, Nat.reduceAdd, reduceCtorEq, Nat.reduceLeDiff, d1414_b0, e, g, L]
    | some y =>
      rw [getRA_yes h] at g
      obtain ⟨e1, e2⟩ := reps_yes hi h
      unfold rrdS
      rw [e1, e2, repsV_snoc]
      generalize reps (l.take i) = R at *
      generalize odds (l.take i) = o at *
      have hy := rp_len h
      simp only [repV] at g
      simp (disch := omega) only [go_sem, ↓reduceIte, Nat.reduceEqDiff, Nat.reduceAdd, reduceCtorEq, Nat.reduceLeDiff, Nat.reduceDiv, d1414_b0, e, g, L]
  · unfold rrdS
    rw [List.take_length]
    have hn := reps_len l
    have ho := odds_len l
    simp (disch := omega) only [go_sem, ↓reduceIte, Nat.reduceEqDiff, reduceCtorEq, d1414_b0, L]
def raS (R : List Rep) (i : Nat) : St := ⟨[(3, .sl 5 (repsS R)), (5, .own 1 0), (6, .int .i64 (i : Int))], [.row false (ints ((R.take i).map (·.id)))], 0, [(0, 1, [3, 5, 6], [(5, 0)])]⟩
theorem ids_snoc (R : List Rep) (f : Rep → Int) {i : Nat} (hi : i < R.length) : ints ((R.take (i + 1)).map f) = ints ((R.take i).map f) ++ [.int .i64 (f (R.getD i default))] := by
  rw [take_snoc default hi]; simp [ints]
theorem rall_run {l : List Txt} (hl : okB l) : runP tab 1419 [.sl 1 (strs l)] [] = some (.vec 1 (ints (idsR l)), []) := by
  refine runP_fn t1419 rfl ?_
  have g := rread_run hl
  have hn := reps_len l
  have hl := hl.1
  unfold idsR
  generalize reps l = R at *
  generalize odds l = o at *
  have L := repsS_len R
  simp (disch := omega) only [go_sem, ↓reduceIte, Nat.reduceEqDiff, reduceCtorEq, d1419, g]
  refine Ev_loop0 (fun i => raS R i) R.length rfl (fun i hi => ?_) ?_
  · have e := repsS_id hi
    have Li : (ints ((R.take i).map (·.id))).length = i := by simp [ints]; omega
    unfold raS
    rw [ids_snoc R (·.id) hi]
    generalize (R.take i).map (·.id) = I at *
    simp (disch := omega) only [go_sem, ↓reduceIte, Nat.reduceEqDiff, Nat.reduceAdd, reduceCtorEq, Nat.reduceLeDiff, d1419_b0, e, L, Li]
  · unfold raS
    rw [List.take_length]
    simp (disch := omega) only [go_sem, ↓reduceIte, Nat.reduceEqDiff, reduceCtorEq, d1419_b0, L]
theorem rids_run {l : List Txt} (hl : okB l) : runP tab 1406 [.sl 1 (strs l)] [] = some (.vec 1 (ints (rising (idsR l))), []) := by
  refine runP_fn t1406 rfl ?_
  have hn : (idsR l).length ≤ 60000 := by have := reps_len l; have := hl.1; simp only [idsR, List.length_map]; omega
  have g := rall_run hl
  have g2 := rising_run (l := idsR l) (by omega)
  simp (disch := omega) only [go_sem, ↓reduceIte, reduceCtorEq, d1406, g, g2]
theorem ronce_run {l : List Txt} (hl : okB l) : runP tab 1408 [.sl 1 (strs l)] [] = some (.bool (decide ((rising (idsR l)).length = (idsR l).length)), []) := by
  refine runP_fn t1408 rfl ?_
  have hn : (idsR l).length ≤ 60000 := by have := reps_len l; have := hl.1; simp only [idsR, List.length_map]; omega
  have g := rall_run hl
  have g2 := rids_run hl
  by_cases h : (rising (idsR l)).length = (idsR l).length
  · simp (disch := omega) only [go_sem, ↓reduceIte, Nat.reduceEqDiff, reduceCtorEq, d1408, g, g2, h]
  · have h' : ¬ ((rising (idsR l)).length : Int) = (idsR l).length := by omega
    simp (disch := omega) only [go_sem, ↓reduceIte, Nat.reduceEqDiff, reduceCtorEq, d1408, g, g2, h, h']
def ofR (R : List Rep) (id : Int) : List Rep := R.filter fun r => decide (r.id = id)
theorem ofR_len (R : List Rep) (id : Int) : (ofR R id).length ≤ R.length := List.length_filter_le _ _
theorem ofR_snoc (R : List Rep) (id : Int) {i : Nat} (hi : i < R.length) : ofR (R.take (i + 1)) id = ofR (R.take i) id ++ if (R.getD i default).id = id then [R.getD i default] else [] := by
  rw [take_snoc default hi]
  unfold ofR
  rw [List.filter_append]
  congr 1
  generalize R.getD i default = x
  by_cases h : x.id = id <;> simp [h]
def rofS (R : List Rep) (id : Int) (i : Nat) : St := ⟨[(1, .int .i64 id), (6, .sl 5 (repsS R)), (8, .own 5 0), (9, .int .i64 (i : Int))], [.row false (repsS (ofR (R.take i) id))], 0, [(0, 1, [1, 6, 8, 9], [(8, 0)])]⟩
theorem rof_run {l : List Txt} {id : Int} (hl : okB l) : runP tab 1401 [.sl 1 (strs l), .int .i64 id] [] = some (.tup [.sl 5 (repsS (ofR (reps l) id)), .bool (decide (0 < (ofR (reps l) id).length))], []) := by
  refine runP_fn t1401 rfl ?_
  have g := rread_run hl
  have hn := reps_len l
  have hl := hl.1
  generalize reps l = R at *
  generalize odds l = o at *
  have L := repsS_len R
  simp (disch := omega) only [go_sem, ↓reduceIte, Nat.reduceEqDiff, reduceCtorEq, d1401, g]
  refine Ev_loop0 (fun i => rofS R id i) R.length rfl (fun i hi => ?_) ?_
  · have e := repsS_id hi
    have e2 := repsS_rdc' hi
    have Li := ofR_len (R.take i) id
    simp only [List.length_take] at Li
    unfold rofS
    rw [ofR_snoc R id hi]
    generalize hO : ofR (R.take i) id = O at *
    by_cases h : (R.getD i default).id = id
    · rw [if_pos h, ← repsS_app, ← repsS_one]
      generalize R.getD i default = y at *
      have LO := repsS_len O
      simp only [repS] at e2 ⊢
      simp (disch := omega) only [go_sem, ↓reduceIte, Nat.reduceEqDiff, Nat.reduceAdd, reduceCtorEq, Nat.reduceLeDiff, Nat.reduceDiv, d1401_b0, e, e2, L, LO, h]
    · rw [if_neg h, List.append_nil]
      simp (disch := omega) only [go_sem, ↓reduceIte, Nat.reduceEqDiff, d1401_b0, e, L, h]
  · unfold rofS
    rw [List.take_length]
    have Lo := ofR_len R id
    have L2 := repsS_len (ofR R id)
    by_cases h : 0 < (ofR R id).length
    · simp (disch := omega) only [go_sem, ↓reduceIte, Nat.reduceEqDiff, reduceCtorEq, d1401_b0, L, L2, h]
    · simp (disch := omega) only [go_sem, ↓reduceIte, Nat.reduceEqDiff, reduceCtorEq, d1401_b0, L, L2, h]
end Go.Proofs.Ytcfhocnbpplecaa

namespace Go.Proofs.Ytcfhocnbpplecaa
set_option linter.unusedVariables false
set_option maxHeartbeats 4000000
set_option maxRecDepth 100000
theorem sread_run {l : List Txt} : runP tab 1411 [.sl 1 (strs l)] [] = some (.clo 1422 [] [.box [.sl 1 (strs l)]], []) := by
  refine runP_fn t1411 rfl ?_
  simp (disch := omega) only [go_sem, ↓reduceIte, Nat.reduceEqDiff, d1411]
theorem idsR_yes {l : List Txt} {i : Nat} {y : Rep} (hi : i < l.length) (h : rp (l.getD i []) = some y) : idsR (l.take (i + 1)) = idsR (l.take i) ++ [y.id] := by
  unfold idsR; rw [(reps_yes hi h).1, List.map_append]; rfl
theorem idsR_no {l : List Txt} {i : Nat} (hi : i < l.length) (h : rp (l.getD i []) = none) : idsR (l.take (i + 1)) = idsR (l.take i) := by
  unfold idsR; rw [(reps_no hi h).1]
theorem cdsR_yes {l : List Txt} {i : Nat} {y : Rep} (hi : i < l.length) (h : rp (l.getD i []) = some y) : cdsR (l.take (i + 1)) = cdsR (l.take i) ++ [y.code] := by
  unfold cdsR; rw [(reps_yes hi h).1, List.map_append]; rfl
theorem cdsR_no {l : List Txt} {i : Nat} (hi : i < l.length) (h : rp (l.getD i []) = none) : cdsR (l.take (i + 1)) = cdsR (l.take i) := by
  unfold cdsR; rw [(reps_no hi h).1]
theorem idsR_len (l : List Txt) : (idsR l).length ≤ l.length := by unfold idsR; rw [List.length_map]; exact reps_len l
theorem cdsR_len (l : List Txt) : (cdsR l).length ≤ l.length := by unfold cdsR; rw [List.length_map]; exact reps_len l
def mpI (xs : List Int) : Blk := .mp (ints (ddI xs)) (vsI xs)
theorem vsI_noid' (xs : List Int) : allL pnoid (vsI xs) = true := by
  unfold vsI
  generalize ddI xs = D
  induction D with
  | nil => rfl
  | cons a D ih => rw [List.map_cons, allL, ih]; rfl
theorem vsI_idlt' (n : Nat) (xs : List Int) : allL (pidlt n) (vsI xs) = true := idltL_noid _ (vsI_noid' xs)
theorem vsI_ren' (f : Nat → Nat) (xs : List Int) : mapL (ren1 f) (vsI xs) = vsI xs := renL_noid _ (vsI_noid' xs)
attribute [go_sem] vsI_noid' vsI_idlt' vsI_ren'
def pidL : Blk := .lp 0 [(2, .nilm), (3, .ref 1 0), (8, .clo 1422 [] [.ref 2 0])] [9, 10] d1418_r0a d1418_r0 .normal
def pidS (l : List Txt) (i : Nat) : St := ⟨[(0, .yld 3), (7, .sl 1 (strs l)), (8, .int .i64 l.length), (9, .int .i64 (i : Int))], [mpI (idsR (l.take i)), .row false [.mref 0], .row false [.sl 1 (strs l)], pidL], 4, [(0, 4, [0, 7, 8, 9], [(0, 3)])]⟩
theorem perId_C {l : List Txt} (hl : okB l) : EvC tabM 1418 [.sl 1 (strs l)] [] (fun v hp' => v = .mref 0 ∧ hp' = [mpI (idsR l), .row false [.mref 0], .row false [.sl 1 (strs l)], .dead]) := by
  refine EvC_fn (show tabM 1418 = _ from t1418) rfl ?_
  obtain ⟨hl, ht⟩ := hl
  have g := up (sread_run (l := l))
  simp (disch := omega) only [go_sem, ↓reduceIte, Nat.reduceEqDiff, Nat.reduceAdd, reduceCtorEq, d1418, g]
  refine Ev_rangef rfl ?_
  refine EvC_fn (show tabM 1422 = _ from t1422) rfl ?_
  have L := strs_length l
  simp (disch := omega) only [go_sem, ↓reduceIte, Nat.reduceEqDiff, Nat.reduceAdd, reduceCtorEq, d1422, L]
  refine Ev_loop0 (fun i => pidS l i) l.length rfl (fun i hi => ?_) ?_
  · have e := strs_rdc hi
    have g := getRM (ht i hi)
    have hn := idsR_len (l.take i)
    simp only [List.length_take] at hn
    have hd := ddI_len (idsR (l.take i))
    cases h : rp (l.getD i []) with
    | none =>
      rw [getRA_no h] at g
      unfold pidS
      rw [idsR_no hi h]
      generalize idsR (l.take i) = I at *
      simp only [repV, zR, hts_nil] at g
      simp (disch := omega) only [go_sem, ↓reduceIte, Nat.reduceEqDiff, Nat.reduceAdd, reduceCtorEq, d1422_b0, e, g, pidL, mpI, L]
      refine EvR_eq rfl rfl ?_
      simp (disch := omega) only [go_sem, ↓reduceIte, Nat.reduceEqDiff, Nat.reduceAdd, reduceCtorEq, Nat.reduceLeDiff, d1418_r0a, d1418_r0]
    | some y =>
      rw [getRA_yes h] at g
      have hy := rp_len h
      have hc := cnI_len (idsR (l.take i)) y.id
      unfold pidS mpI
      rw [idsR_yes hi h]
      generalize idsR (l.take i) = I at *
      simp only [repV] at g
      by_cases hm : y.id ∈ ddI I
      · obtain ⟨j, j1, j2, j3, j4⟩ := ddI_ix hm
        have en := vsI_in hm j1 j2
        have hi4 := vsI_idlt' 4 (I ++ [y.id])
        rw [en] at hi4
        rw [ddI_snoc, if_pos hm, en]
        simp (disch := omega) only [go_sem, ↓reduceIte, Nat.reduceEqDiff, Nat.reduceAdd, reduceCtorEq, d1422_b0, e, g, pidL, L]
        refine EvR_eq rfl rfl ?_
        simp (disch := omega) only [go_sem, ↓reduceIte, Nat.reduceEqDiff, Nat.reduceAdd, reduceCtorEq, Nat.reduceLeDiff, d1418_r0a, d1418_r0, j3, j4, hi4]
      · have j3 := kget_iout hm
        have en := vsI_out hm
        rw [ddI_snoc, if_neg hm, en]
        simp (disch := omega) only [go_sem, ↓reduceIte, Nat.reduceEqDiff, Nat.reduceAdd, reduceCtorEq, d1422_b0, e, g, pidL, L]
        refine EvR_eq rfl rfl ?_
        simp (disch := omega) only [go_sem, ↓reduceIte, Nat.reduceEqDiff, Nat.reduceAdd, reduceCtorEq, Nat.reduceLeDiff, d1418_r0a, d1418_r0, j3]
  · unfold pidS
    rw [List.take_length]
    simp (disch := omega) only [go_sem, ↓reduceIte, Nat.reduceEqDiff, reduceCtorEq, d1422_b0, pidL, mpI]
    done
def ofL (id : Int) : Blk := .lp 0 [(3, .ref 0 0), (4, .nils), (5, .bool false), (6, .ref 1 0), (10, .clo 1422 [] [.ref 2 0])] [11, 12] d1400_r0a d1400_r0 .normal
def ofS (l : List Txt) (id : Int) (i : Nat) : St := ⟨[(0, .yld 3), (7, .sl 1 (strs l)), (8, .int .i64 l.length), (9, .int .i64 (i : Int))], [.row false [.int .i64 id], .row false [.vec 5 (repsV (ofR (reps (l.take i)) id))], .row false [.sl 1 (strs l)], ofL id], 4, [(0, 4, [0, 7, 8, 9], [(0, 3)])]⟩
theorem ofR_one (R : List Rep) (y : Rep) (id : Int) : ofR (R ++ [y]) id = ofR R id ++ if y.id = id then [y] else [] := by
  unfold ofR
  rw [List.filter_append]
  congr 1
  by_cases h : y.id = id <;> simp [h]
theorem of_run {l : List Txt} {id : Int} (hl : okB l) : runP tabM 1400 [.sl 1 (strs l), .int .i64 id] [] = some (.tup [.sl 5 (repsS (ofR (reps l) id)), .bool (decide (0 < (ofR (reps l) id).length))], []) := by
  refine runP_fn (show tabM 1400 = _ from t1400) rfl ?_
  obtain ⟨hl, ht⟩ := hl
  have g := up (sread_run (l := l))
  simp (disch := omega) only [go_sem, ↓reduceIte, Nat.reduceEqDiff, Nat.reduceAdd, reduceCtorEq, d1400, g]
  refine Ev_rangef rfl ?_
  refine EvC_fn (show tabM 1422 = _ from t1422) rfl ?_
  have L := strs_length l
  simp (disch := omega) only [go_sem, ↓reduceIte, Nat.reduceEqDiff, Nat.reduceAdd, reduceCtorEq, d1422, L]
  refine Ev_loop0 (fun i => ofS l id i) l.length rfl (fun i hi => ?_) ?_
  · have e := strs_rdc hi
    have g := getRM (ht i hi)
    have hn := reps_len (l.take i)
    have ho := ofR_len (reps (l.take i)) id
    simp only [List.length_take] at hn
    cases h : rp (l.getD i []) with
    | none =>
      rw [getRA_no h] at g
      unfold ofS
      rw [(reps_no hi h).1]
      generalize ofR (reps (l.take i)) id = O at *
      have LO := repsV_len O
      simp only [repV, zR, hts_nil] at g
      simp (disch := omega) only [go_sem, ↓reduceIte, Nat.reduceEqDiff, Nat.reduceAdd, reduceCtorEq, d1422_b0, e, g, ofL, L]
      refine EvR_eq rfl rfl ?_
      simp (disch := omega) only [go_sem, ↓reduceIte, Nat.reduceEqDiff, Nat.reduceAdd, reduceCtorEq, Nat.reduceLeDiff, d1400_r0a, d1400_r0]
    | some y =>
      rw [getRA_yes h] at g
      have hy := rp_len h
      unfold ofS
      rw [(reps_yes hi h).1, ofR_one]
      generalize ofR (reps (l.take i)) id = O at *
      have LO := repsV_len O
      simp only [repV] at g
      by_cases hm : y.id = id
      · rw [if_pos hm, repsV_snoc]
        simp (disch := omega) only [go_sem, ↓reduceIte, Nat.reduceEqDiff, Nat.reduceAdd, reduceCtorEq, d1422_b0, e, g, ofL, L]
        refine EvR_eq rfl rfl ?_
        simp (disch := omega) only [go_sem, ↓reduceIte, Nat.reduceEqDiff, Nat.reduceAdd, reduceCtorEq, Nat.reduceLeDiff, Nat.reduceDiv, d1400_r0a, d1400_r0, LO, hm]
      · rw [if_neg hm, List.append_nil]
        simp (disch := omega) only [go_sem, ↓reduceIte, Nat.reduceEqDiff, Nat.reduceAdd, reduceCtorEq, d1422_b0, e, g, ofL, L]
        refine EvR_eq rfl rfl ?_
        simp (disch := omega) only [go_sem, ↓reduceIte, Nat.reduceEqDiff, Nat.reduceAdd, reduceCtorEq, Nat.reduceLeDiff, d1400_r0a, d1400_r0, hm]
  · unfold ofS
    rw [List.take_length]
    have ho := ofR_len (reps l) id
    have hn := reps_len l
    generalize ofR (reps l) id = O at *
    have LO := repsV_len O
    by_cases h : 0 < O.length
    · simp (disch := omega) only [go_sem, ↓reduceIte, Nat.reduceEqDiff, Nat.reduceAdd, reduceCtorEq, d1422_b0, ofL, LO, h]
    · simp (disch := omega) only [go_sem, ↓reduceIte, Nat.reduceEqDiff, Nat.reduceAdd, reduceCtorEq, d1422_b0, ofL, LO, h]
end Go.Proofs.Ytcfhocnbpplecaa
