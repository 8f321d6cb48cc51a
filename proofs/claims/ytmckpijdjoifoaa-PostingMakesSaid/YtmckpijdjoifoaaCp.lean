/- Postings: Own; the document's Make. -/
import Derived.Test.YtmckpijdjoifoaaCl
import Derived.Test.YtmckpijdjoifoaaGd
import Derived.Test.YtmckpijdjoifoaaGp
set_option linter.unusedSimpArgs false
set_option linter.unusedVariables false
namespace Go.Proofs.Ytmckpijdjoifoaa
set_option maxHeartbeats 4000000
set_option maxRecDepth 100000
def evW (W : Wds) (n : Nat) : List Txt := (pfx W n).map (·.1)
theorem evW_succ (W : Wds) (n : Nat) : evW W (n + 1) = evW W n ++ (W.getD n none).getD [] := by
  unfold evW; rw [pfx, List.map_append, List.map_map]; congr 1; simp [Function.comp_def]
theorem evW_len (W : Wds) (n : Nat) : (evW W n).length = (pfx W n).length := by simp [evW]
def rmS (g : Gr) (v : Nat) : St := ⟨[(1, .ref 0 0), (4, .own 1 1), (5, .int .i64 (v : Int))], [.row false (gS g), .row false (strs (evW g.W v))], 0, [(0, 2, [1, 4, 5], [(1, 0), (4, 1)])]⟩
theorem rm_ev {g : Gr} (hg : okG g) (c4 : (g.W.length : Int) = g.n) {v : Nat} (hv : v < g.W.length) : Ev tab d1594_b0 (rmS g v) (fun x st => x = .normal ∧ st = rmS g (v + 1)) := by
  have lw := hg.w
  have e1 := wcs_at hv
  have Lw := wcs_len g.W
  have hr := hg.r v hv
  unfold Gr.w at hr
  have L1 := strs_length (evW g.W v)
  have l1 := evW_len g.W v
  have l2 := kyP_len5 hg (Nat.le_of_lt hv)
  unfold rmS
  rw [evW_succ]
  cases hx : g.W.getD v none with
  | none =>
    rw [hx, wc] at e1
    rw [Option.getD_none, List.append_nil]
    simp (config := { maxSteps := 1000000 }) (disch := omega) only [go_sem, ↓reduceIte, Nat.reduceEqDiff, Nat.reduceAdd, reduceCtorEq, Nat.reduceLeDiff, d1594_b0, e1, Lw, gS, L1, l1]
  | some ws =>
    rw [hx, wc] at e1
    rw [hx] at hr
    have hr : ws.length ≤ 20 := hr
    have L := strs_length ws
    rw [Option.getD_some]
    simp (config := { maxSteps := 1000000 }) (disch := omega) only [go_sem, ↓reduceIte, Nat.reduceEqDiff, Nat.reduceAdd, reduceCtorEq, Nat.reduceLeDiff, d1594_b0, e1, Lw, gS, L, L1, l1]
    rw [strs_app]
def rmK (g : Gr) (ev ws : List Txt) (Q : List Po) (w : Txt) (i v k : Nat) (ps : List Pr) : St := ⟨[(1, .ref 0 0), (6, .own 1 2), (7, .own 2 3), (8, .int .i64 (i : Int)), (9, .ref 4 0), (10, .int .i64 (v : Int)), (11, .int .i64 (k : Int))], [.row false (gS g), .row false (strs ev), .row false (strs ws), .row false (poV Q), .row false [.str w, .vec 1 (ints (plc ps w))]], 0, [(3, 5, [1, 6, 7, 8, 9, 10, 11], [(1, 0), (6, 2), (7, 3), (9, 4)]), (2, 5, [1, 6, 7, 8, 9, 10], [(1, 0), (6, 2), (7, 3), (9, 4)]), (1, 4, [1, 6, 7, 8], [(1, 0), (6, 2), (7, 3)]), (0, 2, [1, 4, 5], [(1, 0), (4, 1)])]⟩
theorem rm_at {g : Gr} (hg : okG g) {ev ws wv : List Txt} {Q : List Po} (hws : ws.length ≤ 5000) {i v k : Nat} (hi : i < ws.length) (hv : v < g.W.length) (hx : g.W.getD v none = some wv) (hk : k < wv.length) {ps : List Pr} (hp : ps.length ≤ 5100) : Ev tab d1594_b3 (rmK g ev ws Q (ws.getD i []) i v k ps) (fun x st => x = .normal ∧ st = rmK g ev ws Q (ws.getD i []) i v (k + 1) (ps ++ [(wv.getD k [], (v : Int))])) := by
  have lw := hg.w
  have Lw := wcs_len g.W
  have e1 := strs_rdc hi
  have e2 := wcs_at hv
  rw [hx, wc] at e2
  have e3 := strs_rdc hk
  have L1 := strs_length ws
  have L2 := strs_length wv
  have hr := hg.r v hv
  unfold Gr.w at hr
  rw [hx] at hr
  have hr : wv.length ≤ 20 := hr
  have Lp := ints_length (plc ps (ws.getD i []))
  have lp := plc_len ps (ws.getD i [])
  unfold rmK
  rw [plc_snoc]
  by_cases h : wv.getD k [] = ws.getD i []
  · rw [if_pos h]
    have q : (wv.getD k [] == ws.getD i []) = true := by simpa using h
    simp (config := { maxSteps := 1000000 }) (disch := omega) only [go_sem, ↓reduceIte, Nat.reduceEqDiff, Nat.reduceAdd, reduceCtorEq, Nat.reduceLeDiff, d1594_b3, e1, e2, e3, Lw, gS, L1, L2, Lp, q]
  · rw [if_neg h]
    have q : (wv.getD k [] == ws.getD i []) = false := by simpa using h
    simp (config := { maxSteps := 1000000 }) (disch := omega) only [go_sem, ↓reduceIte, Nat.reduceEqDiff, Nat.reduceAdd, d1594_b3, e1, e2, e3, Lw, gS, L1, L2, q]
def rmV (g : Gr) (ev ws : List Txt) (Q : List Po) (w : Txt) (i v : Nat) : St := ⟨[(1, .ref 0 0), (6, .own 1 2), (7, .own 2 3), (8, .int .i64 (i : Int)), (9, .ref 4 0), (10, .int .i64 (v : Int))], [.row false (gS g), .row false (strs ev), .row false (strs ws), .row false (poV Q), .row false [.str w, .vec 1 (ints (plc (pfx g.W v) w))]], 0, [(2, 5, [1, 6, 7, 8, 9, 10], [(1, 0), (6, 2), (7, 3), (9, 4)]), (1, 4, [1, 6, 7, 8], [(1, 0), (6, 2), (7, 3)]), (0, 2, [1, 4, 5], [(1, 0), (4, 1)])]⟩
theorem rm_place {g : Gr} (hg : okG g) (c4 : (g.W.length : Int) = g.n) {ev ws : List Txt} {Q : List Po} (hws : ws.length ≤ 5000) {i v : Nat} (hi : i < ws.length) (hv : v < g.W.length) : Ev tab d1594_b2 (rmV g ev ws Q (ws.getD i []) i v) (fun x st => x = .normal ∧ st = rmV g ev ws Q (ws.getD i []) i (v + 1)) := by
  have lw := hg.w
  have Lw := wcs_len g.W
  have e2 := wcs_at hv
  have hr := hg.r v hv
  unfold Gr.w at hr
  have hp := kyP_len5 hg (Nat.le_of_lt hv)
  unfold rmV
  rw [pfx]
  cases hx : g.W.getD v none with
  | none =>
    rw [hx, wc] at e2
    rw [Option.getD_none, List.map_nil, List.append_nil]
    simp (config := { maxSteps := 1000000 }) (disch := omega) only [go_sem, ↓reduceIte, Nat.reduceEqDiff, Nat.reduceAdd, d1594_b2, gS]
    refine Ev_stop ?_
    simp (config := { maxSteps := 1000000 }) (disch := omega) only [go_sem, ↓reduceIte, Nat.reduceEqDiff, Nat.reduceAdd, reduceCtorEq, d1594_b3, e2, Lw]
  | some wv =>
    rw [hx] at hr
    have hr : wv.length ≤ 20 := hr
    rw [hx, wc] at e2
    have L2 := strs_length wv
    rw [Option.getD_some]
    simp (config := { maxSteps := 1000000 }) (disch := omega) only [go_sem, ↓reduceIte, Nat.reduceEqDiff, Nat.reduceAdd, d1594_b2, gS]
    refine Ev_loop0 (fun k => rmK g ev ws Q (ws.getD i []) i v k (pfx g.W v ++ (wv.take k).map fun w => (w, (v : Int)))) wv.length ?_ (fun k hk => ?_) ?_
    · rw [List.take_zero, List.map_nil, List.append_nil]; rfl
    · rw [map_snoc wv v hk, ← List.append_assoc]
      exact rm_at hg hws hi hv hx hk (by simp; omega)
    · unfold rmK
      rw [List.take_length]
      simp (config := { maxSteps := 1000000 }) (disch := omega) only [go_sem, ↓reduceIte, Nat.reduceEqDiff, Nat.reduceAdd, reduceCtorEq, d1594_b3, e2, Lw, gS, L2]
def rmT (g : Gr) (ev ws : List Txt) (i : Nat) : St := ⟨[(1, .ref 0 0), (6, .own 1 2), (7, .own 2 3), (8, .int .i64 (i : Int))], [.row false (gS g), .row false (strs ev), .row false (strs ws), .row false (poV ((ws.take i).map fun w => (w, plc (pfx g.W g.W.length) w)))], 0, [(1, 4, [1, 6, 7, 8], [(1, 0), (6, 2), (7, 3)]), (0, 2, [1, 4, 5], [(1, 0), (4, 1)])]⟩
theorem rm_word {g : Gr} (hg : okG g) (c4 : (g.W.length : Int) = g.n) {ev ws : List Txt} (hws : ws.length ≤ 5000) {i : Nat} (hi : i < ws.length) : Ev tab d1594_b1 (rmT g ev ws i) (fun x st => x = .normal ∧ st = rmT g ev ws (i + 1)) := by
  have lw := hg.w
  have Lw := wcs_len g.W
  have e1 := strs_rdc hi
  have L1 := strs_length ws
  unfold rmT
  rw [show (ws.take (i + 1)) = ws.take i ++ [ws.getD i []] from take_snoc [] hi, List.map_append, List.map_cons, List.map_nil, ← poV_app]
  have LQ := poV_len ((ws.take i).map fun w => (w, plc (pfx g.W g.W.length) w))
  have lQ : ((ws.take i).map fun w => (w, plc (pfx g.W g.W.length) w)).length = i := by rw [List.length_map, List.length_take]; omega
  generalize ((ws.take i).map fun w => (w, plc (pfx g.W g.W.length) w)) = Q at *
  simp (config := { maxSteps := 1000000 }) (disch := omega) only [go_sem, ↓reduceIte, Nat.reduceEqDiff, Nat.reduceAdd, Nat.reduceLeDiff, d1594_b1, e1, gS, L1]
  refine Ev_loop0 (rmV g ev ws Q (ws.getD i []) i) g.W.length rfl (fun v hv => rm_place hg c4 hws hi hv) ?_
  have lp := plc_len (pfx g.W g.W.length) (ws.getD i [])
  have hp := kyP_len5 hg (Nat.le_refl _)
  unfold rmV
  generalize plc (pfx g.W g.W.length) (ws.getD i []) = X at *
  have LX := ints_length X
  simp (config := { maxSteps := 1000000 }) (disch := omega) only [go_sem, ↓reduceIte, Nat.reduceEqDiff, Nat.reduceAdd, reduceCtorEq, Nat.reduceLeDiff, Nat.reduceDiv, d1594_b2, gS, c4, LQ, lQ]
  rfl
theorem kyP_nrm (ps : List Pr) : nrmL ltS (ps.map (·.1)) = sorted ltS (kyP ps) :=
  asc_ext ordrS (nrm_asc ordrS _) (sorted_asc ordrS (kyP_nodup ps)) fun x => by
    rw [nrm_mem ordrS, (sorted_perm (lt := ltS) (kyP ps)).mem_iff, kyP, ddS_mem]
theorem isB_len {g : Gr} (h : isB g = true) : (g.W.length : Int) = g.n := by
  unfold isB at h
  simp only [Bool.and_eq_true] at h
  have h1 := h.1
  simp only [okB, Bool.and_eq_true, decide_eq_true_eq] at h1
  exact h1.1.2.2
theorem rmake_run {g : Gr} (hg : okG g) (hi : isB g = true) : runP tab 1594 [.agg (gS g)] [] = some (.tup [.vec 2 (poV (postP (pfx g.W g.W.length))), .int .i64 0], []) := by
  refine runP_fn t1594 rfl ?_
  have gi := is2_run hg
  rw [hi] at gi
  unfold gS at gi
  have c4 := isB_len hi
  have lw := hg.w
  have Lw := wcs_len g.W
  simp (config := { maxSteps := 1000000 }) (disch := omega) only [go_sem, ↓reduceIte, Nat.reduceEqDiff, Nat.reduceAdd, d1594, gS, gi]
  refine Ev_loop0 (rmS g) g.W.length rfl (fun v hv => rm_ev hg c4 hv) ?_
  have hp := kyP_len5 hg (Nat.le_refl _)
  have l1 := evW_len g.W g.W.length
  have gt := texts2_run (l := evW g.W g.W.length) (by omega)
  rw [show nrmL ltS (evW g.W g.W.length) = sorted ltS (kyP (pfx g.W g.W.length)) from kyP_nrm _] at gt
  have hk := kyP_len (pfx g.W g.W.length)
  have hs := sorted_len (lt := ltS) (kyP (pfx g.W g.W.length))
  unfold postP
  generalize hS : sorted ltS (kyP (pfx g.W g.W.length)) = S at *
  generalize hE : evW g.W g.W.length = ev at *
  have LS := strs_length S
  unfold rmS
  rw [hE]
  simp (config := { maxSteps := 1000000 }) (disch := omega) only [go_sem, ↓reduceIte, Nat.reduceEqDiff, Nat.reduceAdd, reduceCtorEq, d1594_b0, gS, c4, gt]
  refine Ev_loop0 (rmT g ev S) S.length rfl (fun i hi => rm_word hg c4 (by omega) hi) ?_
  unfold rmT
  rw [List.take_length]
  simp (config := { maxSteps := 1000000 }) (disch := omega) only [go_sem, ↓reduceIte, Nat.reduceEqDiff, reduceCtorEq, d1594_b1, LS, gS]
theorem rmake_no {g : Gr} (hg : okG g) (hi : isB g = false) : runP tab 1594 [.agg (gS g)] [] = some (.tup [.vec 2 [], .int .i64 20], []) := by
  refine runP_fn t1594 rfl ?_
  have gi := is2_run hg
  rw [hi] at gi
  unfold gS at gi
  simp (config := { maxSteps := 1000000 }) (disch := omega) only [go_sem, ↓reduceIte, Nat.reduceEqDiff, Nat.reduceAdd, d1594, gS, gi]
end Go.Proofs.Ytmckpijdjoifoaa
