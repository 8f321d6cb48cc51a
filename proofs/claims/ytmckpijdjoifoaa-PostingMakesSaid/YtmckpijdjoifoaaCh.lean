/- Postings of a graph: posting.Make. -/
import Derived.Test.YtmckpijdjoifoaaCg
import Derived.Test.YtmckpijdjoifoaaCb
set_option linter.unusedSimpArgs false
set_option linter.unusedVariables false
namespace Go.Proofs.Ytmckpijdjoifoaa
set_option maxHeartbeats 4000000
set_option maxRecDepth 100000
def gT (s : Nat) (g : Gr) : List AV := [.int .i64 g.n, .sl s (prs g.E), .sl 1 (wcs g.W)]
def pmI (s : Nat) (g : Gr) (ws : List Txt) (v k : Nat) (ps : List Pr) : St := ⟨[(4, .mref 1), (5, .int .i64 (v : Int)), (17, .sl 1 (wcs g.W)), (18, .int .i64 g.W.length), (19, .int .i64 (v : Int)), (24, .sl 1 (strs ws)), (25, .int .i64 ws.length), (26, .int .i64 (k : Int))], [.row false (gT s g), mpB ps], 0, [(1, 2, [4, 5, 17, 18, 19, 24, 25, 26], [(4, 1)]), (0, 2, [4, 17, 18, 19], [(4, 1)])]⟩
theorem pm_step {s : Nat} {g : Gr} {ws : List Txt} {v k : Nat} {ps : List Pr} (hk : k < ws.length) (hw : ws.length ≤ 20) (hv : v < 250) (hp : ps.length ≤ 10000) : Ev tabM d1552_b1 (pmI s g ws v k ps) (fun x st => x = .normal ∧ st = pmI s g ws v (k + 1) (ps ++ [(ws.getD k [], (v : Int))])) := by
  have e1 := strs_rdc hk
  have L := strs_length ws
  unfold pmI mpB
  by_cases h : ws.getD k [] ∈ kyP ps
  · obtain ⟨j, hj, e, hg⟩ := kyP_ix h
    have hat := vlP_at hj
    rw [e] at hat
    have Lp := ints_length (plc ps (ws.getD k []))
    have lp := plc_len ps (ws.getD k [])
    have hi := vlP_idlt' 2 (ps ++ [(ws.getD k [], (v : Int))])
    rw [vlP_in h hj e] at hi
    rw [kyP_snoc, if_pos h, vlP_in h hj e]
    simp (config := { maxSteps := 1000000 }) (disch := omega) only [go_sem, ↓reduceIte, Nat.reduceEqDiff, Nat.reduceAdd, reduceCtorEq, Nat.reduceLeDiff, d1552_b1, e1, L, hg, hat, Lp, gT, List.set_set, hi]
  · have hg := kget_sout h
    rw [kyP_snoc, if_neg h, vlP_out h]
    simp (config := { maxSteps := 1000000 }) (disch := omega) only [go_sem, ↓reduceIte, Nat.reduceEqDiff, Nat.reduceAdd, reduceCtorEq, Nat.reduceLeDiff, d1552_b1, e1, L, hg, gT, strs_snoc]
    rfl
def pmS (s : Nat) (g : Gr) (v : Nat) (ps : List Pr) : St := ⟨[(4, .mref 1), (17, .sl 1 (wcs g.W)), (18, .int .i64 g.W.length), (19, .int .i64 (v : Int))], [.row false (gT s g), mpB ps], 0, [(0, 2, [4, 17, 18, 19], [(4, 1)])]⟩
theorem map_snoc (ws : List Txt) (v : Int) {k : Nat} (hk : k < ws.length) : ((ws.take (k + 1)).map fun w => (w, v)) = ((ws.take k).map fun w => (w, v)) ++ [(ws.getD k [], v)] := by
  rw [take_snoc [] hk, List.map_append]; rfl
theorem pm_row {s : Nat} {g : Gr} (hg : okG g) {v : Nat} (hv : v < g.W.length) (hp : (pfx g.W v).length ≤ 5000) : Ev tabM d1552_b0 (pmS s g v (pfx g.W v)) (fun x st => x = .normal ∧ st = pmS s g (v + 1) (pfx g.W (v + 1))) := by
  have lw := hg.w
  have e1 := wcs_at hv
  have Lw := wcs_len g.W
  have hr := hg.r v hv
  unfold Gr.w at hr
  unfold pmS mpB
  rw [pfx]
  cases hx : g.W.getD v none with
  | none =>
    rw [hx, wc] at e1
    simp (config := { maxSteps := 1000000 }) (disch := omega) only [go_sem, ↓reduceIte, Nat.reduceEqDiff, Nat.reduceAdd, d1552_b0, e1, Lw, gT]
    refine Ev_stop ?_
    simp (config := { maxSteps := 1000000 }) (disch := omega) only [go_sem, ↓reduceIte, Nat.reduceEqDiff, Nat.reduceAdd, reduceCtorEq, d1552_b1]
  | some ws =>
    rw [hx, wc] at e1
    rw [hx] at hr
    have hr : ws.length ≤ 20 := hr
    have L := strs_length ws
    simp (config := { maxSteps := 1000000 }) (disch := omega) only [go_sem, ↓reduceIte, Nat.reduceEqDiff, Nat.reduceAdd, d1552_b0, e1, Lw, L, gT]
    refine Ev_loop0 (fun k => pmI s g ws v k (pfx g.W v ++ (ws.take k).map fun w => (w, (v : Int)))) ws.length ?_ (fun k hk => ?_) ?_
    · rw [List.take_zero, List.map_nil, List.append_nil]; rfl
    · rw [map_snoc ws v hk, ← List.append_assoc]
      exact pm_step hk hr (by omega) (by simp; omega)
    · unfold pmI mpB
      rw [List.take_length]
      simp (config := { maxSteps := 1000000 }) (disch := omega) only [go_sem, ↓reduceIte, Nat.reduceEqDiff, Nat.reduceAdd, reduceCtorEq, d1552_b1, gT]
theorem kyP_len5 {g : Gr} (hg : okG g) {n : Nat} (hn : n ≤ g.W.length) : (pfx g.W n).length ≤ 5000 := by
  have hl := pfx_len (W := g.W) (m := 20) (fun i hi => hg.r i hi) n hn
  have lw := hg.w
  omega
theorem pmake_gen {s : Nat} {g : Gr} (hg : okG g) (gi : runP tabM 1208 [.agg (gT s g)] [] = some (.bool true, [])) : runP tabM 1552 [.agg (gT s g)] [] = some (.tup [.vec 2 (poS (postP (pfx g.W g.W.length))), .int .i64 0], []) := by
  refine runP_fn (show tabM 1552 = _ from t1552) rfl ?_
  unfold gT at gi
  have lw := hg.w
  have Lw := wcs_len g.W
  simp (config := { maxSteps := 1000000 }) (disch := omega) only [go_sem, ↓reduceIte, Nat.reduceEqDiff, Nat.reduceAdd, d1552, gT, gi]
  refine Ev_loop0 (fun v => pmS s g v (pfx g.W v)) g.W.length rfl (fun v hv => pm_row hg hv (kyP_len5 hg (Nat.le_of_lt hv))) ?_
  have hps := kyP_len5 hg (Nat.le_refl _)
  generalize pfx g.W g.W.length = ps at *
  have hk := kyP_len ps
  unfold pmS mpB
  simp (config := { maxSteps := 1000000 }) (disch := omega) only [go_sem, ↓reduceIte, Nat.reduceEqDiff, reduceCtorEq, d1552_b0, gT]
  refine EvO_all (EvC_fn (show tabM 1557 = _ from t1557) rfl ?_)
  simp (config := { maxSteps := 1000000 }) (disch := omega) only [go_sem, ↓reduceIte, Nat.reduceEqDiff, Nat.reduceAdd, d1557, alQ]
  have hlt : ([.row false [.int .i64 g.n, .sl s (prs g.E), .sl 1 (wcs g.W)], .mp (strs (kyP ps)) (vlP ps), .row false [.mref 1]] : List Blk).all (fun x => x.idlt 3) = true := by
    have h1 : idltL 3 [AV.int .i64 g.n, .sl s (prs g.E), .sl 1 (wcs g.W)] = true := by
      have a := prs_idlt' 3 g.E
      have b := wcs_idlt' 3 g.W
      simp [idltL, allL, AV.allv, pidlt, a, b]
    have h2 : idltL 3 (strs (kyP ps)) = true := strs_idlt' _ _
    have h3 : idltL 3 (vlP ps) = true := vlP_idlt' _ _
    simp [Blk.idlt, h1, h2, h3]
    rfl
  refine EvO_all (EvC_orc m1556 (gSorted_eq (b := 2) (id := 1) (fr := false) (l := kyP ps) (vs := vlP ps) ⟨rfl, rfl, rfl, hlt, by omega, vlP_len ps⟩) ?_)
  simp (config := { maxSteps := 1000000 }) (disch := omega) only [go_sem, ↓reduceIte, Nat.reduceEqDiff, Nat.reduceAdd, alQ]
  have hsl := sorted_len (lt := ltS) (kyP ps)
  have hmem : ∀ i, i < (sorted ltS (kyP ps)).length → (sorted ltS (kyP ps)).getD i [] ∈ kyP ps := fun i hi => ((sorted_perm (lt := ltS) (kyP ps)).mem_iff).1 (getD_mem' hi)
  unfold postP
  generalize sorted ltS (kyP ps) = S at *
  have LS := strs_length S
  refine Ev_loop0 (fun j => ⟨[(4, .mref 1), (9, .own 2 4), (42, .own 1 3), (43, .int .i64 S.length), (44, .int .i64 (j : Int))], [.row false [.int .i64 g.n, .sl s (prs g.E), .sl 1 (wcs g.W)], .mp (strs (kyP ps)) (vlS ps), .row false [.mref 1], .row false (strs S), .row false (poS ((S.take j).map fun w => (w, plc ps w)))], 0, [(2, 5, [4, 9, 42, 43, 44], [(4, 1), (9, 4), (42, 3)]), (0, 2, [4, 17, 18, 19], [(4, 1)])]⟩) S.length rfl (fun j hj => ?_) ?_
  · obtain ⟨m, hm, em, hg⟩ := kyP_ix (hmem j hj)
    have e1 := strs_rdc hj
    have hat := vlS_at hm
    rw [em] at hat
    have et : ((S.take (j + 1)).map fun w => (w, plc ps w)) = ((S.take j).map fun w => (w, plc ps w)) ++ [(S.getD j [], plc ps (S.getD j []))] := by rw [take_snoc [] hj, List.map_append]; rfl
    have Lq := poS_len ((S.take j).map fun w => (w, plc ps w))
    have Ln : ((S.take j).map fun w => (w, plc ps w)).length = j := by simp; omega
    have Lp := ints_length (plc ps (S.getD j []))
    have lp := plc_len ps (S.getD j [])
    rw [et, ← poS_app]
    generalize ((S.take j).map fun w => (w, plc ps w)) = Q at *
    simp (config := { maxSteps := 1000000 }) (disch := omega) only [go_sem, ↓reduceIte, Nat.reduceEqDiff, Nat.reduceAdd, reduceCtorEq, Nat.reduceLeDiff, Nat.reduceDiv, d1552_b2, LS, e1, hg, hat, Lq, Ln]
    rfl
  · rw [List.take_length]
    simp (config := { maxSteps := 1000000 }) (disch := omega) only [go_sem, ↓reduceIte, Nat.reduceEqDiff, reduceCtorEq, d1552_b2]
theorem pmake_run {g : Gr} (hg : okG g) (hi : isB g = true) : runP tabM 1552 [.agg (gS g)] [] = some (.tup [.vec 2 (poS (postP (pfx g.W g.W.length))), .int .i64 0], []) := by
  have gi := up (isg_run hg)
  rw [hi] at gi
  exact pmake_gen (s := 2) hg gi
theorem pmake_no {g : Gr} (hg : okG g) (hi : isB g = false) : runP tabM 1552 [.agg (gS g)] [] = some (.tup [.vec 2 [], .int .i64 20], []) := by
  refine runP_fn (show tabM 1552 = _ from t1552) rfl ?_
  have gi := up (isg_run hg)
  rw [hi] at gi
  unfold gS at gi
  simp (config := { maxSteps := 1000000 }) (disch := omega) only [go_sem, ↓reduceIte, Nat.reduceEqDiff, Nat.reduceAdd, d1552, gS, gi]
end Go.Proofs.Ytmckpijdjoifoaa
