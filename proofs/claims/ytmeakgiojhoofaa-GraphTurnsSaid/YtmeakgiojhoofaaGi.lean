/- Graphs: degrees; the document's example. -/
import Derived.Test.YtmeakgiojhoofaaGh
namespace Go.Proofs.Ytmeakgiojhoofaa
set_option linter.unusedSimpArgs false
set_option linter.unusedVariables false
set_option maxHeartbeats 4000000
set_option maxRecDepth 100000
def ctE (f : Ed → Int) (v : Int) (E : List Ed) (k : Nat) : Nat := ((E.take k).filter fun e => f e == v).length
theorem ctE_succ {f : Ed → Int} {v : Int} {E : List Ed} {k : Nat} (h : k < E.length) : ctE f v E (k + 1) = if f (E.getD k default) = v then ctE f v E k + 1 else ctE f v E k := by
  unfold ctE
  rw [take_snoc default h, List.filter_append, List.length_append]
  by_cases c : f (E.getD k default) = v
  · rw [if_pos c, List.filter_cons_of_pos (by simpa using c)]; rfl
  · rw [if_neg c, List.filter_cons_of_neg (by simpa using c)]; rfl
theorem ctE_le (f : Ed → Int) (v : Int) (E : List Ed) (k : Nat) : ctE f v E k ≤ k := by
  unfold ctE
  have := List.length_filter_le (fun e => f e == v) (E.take k)
  rw [List.length_take] at this; omega
def degA (g : Gr) (v : Int) : AV := if okB g = true ∧ 0 ≤ v ∧ v < g.n then .tup [.int .i64 (ctE (·.1) v (nrmL ltE g.E) (nrmL ltE g.E).length : Nat), .int .i64 (ctE (·.2) v (nrmL ltE g.E) (nrmL ltE g.E).length : Nat), .bool true] else .tup [.int .i64 0, .int .i64 0, .bool false]
theorem deg_run {g : Gr} (hg : okG g) {v : Int} : runP tab 1274 [.agg (gS g), .int .i64 v] [] = some (degA g v, []) := by
  refine runP_fn t1274 rfl ?_
  have gn := norm_run hg
  unfold degA
  unfold nrmA at gn
  by_cases c : okB g = true
  case neg =>
    rw [if_neg c] at gn
    rw [if_neg (fun h => c h.1)]
    have gz : gV 0 [] [] = [.int .i64 0, .vec 2 [], .vec 1 []] := rfl
    rw [gz] at gn
    simp only [gS] at gn
    simp (config := { maxSteps := 1000000 }) (disch := omega) only [go_sem, ↓reduceIte, Nat.reduceEqDiff, Nat.reduceAdd, Int.reduceToNat, reduceCtorEq, Nat.reduceLeDiff, Nat.reduceSub, Nat.reduceDiv, Nat.reduceMod, Nat.reduceMul, d1274, gS, gn]
  rw [if_pos c] at gn
  have nl := nrm_len (lt := ltE) g.E
  have he := hg.e
  have hw := hg.w
  have wl := nG_len g
  simp only [nG] at wl
  generalize nrmL ltE g.E = E at *
  generalize (nrmW g).map some = W at *
  have gh := hasg_run (n := g.n) (v := v) (prs_noid' E) (wcs_noid' W)
  simp only [gV, gS] at gn
  by_cases hv : 0 ≤ v ∧ v < g.n
  case neg =>
    rw [decide_eq_false hv] at gh
    rw [if_neg (fun h => hv h.2)]
    simp (config := { maxSteps := 1000000 }) (disch := omega) only [go_sem, ↓reduceIte, Nat.reduceEqDiff, Nat.reduceAdd, Int.reduceToNat, reduceCtorEq, Nat.reduceLeDiff, Nat.reduceSub, Nat.reduceDiv, Nat.reduceMod, Nat.reduceMul, d1274, gS, gn, gh]
  rw [decide_eq_true hv] at gh
  rw [if_pos ⟨c, hv⟩]
  simp (config := { maxSteps := 1000000 }) (disch := omega) only [go_sem, ↓reduceIte, Nat.reduceEqDiff, Nat.reduceAdd, Int.reduceToNat, reduceCtorEq, Nat.reduceLeDiff, Nat.reduceSub, Nat.reduceDiv, Nat.reduceMod, Nat.reduceMul, d1274, gS, gn, gh]
  generalize ha : ctE (fun e => e.1) v E = A
  generalize hb : ctE (fun e => e.2) v E = B
  refine Ev_loop0 (fun i => ⟨[(1, .int .i64 v), (9, .int .i64 (A i : Nat)), (10, .int .i64 (B i : Nat)), (27, .own 2 4), (28, .int .i64 E.length), (29, .int .i64 (i : Int))], [.row false [.int .i64 g.n, .sl 2 (prs g.E), .sl 1 (wcs g.W)], .dead, .dead, .row false [.int .i64 g.n, .own 2 4, .own 1 5], .row false (prs E), .row false (wos W)], 0, [(0, 6, [1, 9, 10, 27, 28, 29], [(27, 4)])]⟩) E.length (by rw [← ha, ← hb]; simp [ctE]) (fun i hi => ?_) ?_
  · have e := prs_at hi
    have r1 := ctE_succ (f := fun e => e.1) (v := v) hi
    have r2 := ctE_succ (f := fun e => e.2) (v := v) hi
    have l1 := ctE_le (fun e => e.1) v E i
    have l2 := ctE_le (fun e => e.2) v E i
    rw [ha] at r1 l1
    rw [hb] at r2 l2
    generalize E.getD i default = x at *
    by_cases c1 : x.1 = v <;> by_cases c2 : x.2 = v <;> simp only [c1, c2, if_true, if_false] at r1 r2 <;>
      simp (config := { maxSteps := 1000000 }) (disch := omega) only [go_sem, ↓reduceIte, Nat.reduceEqDiff, Nat.reduceAdd, Int.reduceToNat, reduceCtorEq, Nat.reduceLeDiff, Nat.reduceSub, Nat.reduceDiv, Nat.reduceMod, Nat.reduceMul, d1274_b0, e, c1, c2, r1, r2]
  · simp (config := { maxSteps := 1000000 }) (disch := omega) only [go_sem, ↓reduceIte, Nat.reduceEqDiff, Nat.reduceAdd, Int.reduceToNat, reduceCtorEq, Nat.reduceLeDiff, Nat.reduceSub, Nat.reduceDiv, Nat.reduceMod, Nat.reduceMul, d1274_b0]
def wi (W : Wds) (i : Nat) : List Txt := (W.getD i none).getD []
theorem gck_nil {n : Int} {W : Wds} (hg : okG ⟨n, [], W⟩) : runP tab 1214 [.agg [.int .i64 n, .sl 1 [], .sl 1 (wcs W)]] [] = some (.bool (okB ⟨n, [], W⟩), []) := by
  refine runP_fn t1214 rfl ?_
  have hw := hg.w
  have hr : ∀ i, i < W.length → (wi W i).length ≤ 20 := hg.r
  have ht : ∀ i, i < W.length → ∀ s ∈ wi W i, s.length ≤ 50 := hg.t
  have eo : okB ⟨n, [], W⟩ = (decide ((1 ≤ n ∧ n ≤ 200) ∧ (W.length : Int) = n) && ((List.range W.length).all fun i => wrdB (wi W i))) := by
    unfold okB
    simp only [List.length_nil, Nat.zero_le, true_and, List.all_nil, Bool.true_and]; rfl
  rw [eo]
  by_cases c1 : 1 ≤ n
  case neg =>
    rw [decide_eq_false (by omega), Bool.false_and]
    simp (config := { maxSteps := 1000000 }) (disch := omega) only [go_sem, ↓reduceIte, Nat.reduceEqDiff, Nat.reduceAdd, Int.reduceToNat, reduceCtorEq, Nat.reduceLeDiff, Nat.reduceSub, Nat.reduceDiv, Nat.reduceMod, Nat.reduceMul, d1214]
  by_cases c2 : n ≤ 200
  case neg =>
    rw [decide_eq_false (by omega), Bool.false_and]
    simp (config := { maxSteps := 1000000 }) (disch := omega) only [go_sem, ↓reduceIte, Nat.reduceEqDiff, Nat.reduceAdd, Int.reduceToNat, reduceCtorEq, Nat.reduceLeDiff, Nat.reduceSub, Nat.reduceDiv, Nat.reduceMod, Nat.reduceMul, d1214]
  by_cases c4 : (W.length : Int) = n
  case neg =>
    rw [decide_eq_false (by omega), Bool.false_and]
    simp (config := { maxSteps := 1000000 }) (disch := omega) only [go_sem, ↓reduceIte, Nat.reduceEqDiff, Nat.reduceAdd, Int.reduceToNat, reduceCtorEq, Nat.reduceLeDiff, Nat.reduceSub, Nat.reduceDiv, Nat.reduceMod, Nat.reduceMul, d1214, c4]
  rw [decide_eq_true ⟨⟨c1, c2⟩, c4⟩, Bool.true_and]
  simp (config := { maxSteps := 1000000 }) (disch := omega) only [go_sem, ↓reduceIte, Nat.reduceEqDiff, Nat.reduceAdd, Int.reduceToNat, reduceCtorEq, Nat.reduceLeDiff, Nat.reduceSub, Nat.reduceDiv, Nat.reduceMod, Nat.reduceMul, d1214, c4]
  refine Ev_loop0 (fun i => ⟨[(1, .ref 0 0), (30, .sl 1 []), (31, .int .i64 0), (32, .int .i64 (i : Int))], [.row false [.int .i64 n, .sl 1 [], .sl 1 (wcs W)]], 0, [(0, 1, [1, 30, 31, 32], [(1, 0)])]⟩) 0 (by simp) (fun i hi => absurd hi (Nat.not_lt_zero _)) ?_
  simp (config := { maxSteps := 1000000 }) (disch := omega) only [go_sem, ↓reduceIte, Nat.reduceEqDiff, Nat.reduceAdd, Int.reduceToNat, reduceCtorEq, Nat.reduceLeDiff, Nat.reduceSub, Nat.reduceDiv, Nat.reduceMod, Nat.reduceMul, d1214_b0]
  have hrow := fun (i : Nat) (hi : i < W.length) => (show rdc ((wcs W).drop i) none = some (wc (W.getD i none)) ∧ runP tab 1221 [.sl 1 (strs (wi W i)), .clo 1222 [] []] [] = some (.bool ((wi W i).all wordB), []) ∧ (wi W i).length ≤ 20 from
    ⟨wcs_at hi, all_run (by have := hr i hi; omega) (fun s hs => by have := ht i hi s hs; omega), hr i hi⟩)
  rcases first_ix' (fun i => wrdB (wi W i) = true) W.length with hw' | ⟨m, m1, m2, m3⟩
  · have eb : ((List.range W.length).all fun i => wrdB (wi W i)) = true := by
      rw [List.all_eq_true]
      intro i hi
      exact hw' i (by simpa using hi)
    rw [eb]
    refine Ev_loop0 (fun i => ⟨[(50, .sl 1 (wcs W)), (51, .int .i64 n), (52, .int .i64 (i : Int))], [.row false [.int .i64 n, .sl 1 [], .sl 1 (wcs W)]], 0, [(1, 1, [50, 51, 52], []), (0, 1, [1, 30, 31, 32], [(1, 0)])]⟩) W.length (by simp [c4]) (fun i hi => ?_) ?_
    · obtain ⟨e, ga, hl⟩ := hrow i hi
      have q := hw' i hi
      simp only [wrdB, Bool.and_eq_true, decide_eq_true_eq] at q
      rw [q.2] at ga
      have ew : wi W i = (W.getD i none).getD [] := rfl
      rw [ew] at ga q hl
      cases hx : W.getD i none with
      | none =>
        rw [hx] at e ga q
        simp only [Option.getD_none, strs, List.map_nil] at ga
        simp (config := { maxSteps := 1000000 }) (disch := omega) only [go_sem, ↓reduceIte, Nat.reduceEqDiff, Nat.reduceAdd, Int.reduceToNat, reduceCtorEq, Nat.reduceLeDiff, Nat.reduceSub, Nat.reduceDiv, Nat.reduceMod, Nat.reduceMul, d1214_b1, e, wc, ga]
      | some l =>
        rw [hx] at e ga q hl
        simp only [Option.getD_some] at ga q hl
        obtain ⟨q1, q2⟩ := q
        simp (config := { maxSteps := 1000000 }) (disch := omega) only [go_sem, ↓reduceIte, Nat.reduceEqDiff, Nat.reduceAdd, Int.reduceToNat, reduceCtorEq, Nat.reduceLeDiff, Nat.reduceSub, Nat.reduceDiv, Nat.reduceMod, Nat.reduceMul, d1214_b1, e, wc, strs_length, ga]
    · simp (config := { maxSteps := 1000000 }) (disch := omega) only [go_sem, ↓reduceIte, Nat.reduceEqDiff, Nat.reduceAdd, Int.reduceToNat, reduceCtorEq, Nat.reduceLeDiff, Nat.reduceSub, Nat.reduceDiv, Nat.reduceMod, Nat.reduceMul, d1214_b1]
  · have eb : ((List.range W.length).all fun i => wrdB (wi W i)) = false := by
      rw [List.all_eq_false]
      exact ⟨m, by simpa using m1, m3⟩
    rw [eb]
    refine Ev_loop0 (fun i => ⟨[(50, .sl 1 (wcs W)), (51, .int .i64 n), (52, .int .i64 (i : Int))], [.row false [.int .i64 n, .sl 1 [], .sl 1 (wcs W)]], 0, [(1, 1, [50, 51, 52], []), (0, 1, [1, 30, 31, 32], [(1, 0)])]⟩) m (by simp [c4]) (fun i hi => ?_) ?_
    · obtain ⟨e, ga, hl⟩ := hrow i (by omega)
      have q := m2 i hi
      simp only [wrdB, Bool.and_eq_true, decide_eq_true_eq] at q
      rw [q.2] at ga
      have ew : wi W i = (W.getD i none).getD [] := rfl
      rw [ew] at ga q hl
      cases hx : W.getD i none with
      | none =>
        rw [hx] at e ga q
        simp only [Option.getD_none, strs, List.map_nil] at ga
        simp (config := { maxSteps := 1000000 }) (disch := omega) only [go_sem, ↓reduceIte, Nat.reduceEqDiff, Nat.reduceAdd, Int.reduceToNat, reduceCtorEq, Nat.reduceLeDiff, Nat.reduceSub, Nat.reduceDiv, Nat.reduceMod, Nat.reduceMul, d1214_b1, e, wc, ga]
      | some l =>
        rw [hx] at e ga q hl
        simp only [Option.getD_some] at ga q hl
        obtain ⟨q1, q2⟩ := q
        simp (config := { maxSteps := 1000000 }) (disch := omega) only [go_sem, ↓reduceIte, Nat.reduceEqDiff, Nat.reduceAdd, Int.reduceToNat, reduceCtorEq, Nat.reduceLeDiff, Nat.reduceSub, Nat.reduceDiv, Nat.reduceMod, Nat.reduceMul, d1214_b1, e, wc, strs_length, ga]
    · obtain ⟨e, ga, hl⟩ := hrow m m1
      have ew : wi W m = (W.getD m none).getD [] := rfl
      rw [ew] at ga m3 hl
      cases hx : W.getD m none with
      | none => rw [hx] at m3; exact absurd rfl m3
      | some l =>
        rw [hx] at e ga m3 hl
        simp only [Option.getD_some] at ga m3 hl
        by_cases h8 : l.length ≤ 8
        · have ha : l.all wordB = false := by
            cases h : l.all wordB with
            | false => rfl
            | true => exact absurd (by simp [wrdB, h, h8]) m3
          rw [ha] at ga
          simp (config := { maxSteps := 1000000 }) (disch := omega) only [go_sem, ↓reduceIte, Nat.reduceEqDiff, Nat.reduceAdd, Int.reduceToNat, reduceCtorEq, Nat.reduceLeDiff, Nat.reduceSub, Nat.reduceDiv, Nat.reduceMod, Nat.reduceMul, d1214_b1, e, wc, strs_length, ga]
        · simp (config := { maxSteps := 1000000 }) (disch := omega) only [go_sem, ↓reduceIte, Nat.reduceEqDiff, Nat.reduceAdd, Int.reduceToNat, reduceCtorEq, Nat.reduceLeDiff, Nat.reduceSub, Nat.reduceDiv, Nat.reduceMod, Nat.reduceMul, d1214_b1, e, wc, strs_length]
theorem onceE_nil : runP tab 1278 [.sl 1 [], .agg [.clo 1223 [] []]] [] = some (.vec 2 [], []) := by
  refine runP_fn t1278 rfl ?_
  have g1 : runP tab 1283 [.sl 1 []] [] = some (.vec 2 [], []) := by rw [runP_orc t1283]; rfl
  have g2 := sfE_run (l := []) (by simp)
  have s0 : sorted ltE [] = [] := List.eq_nil_of_length_eq_zero (by rw [sorted_len]; rfl)
  rw [s0] at g2
  simp only [prs, List.flatMap_nil] at g2
  simp (config := { maxSteps := 1000000 }) (disch := omega) only [go_sem, ↓reduceIte, Nat.reduceEqDiff, Nat.reduceAdd, Int.reduceToNat, reduceCtorEq, Nat.reduceLeDiff, Nat.reduceSub, Nat.reduceDiv, Nat.reduceMod, Nat.reduceMul, d1278, g1, g2]
  refine Ev_loop0 (fun i => ⟨[(5, .own 2 1), (6, .own 2 2), (15, .own 2 1), (16, .int .i64 0), (17, .int .i64 (i : Int))], [.row false [.clo 1223 [] []], .row false [], .row false []], 0, [(0, 3, [5, 6, 15, 16, 17], [(5, 1), (6, 2), (15, 1)])]⟩) 0 (by simp) (fun i hi => absurd hi (Nat.not_lt_zero _)) ?_
  simp (config := { maxSteps := 1000000 }) (disch := omega) only [go_sem, ↓reduceIte, Nat.reduceEqDiff, Nat.reduceAdd, Int.reduceToNat, reduceCtorEq, Nat.reduceLeDiff, Nat.reduceSub, Nat.reduceDiv, Nat.reduceMod, Nat.reduceMul, d1278_b0]
theorem norm_nil {n : Int} {W : Wds} (hg : okG ⟨n, [], W⟩) : runP tab 1265 [.agg [.int .i64 n, .sl 1 [], .sl 1 (wcs W)]] [] = some (nrmA ⟨n, [], W⟩, []) := by
  refine runP_fn t1265 rfl ?_
  have gc := gck_nil hg
  have hw := hg.w
  have b1 := byends_mk
  have b2 := bytext_mk
  unfold nrmA
  cases c1 : okB ⟨n, [], W⟩ with
  | false =>
    rw [c1] at gc
    rw [if_neg (by simp)]
    have gz : gV 0 [] [] = [.int .i64 0, .vec 2 [], .vec 1 []] := rfl
    simp (config := { maxSteps := 1000000 }) (disch := omega) only [go_sem, ↓reduceIte, Nat.reduceEqDiff, Nat.reduceAdd, Int.reduceToNat, reduceCtorEq, Nat.reduceLeDiff, Nat.reduceSub, Nat.reduceDiv, Nat.reduceMod, Nat.reduceMul, d1265, gc, gz]
  | true =>
    rw [c1] at gc
    rw [if_pos rfl]
    obtain ⟨h1, h2, h3, h4⟩ := okB_n c1
    simp only at h1 h2 h4
    have go := onceE_nil
    have e0 : nrmL ltE [] = [] := nrm_of_asc ordrE .nil
    have q : n.toNat = W.length := by omega
    simp (config := { maxSteps := 1000000 }) (disch := omega) only [go_sem, ↓reduceIte, Nat.reduceEqDiff, Nat.reduceAdd, Int.reduceToNat, reduceCtorEq, Nat.reduceLeDiff, Nat.reduceSub, Nat.reduceDiv, Nat.reduceMod, Nat.reduceMul, d1265, gc, q, tile_nils, wos_nls]
    refine Ev_loop0 (fun i => ⟨[(1, .ref 0 0), (2, .ref 1 0), (4, .own 1 2), (15, .sl 1 (wcs W)), (16, .int .i64 W.length), (17, .int .i64 (i : Int))], [.row false [.int .i64 n, .sl 1 [], .sl 1 (wcs W)], .row false [.int .i64 0, .nils, .nils], .row false (wos (doneW ⟨n, [], W⟩ i))], 0, [(0, 3, [1, 2, 4, 15, 16, 17], [(1, 0), (2, 1), (4, 2)])]⟩) W.length (by simp [doneW_zero]) (fun i hi => ?_) ?_
    · have e := wcs_at hi
      have dl := doneW_len ⟨n, [], W⟩ i
      have ds := doneW_succ (g := ⟨n, [], W⟩) hi
      have gs := onceS_run (l := wi W i) (by have := hg.r i hi; have e : wi W i = Gr.w ⟨n, [], W⟩ i := rfl; rw [e]; omega)
      have ew : Gr.w ⟨n, [], W⟩ i = (W.getD i none).getD [] := rfl
      have ew' : wi W i = (W.getD i none).getD [] := rfl
      rw [ew] at ds
      rw [ew'] at gs
      simp only at dl
      cases hx : W.getD i none with
      | none =>
        rw [hx] at e gs ds
        simp only [Option.getD_none, strs, List.map_nil] at gs ds
        generalize nrmL ltS [] = z at *
        rw [show z.map AV.str = strs z from rfl] at gs
        simp (config := { maxSteps := 1000000 }) (disch := omega) only [go_sem, ↓reduceIte, Nat.reduceEqDiff, Nat.reduceAdd, Int.reduceToNat, reduceCtorEq, Nat.reduceLeDiff, Nat.reduceSub, Nat.reduceDiv, Nat.reduceMod, Nat.reduceMul, d1265_b0, e, wc, b2, gs, dl, wos_set, ds]
      | some l =>
        rw [hx] at e gs ds
        simp only [Option.getD_some] at gs ds
        generalize nrmL ltS l = z at *
        simp (config := { maxSteps := 1000000 }) (disch := omega) only [go_sem, ↓reduceIte, Nat.reduceEqDiff, Nat.reduceAdd, Int.reduceToNat, reduceCtorEq, Nat.reduceLeDiff, Nat.reduceSub, Nat.reduceDiv, Nat.reduceMod, Nat.reduceMul, d1265_b0, e, wc, b2, gs, dl, wos_set, ds]
    · have ed := doneW_all ⟨n, [], W⟩
      simp only at ed
      rw [ed]
      generalize (nrmW ⟨n, [], W⟩).map some = W' at *
      simp (config := { maxSteps := 1000000 }) (disch := omega) only [go_sem, ↓reduceIte, Nat.reduceEqDiff, Nat.reduceAdd, Int.reduceToNat, reduceCtorEq, Nat.reduceLeDiff, Nat.reduceSub, Nat.reduceDiv, Nat.reduceMod, Nat.reduceMul, d1265_b0, b1, go, gV, e0, prs, List.flatMap_nil]
def gr1 : Gr := ⟨2, [(1, 0), (0, 1), (1, 0)], [none, some [[98], [97], [98]]]⟩
def gr2 : Gr := ⟨2, [(0, 1), (1, 0)], [none, some [[97], [98]]]⟩
def gr3 : Gr := ⟨2, [(0, 2)], [none, none]⟩
def gr4 : Gr := ⟨2, [], [none]⟩
def gr1n : Gr := ⟨2, [(0, 1), (1, 0)], [some [], some [[97], [98]]]⟩
theorem gr1_ok : okG gr1 := ⟨⟨by decide, by decide⟩, by decide, by decide, by decide, by decide⟩
theorem gr2_ok : okG gr2 := ⟨⟨by decide, by decide⟩, by decide, by decide, by decide, by decide⟩
theorem gr3_ok : okG gr3 := ⟨⟨by decide, by decide⟩, by decide, by decide, by decide, by decide⟩
theorem gr4_ok : okG gr4 := ⟨⟨by decide, by decide⟩, by decide, by decide, by decide, by decide⟩
theorem gr1n_ok : okG gr1n := ⟨⟨by decide, by decide⟩, by decide, by decide, by decide, by decide⟩
theorem gr2_asc : asc ltE gr2.E := by unfold asc; decide
theorem gr1_E : nrmL ltE gr1.E = gr2.E := asc_ext ordrE (nrm_asc ordrE _) gr2_asc fun x => by rw [nrm_mem ordrE]; simp only [gr1, gr2, List.mem_cons, List.not_mem_nil, or_false]; exact ⟨fun h => by rcases h with h | h | h <;> simp [h], fun h => by rcases h with h | h <;> simp [h]⟩
theorem gr2_E : nrmL ltE gr2.E = gr2.E := nrm_of_asc ordrE gr2_asc
theorem gr_W0 : nrmL ltS ([] : List Txt) = [] := nrm_of_asc ordrS .nil
theorem gr_Wa : asc ltS [[97], [98]] := by unfold asc; decide
theorem gr_W1 : nrmL ltS [[98], [97], [98]] = [[97], [98]] := asc_ext ordrS (nrm_asc ordrS _) gr_Wa fun x => by rw [nrm_mem ordrS]; simp only [List.mem_cons, List.not_mem_nil, or_false]; exact ⟨fun h => by rcases h with h | h | h <;> simp [h], fun h => by rcases h with h | h <;> simp [h]⟩
theorem gr1_nrm : nrmA gr1 = .tup [.agg (gV 2 gr1n.E gr1n.W), .int .i64 0] := by
  rw [nrmA, if_pos (by decide), gr1_E]
  have : nrmW gr1 = [nrmL ltS [], nrmL ltS [[98], [97], [98]]] := rfl
  rw [this, gr_W0, gr_W1]; rfl
theorem gr2_isB : isB gr2 = true := by
  unfold isB
  rw [show okB gr2 = true by decide, show ascB ltE gr2.E = true from ascB_iff.2 gr2_asc, wAsc_yes fun i hi => by
    have hi : i < 2 := hi
    rcases (show i = 0 ∨ i = 1 by omega) with rfl | rfl
    · exact .nil
    · exact gr_Wa]
  rfl
theorem gr2_deg : degA gr2 1 = .tup [.int .i64 1, .int .i64 1, .bool true] := by
  rw [degA, if_pos (by decide), gr2_E]; rfl
theorem graphs_run : runP tab 1271 [] [] = some (.bool true, []) := by
  refine runP_fn t1271 rfl ?_
  have n1 := norm_run gr1_ok
  have n3 := norm_run gr3_ok
  have n4 := norm_nil (n := gr4.n) (W := gr4.W) gr4_ok
  rw [show (⟨gr4.n, [], gr4.W⟩ : Gr) = gr4 from rfl] at n4
  have d2 := deg_run gr2_ok (v := 1)
  have s2 := sameG_run gr1n_ok gr2_ok
  have i2 := isg_run gr2_ok
  have w1 := word_run (s := [97, 98]) (by decide)
  have w2 := word_run (s := [65]) (by decide)
  rw [show wordB [97, 98] = true by decide] at w1
  rw [show wordB [65] = false by decide] at w2
  rw [gr1_nrm] at n1
  rw [nrmA, if_neg (by decide)] at n3 n4
  rw [gr2_deg] at d2
  rw [show sameB gr1n gr2 = true by decide] at s2
  rw [gr2_isB] at i2
  simp only [gS, gV, gr1, gr2, gr3, gr4, gr1n, prs, wcs, wos, wc, wo, strs, List.flatMap_cons, List.flatMap_nil, List.map_cons, List.map_nil, List.cons_append, List.nil_append] at n1 n3 n4 d2 s2 i2
  simp (config := { maxSteps := 1000000 }) (disch := omega) only [go_sem, ↓reduceIte, Nat.reduceEqDiff, Nat.reduceAdd, Int.reduceToNat, reduceCtorEq, Nat.reduceLeDiff, Nat.reduceSub, Nat.reduceDiv, Nat.reduceMod, Nat.reduceMul, d1271, n1, n3, n4, d2, s2, i2, w1, w2]
end Go.Proofs.Ytmeakgiojhoofaa
