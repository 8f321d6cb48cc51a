/- Graphs: the normal one; the one that is turned. -/
import Derived.Test.YtmeakgiojhoofaaGb
namespace Go.Proofs.Ytmeakgiojhoofaa
set_option linter.unusedSimpArgs false
set_option linter.unusedVariables false
set_option maxHeartbeats 4000000
set_option maxRecDepth 100000
def nrmW (g : Gr) : List (List Txt) := (List.range g.W.length).map fun i => nrmL ltS (g.w i)
def doneW (g : Gr) (i : Nat) : Wds := (List.range g.W.length).map fun j => if j < i then some (nrmL ltS (g.w j)) else none
theorem doneW_zero (g : Gr) : doneW g 0 = List.replicate g.W.length none := by
  refine List.ext_getElem (by simp [doneW]) fun i h1 h2 => by simp [doneW]
theorem doneW_all (g : Gr) : doneW g g.W.length = (nrmW g).map some := by
  refine List.ext_getElem (by simp [doneW, nrmW]) fun i h1 h2 => ?_
  simp only [doneW, nrmW, List.getElem_map, List.getElem_range]
  rw [if_pos (by simpa [doneW] using h1)]
theorem doneW_succ {g : Gr} {i : Nat} (h : i < g.W.length) : (doneW g i).set i (some (nrmL ltS (g.w i))) = doneW g (i + 1) := by
  refine List.ext_getElem (by simp [doneW]) fun j h1 h2 => ?_
  rw [List.getElem_set]
  simp only [doneW, List.getElem_map, List.getElem_range]
  by_cases e : i = j
  · subst e; rw [if_pos rfl, if_pos (by omega)]
  · rw [if_neg e]
    by_cases h3 : j < i
    · rw [if_pos h3, if_pos (by omega)]
    · rw [if_neg h3, if_neg (by omega)]
theorem doneW_len (g : Gr) (i : Nat) : (doneW g i).length = g.W.length := by simp [doneW]
def gV (n : Int) (E : List Ed) (W : Wds) : List AV := [.int .i64 n, .vec 2 (prs E), .vec 1 (wos W)]
def nrmA (g : Gr) : AV := if okB g = true then .tup [.agg (gV g.n (nrmL ltE g.E) ((nrmW g).map some)), .int .i64 0] else .tup [.agg (gV 0 [] []), .int .i64 20]
theorem okB_n {g : Gr} (h : okB g = true) : 1 ≤ g.n ∧ g.n ≤ 200 ∧ g.E.length ≤ 2000 ∧ (g.W.length : Int) = g.n := by
  simp only [okB, Bool.and_eq_true, decide_eq_true_eq] at h
  obtain ⟨⟨⟨h1, h2⟩, h3, h4⟩, _⟩ := h
  exact ⟨h1, h2, h3, h4⟩
theorem norm_run {g : Gr} (hg : okG g) : runP tab 1265 [.agg (gS g)] [] = some (nrmA g, []) := by
  refine runP_fn t1265 rfl ?_
  have gc := gck_run hg
  have he := hg.e
  have hw := hg.w
  have b1 := byends_mk
  have b2 := bytext_mk
  simp only [gS] at gc
  unfold nrmA
  cases c1 : okB g with
  | false =>
    rw [c1] at gc
    rw [if_neg (by simp)]
    have gz : gV 0 [] [] = [.int .i64 0, .vec 2 [], .vec 1 []] := rfl
    simp (config := { maxSteps := 1000000 }) (disch := omega) only [go_sem, ↓reduceIte, Nat.reduceEqDiff, Nat.reduceAdd, Int.reduceToNat, reduceCtorEq, Nat.reduceLeDiff, Nat.reduceSub, Nat.reduceDiv, Nat.reduceMod, Nat.reduceMul, d1265, gS, gc, gz]
  | true =>
    rw [c1] at gc
    rw [if_pos rfl]
    obtain ⟨h1, h2, h3, h4⟩ := okB_n c1
    have go := onceE_run (l := g.E) (by omega)
    have q : g.n.toNat = g.W.length := by omega
    simp (config := { maxSteps := 1000000 }) (disch := omega) only [go_sem, ↓reduceIte, Nat.reduceEqDiff, Nat.reduceAdd, Int.reduceToNat, reduceCtorEq, Nat.reduceLeDiff, Nat.reduceSub, Nat.reduceDiv, Nat.reduceMod, Nat.reduceMul, d1265, gS, gc, q, tile_nils, wos_nls]
    refine Ev_loop0 (fun i => ⟨[(1, .ref 0 0), (2, .ref 1 0), (4, .own 1 2), (15, .sl 1 (wcs g.W)), (16, .int .i64 g.W.length), (17, .int .i64 (i : Int))], [.row false [.int .i64 g.n, .sl 2 (prs g.E), .sl 1 (wcs g.W)], .row false [.int .i64 0, .nils, .nils], .row false (wos (doneW g i))], 0, [(0, 3, [1, 2, 4, 15, 16, 17], [(1, 0), (2, 1), (4, 2)])]⟩) g.W.length (by simp [doneW_zero]) (fun i hi => ?_) ?_
    · have e := wcs_at hi
      have dl := doneW_len g i
      have ds := doneW_succ hi
      have gs := onceS_run (l := g.w i) (by have := hg.r i hi; omega)
      have ew : g.w i = (g.W.getD i none).getD [] := rfl
      rw [ew] at gs ds
      cases hx : g.W.getD i none with
      | none =>
        rw [hx] at e gs ds
        simp only [Option.getD_none, strs, List.map_nil] at gs ds
        generalize nrmL ltS [] = z at *
        rw [show z.map AV.str = strs z from rfl] at gs
        simp (config := { maxSteps := 1000000 }) (disch := omega) only [go_sem, ↓reduceIte, Nat.reduceEqDiff, Nat.reduceAdd, Int.reduceToNat, reduceCtorEq, Nat.reduceLeDiff, Nat.reduceSub, Nat.reduceDiv, Nat.reduceMod, Nat.reduceMul, d1265_b0, e, wc, b2, gs, dl, wos_set, ds]
      | some l =>
        rw [hx] at e gs ds
        simp only [Option.getD_some] at gs ds
        generalize nrmL ltS l = z at *
        simp (config := { maxSteps := 1000000 }) (disch := omega) only [go_sem, ↓reduceIte, Nat.reduceEqDiff, Nat.reduceAdd, Int.reduceToNat, reduceCtorEq, Nat.reduceLeDiff, Nat.reduceSub, Nat.reduceDiv, Nat.reduceMod, Nat.reduceMul, d1265_b0, e, wc, b2, gs, dl, wos_set, ds]
    · have ed := doneW_all g
      rw [ed]
      generalize (nrmW g).map some = W at *
      generalize nrmL ltE g.E = E at *
      simp (config := { maxSteps := 1000000 }) (disch := omega) only [go_sem, ↓reduceIte, Nat.reduceEqDiff, Nat.reduceAdd, Int.reduceToNat, reduceCtorEq, Nat.reduceLeDiff, Nat.reduceSub, Nat.reduceDiv, Nat.reduceMod, Nat.reduceMul, d1265_b0, b1, go, gV]
theorem nrmA_cases (g : Gr) : ∃ n E W e, nrmA g = .tup [.agg (gV n E W), .int .i64 e] := by
  unfold nrmA
  by_cases c : okB g = true
  · rw [if_pos c]; exact ⟨_, _, _, _, rfl⟩
  · rw [if_neg c]; exact ⟨_, _, _, _, rfl⟩
def turnE (E : List Ed) : List Ed := E.map fun e => (e.2, e.1)
def turnG (g : Gr) : Gr := ⟨g.n, turnE g.E, g.W⟩
theorem turnE_len (E : List Ed) : (turnE E).length = E.length := by simp [turnE]
def turnP (E : List Ed) (i : Nat) : List Ed := turnE (E.take i) ++ List.replicate (E.length - i) (0, 0)
theorem turnP_len {E : List Ed} {i : Nat} (h : i ≤ E.length) : (turnP E i).length = E.length := by simp [turnP, turnE]; omega
theorem turnP_succ {E : List Ed} {i : Nat} (h : i < E.length) : (turnP E i).set i ((E.getD i default).2, (E.getD i default).1) = turnP E (i + 1) := by
  unfold turnP
  have hl : (turnE (E.take i)).length = i := by rw [turnE_len, List.length_take]; omega
  rw [List.set_append_right _ _ (by omega), hl, Nat.sub_self, show E.length - i = (E.length - (i + 1)) + 1 by omega, List.replicate_succ, List.set_cons_zero, take_snoc default h]
  simp [turnE]
theorem turnP_all (E : List Ed) : turnP E E.length = turnE E := by simp [turnP]
theorem turnP_zero (E : List Ed) : tile E.length [AV.int .i64 0, .int .i64 0] = prs (turnP E 0) := by
  have : ∀ n, tile n [AV.int .i64 0, .int .i64 0] = prs (List.replicate n (0, 0)) := fun n => by
    induction n with
    | zero => rfl
    | succ n ih => rw [tile, ih, List.replicate_succ, prs_cons]; rfl
  rw [this]; simp [turnP, turnE]
theorem turnG_ok {g : Gr} (h : okG g) : okG (turnG g) := ⟨h.n, by rw [turnG, turnE_len]; exact h.e, h.w, h.r, h.t⟩
theorem turned_run {g : Gr} (hg : okG g) : runP tab 1272 [.agg (gS g)] [] = some (nrmA (turnG g), []) := by
  refine runP_fn t1272 rfl ?_
  have he := hg.e
  have hw := hg.w
  have gn := norm_run (turnG_ok hg)
  obtain ⟨n', E', W', e', hA⟩ := nrmA_cases (turnG g)
  rw [hA] at gn ⊢
  clear hA
  simp only [gS, turnG, gV] at gn
  have tz := turnP_zero g.E
  simp (config := { maxSteps := 1000000 }) (disch := omega) only [go_sem, ↓reduceIte, Nat.reduceEqDiff, Nat.reduceAdd, Int.reduceToNat, reduceCtorEq, Nat.reduceLeDiff, Nat.reduceSub, Nat.reduceDiv, Nat.reduceMod, Nat.reduceMul, d1272, gS, tz]
  refine Ev_loop0 (fun i => ⟨[(1, .ref 0 0), (2, .ref 1 0), (4, .own 2 2), (12, .sl 2 (prs g.E)), (13, .int .i64 g.E.length), (14, .int .i64 (i : Int))], [.row false [.int .i64 g.n, .sl 2 (prs g.E), .sl 1 (wcs g.W)], .row false [.int .i64 0, .nils, .nils], .row false (prs (turnP g.E i))], 0, [(0, 3, [1, 2, 4, 12, 13, 14], [(1, 0), (2, 1), (4, 2)])]⟩) g.E.length (by simp) (fun i hi => ?_) ?_
  · have e := prs_at hi
    have tl := turnP_len (E := g.E) (i := i) (by omega)
    have ts := turnP_succ hi
    have p2 := prs_set2 ((g.E.getD i default).2, (g.E.getD i default).1) (turnP g.E i) i
    rw [ts] at p2
    generalize g.E.getD i default = x at *
    simp only at p2
    simp (config := { maxSteps := 1000000 }) (disch := omega) only [go_sem, ↓reduceIte, Nat.reduceEqDiff, Nat.reduceAdd, Int.reduceToNat, reduceCtorEq, Nat.reduceLeDiff, Nat.reduceSub, Nat.reduceDiv, Nat.reduceMod, Nat.reduceMul, d1272_b0, e, tl, p2]
  · rw [turnP_all]
    simp (config := { maxSteps := 1000000 }) (disch := omega) only [go_sem, ↓reduceIte, Nat.reduceEqDiff, Nat.reduceAdd, Int.reduceToNat, reduceCtorEq, Nat.reduceLeDiff, Nat.reduceSub, Nat.reduceDiv, Nat.reduceMod, Nat.reduceMul, d1272_b0, gn, gV]
end Go.Proofs.Ytmeakgiojhoofaa
