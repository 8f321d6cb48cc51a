/- Layer 7: LevelSteps. -/
import Derived.Test.YtgjahkebhlphgaaVm
import Derived.Test.YtgjahkebhlphgaaIc
import Derived.Test.YtgjahkebhlphgaaKh
namespace Go.Proofs.Ytgjahkebhlphgaa
set_option linter.unusedSimpArgs false
set_option linter.unusedVariables false
set_option maxHeartbeats 4000000
set_option maxRecDepth 100000
theorem straight_big {off to : List Int} (h1 : off.length ≤ 9223372036854775807) (h2 : to.length ≤ 9223372036854775807) (h : 201 < off.length ∨ 2000 < to.length) : runP tab 1199 [.sl 1 (ints off), .sl 1 (ints to)] [] = some (.bool false, []) := by
  refine runP_fn t1199 rfl ?_
  by_cases q1 : off.length < 2
  · simp (config := { maxSteps := 1000000 }) (disch := omega) only [go_sem, ↓reduceIte, Nat.reduceEqDiff, Nat.reduceAdd, Int.reduceToNat, reduceCtorEq, Nat.reduceLeDiff, Nat.reduceSub, Nat.reduceDiv, Nat.reduceMod, Nat.reduceMul, d1199]
  · by_cases q2 : 201 < off.length
    · simp (config := { maxSteps := 1000000 }) (disch := omega) only [go_sem, ↓reduceIte, Nat.reduceEqDiff, Nat.reduceAdd, Int.reduceToNat, reduceCtorEq, Nat.reduceLeDiff, Nat.reduceSub, Nat.reduceDiv, Nat.reduceMod, Nat.reduceMul, d1199]
    · simp (config := { maxSteps := 1000000 }) (disch := omega) only [go_sem, ↓reduceIte, Nat.reduceEqDiff, Nat.reduceAdd, Int.reduceToNat, reduceCtorEq, Nat.reduceLeDiff, Nat.reduceSub, Nat.reduceDiv, Nat.reduceMod, Nat.reduceMul, d1199]
theorem check_no {r : Rw} (hf : rwFit r) (h : ¬ okR r) : runP tab 1188 [.agg (rwS r)] [] = some (.bool false, []) := by
  obtain ⟨f1, f2, f3, f4⟩ := hf
  refine runP_fn t1188 rfl ?_
  by_cases hl : r.off.length = r.roff.length
  · by_cases q : 201 < r.off.length ∨ 2000 < r.to.length
    · have g := straight_big f1 f2 q
      simp (config := { maxSteps := 1000000 }) (disch := omega) only [go_sem, ↓reduceIte, Nat.reduceEqDiff, Nat.reduceAdd, Int.reduceToNat, reduceCtorEq, Nat.reduceLeDiff, Nat.reduceSub, Nat.reduceDiv, Nat.reduceMod, Nat.reduceMul, d1188, rwS, g]
    · have g1 := straight_run (off := r.off) (to := r.to) (by omega) (by omega)
      have q2 : 201 < r.roff.length ∨ 2000 < r.rev.length := by
        rcases Nat.lt_or_ge 2000 r.rev.length with h2 | h2
        · exact .inr h2
        · exact absurd ⟨by omega, by omega, by omega, by omega⟩ h
      have g2 := straight_big f3 f4 q2
      cases hh : halfB r.off r.to with
      | false =>
        rw [hh] at g1
        simp (config := { maxSteps := 1000000 }) (disch := omega) only [go_sem, ↓reduceIte, Nat.reduceEqDiff, Nat.reduceAdd, Int.reduceToNat, reduceCtorEq, Nat.reduceLeDiff, Nat.reduceSub, Nat.reduceDiv, Nat.reduceMod, Nat.reduceMul, d1188, rwS, g1, g2]
      | true =>
        rw [hh] at g1
        simp (config := { maxSteps := 1000000 }) (disch := omega) only [go_sem, ↓reduceIte, Nat.reduceEqDiff, Nat.reduceAdd, Int.reduceToNat, reduceCtorEq, Nat.reduceLeDiff, Nat.reduceSub, Nat.reduceDiv, Nat.reduceMod, Nat.reduceMul, d1188, rwS, g1, g2]
  · simp (config := { maxSteps := 1000000 }) (disch := omega) only [go_sem, ↓reduceIte, Nat.reduceEqDiff, Nat.reduceAdd, Int.reduceToNat, reduceCtorEq, Nat.reduceLeDiff, Nat.reduceSub, Nat.reduceDiv, Nat.reduceMod, Nat.reduceMul, d1188, rwS]
theorem levels_no {r : Rw} {s : Int} {b : Bool} (hf : rwFit r) (h : ¬ okR r) : runP tab 1335 [.agg (rwS r), .int .i64 s, .bool b] [] = some (.tup [.vec 1 [], .int .i64 40], []) := by
  have g := check_no hf h
  have g1 : runP tab 1355 [.agg (rwS r), .sl 1 [.int .i64 s]] [] = some (.int .i64 40, []) := by
    refine runP_fn t1355 rfl ?_
    simp only [rwS] at g
    simp (config := { maxSteps := 1000000 }) (disch := omega) only [go_sem, ↓reduceIte, Nat.reduceEqDiff, Nat.reduceAdd, Int.reduceToNat, reduceCtorEq, Nat.reduceLeDiff, Nat.reduceSub, Nat.reduceDiv, Nat.reduceMod, Nat.reduceMul, d1355, rwS, g]
  have g2 : runP tab 1353 [.agg (rwS r), .int .i64 s, .int .i64 200, .bool b] [] = some (.tup [.vec 1 [], .int .i64 40], []) := by
    refine runP_fn t1353 rfl ?_
    simp only [rwS] at g1
    simp (config := { maxSteps := 1000000 }) (disch := omega) only [go_sem, ↓reduceIte, Nat.reduceEqDiff, Nat.reduceAdd, Int.reduceToNat, reduceCtorEq, Nat.reduceLeDiff, Nat.reduceSub, Nat.reduceDiv, Nat.reduceMod, Nat.reduceMul, d1353, rwS, g1]
  refine runP_fn t1335 rfl ?_
  simp only [rwS] at g2
  simp (config := { maxSteps := 1000000 }) (disch := omega) only [go_sem, ↓reduceIte, Nat.reduceEqDiff, Nat.reduceAdd, Int.reduceToNat, reduceCtorEq, Nat.reduceLeDiff, Nat.reduceSub, Nat.reduceDiv, Nat.reduceMod, Nat.reduceMul, d1335, rwS, g2]
theorem edges_no {r : Rw} (hf : rwFit r) (h : ¬ okR r) : runP tab 1191 [.agg (rwS r)] [] = some (.tup [.vec 2 [], .int .i64 40], []) := by
  have g := check_no hf h
  refine runP_fn t1191 rfl ?_
  simp only [rwS] at g
  simp (config := { maxSteps := 1000000 }) (disch := omega) only [go_sem, ↓reduceIte, Nat.reduceEqDiff, Nat.reduceAdd, Int.reduceToNat, reduceCtorEq, Nat.reduceLeDiff, Nat.reduceSub, Nat.reduceDiv, Nat.reduceMod, Nat.reduceMul, d1191, rwS, g]
noncomputable def blw (nb : Int → List Int) (s : Int) (n : Nat) (E : List Ed) (k : Nat) : List Bool := (List.range n).map fun v : Nat => decide (∃ e ∈ E.take k, e.2 = v ∧ 0 ≤ lev nb s e.1 ∧ lev nb s v = lev nb s e.1 + 1)
theorem blw_len (nb : Int → List Int) (s : Int) (n : Nat) (E : List Ed) (k : Nat) : (blw nb s n E k).length = n := by simp [blw]
theorem blw_at {nb : Int → List Int} {s : Int} {n : Nat} {E : List Ed} {k v : Nat} (h : v < n) : (blw nb s n E k).getD v false = decide (∃ e ∈ E.take k, e.2 = v ∧ 0 ≤ lev nb s e.1 ∧ lev nb s v = lev nb s e.1 + 1) := by
  simp [blw, List.getD_eq_getElem?_getD, h]
theorem blw_zero (nb : Int → List Int) (s : Int) (n : Nat) (E : List Ed) : blw nb s n E 0 = List.replicate n false := by
  refine List.ext_getElem (by simp [blw]) fun i h1 h2 => by simp [blw]
theorem blw_ext {a b : List Bool} (hl : a.length = b.length) (h : ∀ i, i < a.length → a.getD i false = b.getD i false) : a = b := by
  refine List.ext_getElem hl fun i h1 h2 => ?_
  have := h i h1
  rw [List.getD_eq_getElem?_getD, List.getD_eq_getElem?_getD, List.getElem?_eq_getElem h1, List.getElem?_eq_getElem h2] at this
  exact this
theorem blw_yes {nb : Int → List Int} {s : Int} {n : Nat} {E : List Ed} {k : Nat} {u w : Nat} (hk : k < E.length) (he : E.getD k default = ((u : Int), (w : Int))) (hw : w < n) (h : 0 ≤ lev nb s u ∧ lev nb s w = lev nb s u + 1) : (blw nb s n E k).set w true = blw nb s n E (k + 1) := by
  refine blw_ext (by simp [blw]) fun i hi => ?_
  have hi : i < n := by simpa [blw] using hi
  rw [blw_at hi, take_snoc default hk, he]
  by_cases e : i = w
  · subst e
    rw [show ((blw nb s n E k).set i true).getD i false = true by simp [List.getD_eq_getElem?_getD, List.getElem?_set, blw_len, hw]]
    symm
    rw [decide_eq_true_eq]
    exact ⟨((u : Int), (i : Int)), List.mem_append_right _ (by simp), rfl, h.1, h.2⟩
  · rw [show ((blw nb s n E k).set w true).getD i false = (blw nb s n E k).getD i false by simp [List.getD_eq_getElem?_getD, List.getElem?_set, Ne.symm e], blw_at hi]
    congr 1
    refine propext ⟨?_, ?_⟩
    · rintro ⟨e, h1, h2⟩; exact ⟨e, List.mem_append_left _ h1, h2⟩
    · rintro ⟨x, h1, h2⟩
      rcases List.mem_append.1 h1 with h1 | h1
      · exact ⟨x, h1, h2⟩
      · rw [List.mem_singleton] at h1
        subst h1
        exact absurd (by have := h2.1; simp only at this; omega) e
theorem blw_no {nb : Int → List Int} {s : Int} {n : Nat} {E : List Ed} {k : Nat} {u w : Nat} (hk : k < E.length) (he : E.getD k default = ((u : Int), (w : Int))) (h : ¬ (0 ≤ lev nb s u ∧ lev nb s w = lev nb s u + 1)) : blw nb s n E (k + 1) = blw nb s n E k := by
  refine blw_ext (by simp [blw]) fun i hi => ?_
  have hi : i < n := by simpa [blw] using hi
  rw [blw_at hi, blw_at hi, take_snoc default hk, he]
  congr 1
  refine propext ⟨?_, ?_⟩
  · rintro ⟨x, h1, h2⟩
    rcases List.mem_append.1 h1 with h1 | h1
    · exact ⟨x, h1, h2⟩
    · rw [List.mem_singleton] at h1
      subst h1
      obtain ⟨h3, h4, h5⟩ := h2
      simp only at h3 h4 h5
      rw [← h3] at h5
      exact absurd ⟨h4, h5⟩ h
  · rintro ⟨e, h1, h2⟩; exact ⟨e, List.mem_append_left _ h1, h2⟩
def lsE (r : Rw) (s : Nat) (L : List Int) (E : List Ed) (B : List Bool) (i : Nat) : St := ⟨[(1, .int .i64 (s : Int)), (5, .own 1 1), (7, .own 2 2), (9, .own 1 3), (10, .int .i64 (i : Int))], [.row false (rwS r), .row false (ints L), .row false (prs E), .row false (bls B)], 0, [(0, 4, [1, 5, 7, 9, 10], [(5, 1), (7, 2), (9, 3)])]⟩
theorem ls_edge {r : Rw} {s n i u w : Nat} {L : List Int} {E : List Ed} {B : List Bool} {x y : Int} (hi : i < E.length) (hE : E.length ≤ 2000) (hn : n ≤ 200) (e1 : rdc (prs (E.drop i)) none = some (.int .i64 (u : Int))) (e2 : rdc ((prs E).drop (i * 2 + 1)) none = some (.int .i64 (w : Int))) (l1 : L.length = n) (hu : u < n) (hw : w < n) (au : L.getD u 0 = x) (aw : L.getD w 0 = y) (hx : -1 ≤ x ∧ x ≤ 200) (hy : -1 ≤ y) (key : 0 ≤ x → 0 ≤ y ∧ y ≤ x + 1) (hB : B.length = n) :
    Ev tab d1317_b0 (lsE r s L E B i) (fun q st => q = .normal ∧ st = lsE r s L E (if 0 ≤ x ∧ y = x + 1 then B.set w true else B) (i + 1)) := by
  obtain ⟨hx1, hx2⟩ := hx
  by_cases q1 : 0 ≤ x
  · obtain ⟨k1, k2⟩ := key q1
    clear key
    by_cases q2 : y = x + 1
    · rw [if_pos ⟨q1, q2⟩]
      simp (config := { maxSteps := 1000000 }) (disch := omega) only [go_sem, ↓reduceIte, Nat.reduceEqDiff, Nat.reduceAdd, Int.reduceToNat, reduceCtorEq, Nat.reduceLeDiff, Nat.reduceSub, Nat.reduceDiv, Nat.reduceMod, Nat.reduceMul, d1317_b0, lsE, rwS, e1, e2, au, aw, l1]
    · rw [if_neg (fun h => q2 h.2)]
      simp (config := { maxSteps := 1000000 }) (disch := omega) only [go_sem, ↓reduceIte, Nat.reduceEqDiff, Nat.reduceAdd, Int.reduceToNat, reduceCtorEq, Nat.reduceLeDiff, Nat.reduceSub, Nat.reduceDiv, Nat.reduceMod, Nat.reduceMul, d1317_b0, lsE, rwS, e1, e2, au, aw, l1]
  · rw [if_neg (fun h => q1 h.1)]
    clear key
    simp (config := { maxSteps := 1000000 }) (disch := omega) only [go_sem, ↓reduceIte, Nat.reduceEqDiff, Nat.reduceAdd, Int.reduceToNat, reduceCtorEq, Nat.reduceLeDiff, Nat.reduceSub, Nat.reduceDiv, Nat.reduceMod, Nat.reduceMul, d1317_b0, lsE, rwS, e1, e2, au, aw, l1]
def lsP (r : Rw) (s : Nat) (L : List Int) (E : List Ed) (B : List Bool) (v : Nat) : St := ⟨[(1, .int .i64 (s : Int)), (5, .own 1 1), (9, .own 1 3), (13, .int .i64 (v : Int))], [.row false (rwS r), .row false (ints L), .row false (prs E), .row false (bls B)], 0, [(1, 4, [1, 5, 9, 13], [(5, 1), (9, 3)]), (0, 4, [1, 5, 7, 9, 10], [(5, 1), (7, 2), (9, 3)])]⟩
theorem ls_place {r : Rw} {s n v : Nat} {L : List Int} {E : List Ed} {B : List Bool} {x : Int} (hn : n ≤ 200) (hv : v < n) (l1 : L.length = n) (av : L.getD v 0 = x) (hx : -1 ≤ x) (hz : x = 0 ↔ (v : Int) = s) (hB : B.length = n) (hb : 0 < x → B.getD v false = true) :
    Ev tab d1317_b1 (lsP r s L E B v) (fun q st => q = .normal ∧ st = lsP r s L E B (v + 1)) := by
  by_cases q1 : x = 0
  · have q2 := hz.1 q1
    clear hz hb
    subst q1
    obtain rfl : v = s := by omega
    simp (config := { maxSteps := 1000000 }) (disch := omega) only [go_sem, ↓reduceIte, Nat.reduceEqDiff, Nat.reduceAdd, Int.reduceToNat, reduceCtorEq, Nat.reduceLeDiff, Nat.reduceSub, Nat.reduceDiv, Nat.reduceMod, Nat.reduceMul, d1317_b1, lsP, rwS, l1, av]
  · have q2 : ¬ (v : Int) = s := fun h => q1 (hz.2 h)
    clear hz
    by_cases q3 : 0 < x
    · have bv := hb q3
      clear hb
      simp (config := { maxSteps := 1000000 }) (disch := omega) only [go_sem, ↓reduceIte, Nat.reduceEqDiff, Nat.reduceAdd, Int.reduceToNat, reduceCtorEq, Nat.reduceLeDiff, Nat.reduceSub, Nat.reduceDiv, Nat.reduceMod, Nat.reduceMul, d1317_b1, lsP, rwS, l1, av, bv]
    · clear hb
      simp (config := { maxSteps := 1000000 }) (disch := omega) only [go_sem, ↓reduceIte, Nat.reduceEqDiff, Nat.reduceAdd, Int.reduceToNat, reduceCtorEq, Nat.reduceLeDiff, Nat.reduceSub, Nat.reduceDiv, Nat.reduceMod, Nat.reduceMul, d1317_b1, lsP, rwS, l1, av]
theorem lsteps_run {r : Rw} {s : Int} (hf : rwFit r) : runP tab 1317 [.agg (rwS r), .int .i64 s] [] = some (.bool true, []) := by
  refine runP_fn t1317 rfl ?_
  have gb := bigR_run hf
  have gt := lvls_run
  simp only [rwS] at gb
  by_cases hr : okR r
  · have g1 := levels_run (s := s) (b := false) hr
    have g2 := edges_run hr
    unfold toldE at g2
    by_cases hc : chk r = true
    · rw [if_pos hc] at g2
      have ok := chk_iff.1 hc
      have hi := ok.f.hi
      have lo := ok.f.lo
      have hpl : plc r = r.off.length - 1 := rfl
      rw [← hpl] at g2
      have hE := eds_len ok false
      obtain ⟨k1, k2⟩ := eds_ok ok false
      rw [show eds r false = edU r (plc r) from rfl] at hE k1 k2
      by_cases hs : 0 ≤ s ∧ s < plc r
      · rw [lvT_yes hc hs] at g1
        have l1 := levs_len (nbr r false) s (plc r)
        have a1 := fun i => levs_get (nb := nbr r false) (s := s) (n := plc r) (i := i)
        have H := nbr_plc ok false
        obtain ⟨s, rfl⟩ : ∃ n : Nat, s = n := ⟨s.toNat, by omega⟩
        have hlt := lev_lt ok false (s := s) (by omega)
        have hge := lev_ge (nbr r false) s
        generalize edU r (plc r) = E at *
        generalize levs (nbr r false) s (plc r) = L at *
        simp only [rwS] at g1 g2
        cases hb : bigR r with
        | true =>
          rw [hb] at gb
          simp (config := { maxSteps := 1000000 }) (disch := omega) only [go_sem, ↓reduceIte, Nat.reduceEqDiff, Nat.reduceAdd, Int.reduceToNat, reduceCtorEq, Nat.reduceLeDiff, Nat.reduceSub, Nat.reduceDiv, Nat.reduceMod, Nat.reduceMul, d1317, rwS, gb, gt, g1, g2]
        | false =>
          rw [hb] at gb
          have bz := blw_zero (nbr r false) s (plc r) E
          simp (config := { maxSteps := 1000000 }) (disch := omega) only [go_sem, ↓reduceIte, Nat.reduceEqDiff, Nat.reduceAdd, Int.reduceToNat, reduceCtorEq, Nat.reduceLeDiff, Nat.reduceSub, Nat.reduceDiv, Nat.reduceMod, Nat.reduceMul, d1317, rwS, gb, gt, g1, g2, l1]
          rw [← bz]
          refine Ev_loop0 (fun i => lsE r s L E (blw (nbr r false) s (plc r) E i) i) E.length (by simp [lsE, rwS]) (fun i hi2 => ?_) ?_
          · have e1 := prs_fst hi2
            have e2 := prs_snd hi2
            obtain ⟨c1, c2, c3⟩ := k1 _ (getD_mem (d := default) hi2)
            have c4 := H _ c2 c3 _ c1
            have hy := fun u w => blw_yes (nb := nbr r false) (s := (s : Int)) (n := plc r) (u := u) (w := w) hi2
            have hn := fun u w => blw_no (nb := nbr r false) (s := (s : Int)) (n := plc r) (u := u) (w := w) hi2
            have hbl := blw_len (nbr r false) s (plc r) E i
            generalize E.getD i default = e at *
            obtain ⟨u, w⟩ := e
            simp only at c1 c2 c3 c4 e1 e2
            obtain ⟨u, rfl⟩ : ∃ m : Nat, u = m := ⟨u.toNat, by omega⟩
            obtain ⟨w, rfl⟩ : ∃ m : Nat, w = m := ⟨w.toNat, by omega⟩
            have key : 0 ≤ lev (nbr r false) s u → 0 ≤ lev (nbr r false) s w ∧ lev (nbr r false) s w ≤ lev (nbr r false) s u + 1 := fun q => by
              rcases lev_cases (nbr r false) s u with ⟨k, hk, e⟩ | ⟨_, e⟩
              · obtain ⟨j, hj, hd⟩ := Wk_dsk (show Wk (nbr r false) s (k + 1) w from ⟨u, hk.1, c1⟩)
                rw [lev_yes hd]
                omega
              · omega
            have := ls_edge (r := r) (s := s) (B := blw (nbr r false) s (plc r) E i) hi2 hE (by omega) e1 e2 l1 (by omega) (by omega) (a1 u (by omega)) (a1 w (by omega)) ⟨hge u, hlt u⟩ (hge w) key hbl
            by_cases q : 0 ≤ lev (nbr r false) s u ∧ lev (nbr r false) s w = lev (nbr r false) s u + 1
            · rw [if_pos q, hy u w rfl (by omega) q] at this
              exact this
            · rw [if_neg q] at this
              rw [hn u w rfl q]
              exact this
          · have hbl := blw_len (nbr r false) s (plc r) E E.length
            have ba := fun v => blw_at (nb := nbr r false) (s := (s : Int)) (n := plc r) (E := E) (k := E.length) (v := v)
            generalize blw (nbr r false) s (plc r) E E.length = B at *
            simp (config := { maxSteps := 1000000 }) (disch := omega) only [go_sem, ↓reduceIte, Nat.reduceEqDiff, Nat.reduceAdd, Int.reduceToNat, reduceCtorEq, Nat.reduceLeDiff, Nat.reduceSub, Nat.reduceDiv, Nat.reduceMod, Nat.reduceMul, d1317_b0, lsE, rwS]
            refine Ev_loop0 (lsP r s L E B) (plc r) (by simp [lsP, rwS]) (fun v hv => ?_) ?_
            · have hz : lev (nbr r false) s v = 0 ↔ (v : Int) = s := by
                have := lev_dst (nb := nbr r false) (s := (s : Int)) (v := (v : Int)) (k := 0)
                rw [dsk_zero] at this
                exact this
              refine ls_place (by omega) hv l1 (a1 v hv) (hge v) hz hbl fun q3 => ?_
              rw [ba v hv, decide_eq_true_eq, List.take_length]
              rcases lev_cases (nbr r false) s v with ⟨k, hk, e⟩ | ⟨_, e⟩
              · obtain ⟨j, rfl⟩ : ∃ j, k = j + 1 := ⟨k - 1, by omega⟩
                obtain ⟨u, hu, hvu⟩ := dsk_pred hk
                have hup := Wk_pl H (s := (s : Int)) ⟨by omega, by omega⟩ hu.1
                have eu := lev_yes hu
                exact ⟨(u, (v : Int)), k2 u hup.1 hup.2 v hvu, rfl, by simp only; omega, by simp only; omega⟩
              · omega
            · simp (config := { maxSteps := 1000000 }) (disch := omega) only [go_sem, ↓reduceIte, Nat.reduceEqDiff, Nat.reduceAdd, Int.reduceToNat, reduceCtorEq, Nat.reduceLeDiff, Nat.reduceSub, Nat.reduceDiv, Nat.reduceMod, Nat.reduceMul, d1317_b1, lsP, rwS, l1, gt]
      · rw [lvT_far hc hs] at g1
        generalize edU r (plc r) = E at *
        simp only [rwS] at g1 g2
        cases hb : bigR r <;> rw [hb] at gb <;> simp (config := { maxSteps := 1000000 }) (disch := omega) only [go_sem, ↓reduceIte, Nat.reduceEqDiff, Nat.reduceAdd, Int.reduceToNat, reduceCtorEq, Nat.reduceLeDiff, Nat.reduceSub, Nat.reduceDiv, Nat.reduceMod, Nat.reduceMul, d1317, rwS, gb, gt, g1, g2]
    · rw [lvT_no hc] at g1
      rw [if_neg hc] at g2
      simp only [rwS] at g1 g2
      cases hb : bigR r <;> rw [hb] at gb <;> simp (config := { maxSteps := 1000000 }) (disch := omega) only [go_sem, ↓reduceIte, Nat.reduceEqDiff, Nat.reduceAdd, Int.reduceToNat, reduceCtorEq, Nat.reduceLeDiff, Nat.reduceSub, Nat.reduceDiv, Nat.reduceMod, Nat.reduceMul, d1317, rwS, gb, gt, g1, g2]
  · have g1 := levels_no (s := s) (b := false) hf hr
    have g2 := edges_no hf hr
    simp only [rwS] at g1 g2
    cases hb : bigR r <;> rw [hb] at gb <;> simp (config := { maxSteps := 1000000 }) (disch := omega) only [go_sem, ↓reduceIte, Nat.reduceEqDiff, Nat.reduceAdd, Int.reduceToNat, reduceCtorEq, Nat.reduceLeDiff, Nat.reduceSub, Nat.reduceDiv, Nat.reduceMod, Nat.reduceMul, d1317, rwS, gb, gt, g1, g2]
end Go.Proofs.Ytgjahkebhlphgaa
