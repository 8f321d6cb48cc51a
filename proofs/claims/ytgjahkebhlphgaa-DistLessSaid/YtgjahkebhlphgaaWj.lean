/- Layer 8: the document's rows; DistTells, DistHalf, DistLevels. -/
import Derived.Test.YtgjahkebhlphgaaWi
namespace Go.Proofs.Ytgjahkebhlphgaa
set_option linter.unusedSimpArgs false
set_option linter.unusedVariables false
set_option maxHeartbeats 4000000
set_option maxRecDepth 100000
theorem lev_by {r : Rw} (ok : r.ok) (b : Bool) {s : Nat} (h : s < plc r) {i : Nat} (hi : i < plc r) : lev (nbr r b) s i = gi (rounds (eds r b) ((List.replicate (plc r) (-1 : Int)).set s 0) (plc r)) i := by
  rw [← levs_by ok b h]
  exact (levs_get hi).symm
def R8 : Rw := ⟨[0, 2, 3, 4, 5, 5], [1, 2, 3, 3, 4], [0, 0, 1, 2, 4, 5], [0, 0, 1, 2, 3]⟩
theorem R8_ok : okR R8 := ⟨by decide, by decide, by decide, by decide⟩
theorem R8_chk : chk R8 = true := chkK (by decide)
theorem E8_ok : okE 5 [(0, 1), (0, 2), (1, 3), (2, 3), (3, 4)] := ⟨by decide, by decide, by decide, fun i hi => by
  match i, hi with
  | 0, _ => decide
  | 1, _ => decide
  | 2, _ => decide
  | 3, _ => decide
  | 4, _ => decide, fun i hi => by
  match i, hi with
  | 0, _ => decide
  | 1, _ => decide
  | 2, _ => decide
  | 3, _ => decide⟩
theorem pl8_4 {r : Rw} {t : Nat} {s a b c : Int} (h1 : nx8 r t s = a) (h2 : nx8 r t a = b) (h3 : nx8 r t b = c) : pl8 r t s 3 = [s, a, b, c] := by
  show [vi r t s 0, vi r t s 1, vi r t s 2, vi r t s 3] = _
  have e0 : vi r t s 0 = s := rfl
  have e1 : vi r t s 1 = a := h1
  have e2 : vi r t s 2 = b := by show nx8 r t (vi r t s 1) = b; rw [e1]; exact h2
  have e3 : vi r t s 3 = c := by show nx8 r t (vi r t s 2) = c; rw [e2]; exact h3
  rw [e0, e1, e2, e3]
theorem dists_run : runP tab 1350 [] [] = some (.bool true, []) := by
  refine runP_fn t1350 rfl ?_
  have ok := chk_iff.1 R8_chk
  have g1 : runP tab 1198 [.agg (grS 5 [(0, 1), (0, 2), (1, 3), (2, 3), (3, 4)])] [] = some (.tup [.agg [.vec 1 (ints R8.off), .vec 1 (ints R8.to), .vec 1 (ints R8.roff), .vec 1 (ints R8.rev)], .int .i64 0], []) := make_run E8_ok
  have hpl : plc R8 = 5 := rfl
  have t4 : ∀ i : Nat, i < 5 → tow R8 4 (i : Int) = gi [3, 2, 2, 1, 0] i := fun i hi => by
    have := lev_by ok true (s := 4) (by decide) (i := i) hi
    rw [show rounds (eds R8 true) ((List.replicate (plc R8) (-1 : Int)).set 4 0) (plc R8) = [3, 2, 2, 1, 0] by decide] at this
    exact this
  have l04 : lev (nbr R8 false) (0 : Int) (4 : Int) = 3 := by
    have := lev_by ok false (s := 0) (by decide) (i := 4) (by decide)
    rw [show rounds (eds R8 false) ((List.replicate (plc R8) (-1 : Int)).set 0 0) (plc R8) = [0, 1, 1, 2, 3] by decide] at this
    exact this
  have l40 : lev (nbr R8 false) (4 : Int) (0 : Int) = -1 := by
    have := lev_by ok false (s := 4) (by decide) (i := 0) (by decide)
    rw [show rounds (eds R8 false) ((List.replicate (plc R8) (-1 : Int)).set 4 0) (plc R8) = [-1, -1, -1, -1, 0] by decide] at this
    exact this
  have e04 : pchk R8 [0, 4] = 0 := by rw [pchk, if_pos R8_chk]; decide
  have e40 : pchk R8 [4, 0] = 0 := by rw [pchk, if_pos R8_chk]; decide
  have e50 : pchk R8 [5, 0] = 1 := by rw [pchk, if_pos R8_chk]; decide
  have g2 := dist_run (s := 0) (t := 4) R8_ok
  rw [dsT, if_pos e04, l04, if_pos (by decide)] at g2
  have g3 := steps_run (s := 0) (t := 4) R8_ok
  have hm : mtN R8 0 4 = 2 := by
    rw [mtN, show lev (nbr R8 false) ((0 : Nat) : Int) ((4 : Nat) : Int) = 3 from l04]; decide
  rw [spT8, if_pos e04, show mtN R8 (Int.toNat 0) (Int.toNat 4) = 2 from hm] at g3
  have n1 : nx8 R8 4 0 = 1 := by
    have a0 : tow R8 4 0 = 3 := t4 0 (by decide)
    have a1 : tow R8 4 1 = 2 := t4 1 (by decide)
    rw [nx8, a0, show nbr R8 false 0 = [1, 2] by decide, fnd8, a1]; rfl
  have n2 : nx8 R8 4 1 = 3 := by
    have a0 : tow R8 4 1 = 2 := t4 1 (by decide)
    have a1 : tow R8 4 3 = 1 := t4 3 (by decide)
    rw [nx8, a0, show nbr R8 false 1 = [3] by decide, fnd8, a1]; rfl
  have n3 : nx8 R8 4 3 = 4 := by
    have a0 : tow R8 4 3 = 1 := t4 3 (by decide)
    have a1 : tow R8 4 4 = 0 := t4 4 (by decide)
    rw [nx8, a0, show nbr R8 false 3 = [4] by decide, fnd8, a1]; rfl
  have g4 := path_run (s := 0) (t := 4) R8_ok
  rw [ptT, if_pos e04, l04, if_pos (by decide), show pl8 R8 (Int.toNat 4) 0 (Int.toNat 3) = [0, 1, 3, 4] from pl8_4 n1 n2 n3] at g4
  have g5 := dist_run (s := 4) (t := 0) R8_ok
  rw [dsT, if_pos e40, l40, if_neg (by decide)] at g5
  have g6 := dist_run (s := 5) (t := 0) R8_ok
  rw [dsT, if_neg (by rw [e50]; decide), e50] at g6
  have hw : ∀ i : Nat, i + 1 < 4 → way R8 ([0, 1, 3, 4].getD i 0) ([0, 1, 3, 4].getD (i + 1) 0) = true := fun i hi => by
    rw [way_iff R8_chk]
    match i, hi with
    | 0, _ => decide
    | 1, _ => decide
    | 2, _ => decide
  have g7 := walk_run (l := [0, 1, 3, 4]) R8_ok (by decide) (by intro v hv; simp at hv; rcases hv with rfl | rfl | rfl | rfl <;> exact ⟨by decide, by decide⟩)
  have hW : WalkP R8 [0, 1, 3, 4] := ⟨R8_chk, by decide, by decide, hw⟩
  rw [wlk_yes hW] at g7
  have g8 := walk_run (l := [1, 0]) R8_ok (by decide) (by intro v hv; simp at hv; rcases hv with rfl | rfl <;> exact ⟨by decide, by decide⟩)
  have hN : ¬ WalkP R8 [1, 0] := fun h => by
    have := (way_iff R8_chk).1 (h.2.2.2 0 (by decide))
    exact absurd this.2 (by decide)
  rw [wlk_no hN] at g8
  have i1 := ints_run (a := [0, 1, 3, 4]) (b := [0, 1, 3, 4]) (by decide) (by decide)
  have c2 : ((2 : Nat) : Int) = 2 := rfl
  rw [c2] at g3
  simp only [beq_self_eq_true, ints, List.map_cons, List.map_nil] at g4 g7 g8 i1
  simp only [grS, prs, List.flatMap_cons, List.flatMap_nil, List.cons_append, List.nil_append, nls, List.replicate, Int.cast_ofNat_Int] at g1
  simp only [rwS, R8, ints, List.map_cons, List.map_nil] at g1 g2 g3 g4 g5 g6 g7 g8
  simp (config := { maxSteps := 1000000 }) (disch := omega) only [go_sem, ↓reduceIte, Nat.reduceEqDiff, Nat.reduceAdd, Int.reduceToNat, reduceCtorEq, Nat.reduceLeDiff, Nat.reduceSub, Nat.reduceDiv, Nat.reduceMod, Nat.reduceMul, d1350, g1, g2, g3, g4, g5, g6, g7, g8, i1]
theorem dsT_tup (r : Rw) (s t : Int) : ∃ (a e : Int) (b : Bool), dsT r s t = .tup [.int .i64 a, .bool b, .int .i64 e] := by
  unfold dsT
  split
  · split
    · exact ⟨_, _, _, rfl⟩
    · exact ⟨_, _, _, rfl⟩
  · exact ⟨_, _, _, rfl⟩
theorem spT8_tup (r : Rw) (s t : Int) : ∃ a e : Int, spT8 r s t = .tup [.int .i64 a, .int .i64 e] := by
  unfold spT8
  split <;> exact ⟨_, _, rfl⟩
theorem ptT_tup (r : Rw) (s t : Int) : ∃ (P : List Int) (e : Int) (b : Bool), ptT r s t = .tup [.vec 1 (ints P), .bool b, .int .i64 e] ∧ P.length < 1000000 := by
  unfold ptT
  rcases pchk2 r s t with ⟨hc, e⟩ | ⟨hc, h, e⟩ | ⟨hc, ⟨hs, ht⟩, e⟩
  · rw [e]; exact ⟨[], _, _, rfl, by simp⟩
  · rw [e]; exact ⟨[], _, _, rfl, by simp⟩
  · rw [e, if_pos rfl]
    split
    · refine ⟨_, _, _, rfl, ?_⟩
      rw [pl8_len]
      obtain ⟨n, rfl⟩ : ∃ n : Nat, s = n := ⟨s.toNat, by omega⟩
      have := lev_lt (chk_iff.1 hc) false (s := n) (by omega) t
      omega
    · exact ⟨[], _, _, rfl, by simp⟩
theorem dtells_run {r : Rw} {s t : Int} {l : List Int} (hf : rwFit r) (hl : l.length ≤ 9223372036854775807) (hI : ∀ v ∈ l, I64 v) : runP tab 1321 [.agg (rwS r), .int .i64 s, .int .i64 t, .sl 1 (ints l)] [] = some (.bool true, []) := by
  refine runP_fn t1321 rfl ?_
  have gb := bigR_run hf
  simp only [rwS] at gb
  cases hb : bigR r with
  | true =>
    rw [hb] at gb
    simp (config := { maxSteps := 1000000 }) (disch := omega) only [go_sem, ↓reduceIte, Nat.reduceEqDiff, Nat.reduceAdd, Int.reduceToNat, reduceCtorEq, Nat.reduceLeDiff, Nat.reduceSub, Nat.reduceDiv, Nat.reduceMod, Nat.reduceMul, d1321, rwS, gb]
  | false =>
    rw [hb] at gb
    have hr := bigR_ok hb
    by_cases hll : 40 < l.length
    · simp (config := { maxSteps := 1000000 }) (disch := omega) only [go_sem, ↓reduceIte, Nat.reduceEqDiff, Nat.reduceAdd, Int.reduceToNat, reduceCtorEq, Nat.reduceLeDiff, Nat.reduceSub, Nat.reduceDiv, Nat.reduceMod, Nat.reduceMul, d1321, rwS, gb]
    · have go := rown_run hr
      have g1 := dist_run (s := s) (t := t) hr
      have g2 := rdist_run (s := s) (t := t) hr
      have g3 := steps_run (s := s) (t := t) hr
      have g4 := rsteps_run (s := s) (t := t) hr
      have g5 := path_run (s := s) (t := t) hr
      have g6 := rpath_run (s := s) (t := t) hr
      have g7 := walk_run (l := l) hr (by omega) hI
      have g8 := rwalk_run (l := l) hr (by omega) hI
      have gt := dists_run
      have gs := rsame_run hr hr
      obtain ⟨a1, e1, b1, h1⟩ := dsT_tup r s t
      obtain ⟨a2, e2, h2⟩ := spT8_tup r s t
      obtain ⟨P, e3, b3, h3, m3⟩ := ptT_tup r s t
      rw [h1] at g1 g2
      rw [h2] at g3 g4
      rw [h3] at g5 g6
      generalize wlk r l = wl at *
      have i1 := ints_run m3 m3
      simp only [beq_self_eq_true, decide_true] at i1 gs
      simp only [rwS] at go g1 g2 g3 g4 g5 g6 g7 g8 gs
      cases b1 <;> cases b3 <;> cases wl <;> simp (config := { maxSteps := 1000000 }) (disch := omega) only [go_sem, ↓reduceIte, Nat.reduceEqDiff, Nat.reduceAdd, Int.reduceToNat, reduceCtorEq, Nat.reduceLeDiff, Nat.reduceSub, Nat.reduceDiv, Nat.reduceMod, Nat.reduceMul, d1321, rwS, gb, go, g1, g2, g3, g4, g5, g6, g7, g8, gt, gs, i1]
theorem dhalf_run {r : Rw} {s t : Int} (hf : rwFit r) : runP tab 1322 [.agg (rwS r), .int .i64 s, .int .i64 t] [] = some (.bool true, []) := by
  refine runP_fn t1322 rfl ?_
  have gb := bigR_run hf
  have gt := dists_run
  simp only [rwS] at gb
  cases hb : bigR r with
  | true =>
    rw [hb] at gb
    simp (config := { maxSteps := 1000000 }) (disch := omega) only [go_sem, ↓reduceIte, Nat.reduceEqDiff, Nat.reduceAdd, Int.reduceToNat, reduceCtorEq, Nat.reduceLeDiff, Nat.reduceSub, Nat.reduceDiv, Nat.reduceMod, Nat.reduceMul, d1322, rwS, gb]
  | false =>
    rw [hb] at gb
    have hr := bigR_ok hb
    have ha := hr.a
    have g1 := dist_run (s := s) (t := t) hr
    have g2 := steps_run (s := s) (t := t) hr
    unfold dsT at g1
    unfold spT8 at g2
    simp only [rwS] at g1 g2
    rcases pchk2 r s t with ⟨hc, e⟩ | ⟨hc, h, e⟩ | ⟨hc, ⟨hs, ht⟩, e⟩
    · rw [e, if_neg (by decide)] at g1 g2
      simp (config := { maxSteps := 1000000 }) (disch := omega) only [go_sem, ↓reduceIte, Nat.reduceEqDiff, Nat.reduceAdd, Int.reduceToNat, reduceCtorEq, Nat.reduceLeDiff, Nat.reduceSub, Nat.reduceDiv, Nat.reduceMod, Nat.reduceMul, d1322, rwS, gb, gt, g1, g2]
    · rw [e, if_neg (by decide)] at g1 g2
      simp (config := { maxSteps := 1000000 }) (disch := omega) only [go_sem, ↓reduceIte, Nat.reduceEqDiff, Nat.reduceAdd, Int.reduceToNat, reduceCtorEq, Nat.reduceLeDiff, Nat.reduceSub, Nat.reduceDiv, Nat.reduceMod, Nat.reduceMul, d1322, rwS, gb, gt, g1, g2]
    · rw [e, if_pos rfl] at g1 g2
      obtain ⟨s, rfl⟩ : ∃ n : Nat, s = n := ⟨s.toNat, by omega⟩
      obtain ⟨t, rfl⟩ : ∃ n : Nat, t = n := ⟨t.toNat, by omega⟩
      rw [Int.toNat_natCast, Int.toNat_natCast] at g2
      have ok := chk_iff.1 hc
      obtain ⟨q1, q2, q3, q4⟩ := mt_spec ok (s := s) (t := t) (by omega) (by omega)
      have hpl : plc r + 1 = r.off.length := by have := ok.f.lo; unfold plc; omega
      have hlt := lev_lt ok false (s := s) (by omega) t
      have hmt : 0 ≤ lev (nbr r false) s t → mtN r s t = ((lev (nbr r false) s t).toNat + 1) / 2 := fun h => by rw [mtN, if_pos h]
      clear q1 q2 q3
      generalize mtN r s t = k at *
      generalize lev (nbr r false) s t = D at *
      by_cases hD : 0 ≤ D
      · rw [if_pos hD] at g1
        have hk := hmt hD
        by_cases hev : D = 2 * (k : Int)
        · simp (config := { maxSteps := 1000000 }) (disch := omega) only [go_sem, ↓reduceIte, Nat.reduceEqDiff, Nat.reduceAdd, Int.reduceToNat, reduceCtorEq, Nat.reduceLeDiff, Nat.reduceSub, Nat.reduceDiv, Nat.reduceMod, Nat.reduceMul, d1322, rwS, gb, gt, g1, g2]
        · have hev2 : D = 2 * (k : Int) - 1 := by omega
          simp (config := { maxSteps := 1000000 }) (disch := omega) only [go_sem, ↓reduceIte, Nat.reduceEqDiff, Nat.reduceAdd, Int.reduceToNat, reduceCtorEq, Nat.reduceLeDiff, Nat.reduceSub, Nat.reduceDiv, Nat.reduceMod, Nat.reduceMul, d1322, rwS, gb, gt, g1, g2]
      · rw [if_neg hD] at g1
        simp (config := { maxSteps := 1000000 }) (disch := omega) only [go_sem, ↓reduceIte, Nat.reduceEqDiff, Nat.reduceAdd, Int.reduceToNat, reduceCtorEq, Nat.reduceLeDiff, Nat.reduceSub, Nat.reduceDiv, Nat.reduceMod, Nat.reduceMul, d1322, rwS, gb, gt, g1, g2]
theorem dlevels_run {r : Rw} {s t : Int} (hf : rwFit r) : runP tab 1324 [.agg (rwS r), .int .i64 s, .int .i64 t] [] = some (.bool true, []) := by
  refine runP_fn t1324 rfl ?_
  have gb := bigR_run hf
  have gt := dists_run
  simp only [rwS] at gb
  cases hb : bigR r with
  | true =>
    rw [hb] at gb
    simp (config := { maxSteps := 1000000 }) (disch := omega) only [go_sem, ↓reduceIte, Nat.reduceEqDiff, Nat.reduceAdd, Int.reduceToNat, reduceCtorEq, Nat.reduceLeDiff, Nat.reduceSub, Nat.reduceDiv, Nat.reduceMod, Nat.reduceMul, d1324, rwS, gb]
  | false =>
    rw [hb] at gb
    have hr := bigR_ok hb
    have g1 := dist_run (s := s) (t := t) hr
    have g2 := levels_run (s := s) (b := false) hr
    have g3 := levels_run (s := t) (b := true) hr
    unfold dsT at g1
    rcases pchk2 r s t with ⟨hc, e⟩ | ⟨hc, h, e⟩ | ⟨hc, ⟨hs, ht⟩, e⟩
    · rw [e, if_neg (by decide)] at g1
      rw [lvT_no hc] at g2 g3
      simp only [rwS] at g1 g2 g3
      simp (config := { maxSteps := 1000000 }) (disch := omega) only [go_sem, ↓reduceIte, Nat.reduceEqDiff, Nat.reduceAdd, Int.reduceToNat, reduceCtorEq, Nat.reduceLeDiff, Nat.reduceSub, Nat.reduceDiv, Nat.reduceMod, Nat.reduceMul, d1324, rwS, gb, gt, g1, g2, g3]
    · rw [e, if_neg (by decide)] at g1
      by_cases hs : 0 ≤ s ∧ s < plc r
      · rw [lvT_yes hc hs] at g2
        rw [lvT_far hc (fun ht => h ⟨hs, ht⟩)] at g3
        generalize levs (nbr r false) s (plc r) = L at *
        simp only [rwS] at g1 g2 g3
        simp (config := { maxSteps := 1000000 }) (disch := omega) only [go_sem, ↓reduceIte, Nat.reduceEqDiff, Nat.reduceAdd, Int.reduceToNat, reduceCtorEq, Nat.reduceLeDiff, Nat.reduceSub, Nat.reduceDiv, Nat.reduceMod, Nat.reduceMul, d1324, rwS, gb, gt, g1, g2, g3]
      · rw [lvT_far hc hs] at g2
        obtain ⟨M, e2, h2, m2⟩ := lvT_tup (r := r) (s := t) (levs_small hr (nbr r true) t)
        rw [h2] at g3
        simp only [rwS] at g1 g2 g3
        simp (config := { maxSteps := 1000000 }) (disch := omega) only [go_sem, ↓reduceIte, Nat.reduceEqDiff, Nat.reduceAdd, Int.reduceToNat, reduceCtorEq, Nat.reduceLeDiff, Nat.reduceSub, Nat.reduceDiv, Nat.reduceMod, Nat.reduceMul, d1324, rwS, gb, gt, g1, g2, g3]
    · rw [e, if_pos rfl] at g1
      rw [lvT_yes hc hs] at g2
      rw [lvT_yes hc ht] at g3
      obtain ⟨s, rfl⟩ : ∃ n : Nat, s = n := ⟨s.toNat, by omega⟩
      obtain ⟨t, rfl⟩ : ∃ n : Nat, t = n := ⟨t.toNat, by omega⟩
      have ok := chk_iff.1 hc
      have hs : s < plc r := by omega
      have ht : t < plc r := by omega
      have l1 := levs_len (nbr r false) s (plc r)
      have l2 := levs_len (nbr r true) t (plc r)
      have a1 := levs_get (nb := nbr r false) (s := s) (n := plc r) (i := t) ht
      have a2 := levs_get (nb := nbr r true) (s := t) (n := plc r) (i := s) hs
      rw [← nbr_rev ok hs ht] at a2
      have hpl : plc r ≤ 200 := by have := ok.f.hi; unfold plc; omega
      generalize levs (nbr r false) s (plc r) = L1 at *
      generalize levs (nbr r true) t (plc r) = L2 at *
      generalize lev (nbr r false) s t = D at *
      simp only [rwS] at g1 g2 g3
      by_cases hD : 0 ≤ D
      · rw [if_pos hD] at g1
        simp (config := { maxSteps := 1000000 }) (disch := omega) only [go_sem, ↓reduceIte, Nat.reduceEqDiff, Nat.reduceAdd, Int.reduceToNat, reduceCtorEq, Nat.reduceLeDiff, Nat.reduceSub, Nat.reduceDiv, Nat.reduceMod, Nat.reduceMul, d1324, rwS, gb, gt, g1, g2, g3, l1, l2, a1, a2]
      · rw [if_neg hD] at g1
        simp (config := { maxSteps := 1000000 }) (disch := omega) only [go_sem, ↓reduceIte, Nat.reduceEqDiff, Nat.reduceAdd, Int.reduceToNat, reduceCtorEq, Nat.reduceLeDiff, Nat.reduceSub, Nat.reduceDiv, Nat.reduceMod, Nat.reduceMul, d1324, rwS, gb, gt, g1, g2, g3, l1, l2, a1, a2]
end Go.Proofs.Ytgjahkebhlphgaa
