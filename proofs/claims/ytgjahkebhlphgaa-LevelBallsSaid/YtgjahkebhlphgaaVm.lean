/- Layer 7: LevelBack, LevelBalls. -/
import Derived.Test.YtgjahkebhlphgaaVl
namespace Go.Proofs.Ytgjahkebhlphgaa
set_option linter.unusedSimpArgs false
set_option linter.unusedVariables false
set_option maxHeartbeats 4000000
set_option maxRecDepth 100000
theorem levs_get {nb : Int → List Int} {s : Int} {n i : Nat} (h : i < n) : (levs nb s n).getD i 0 = lev nb s i := by
  have := levs_at (nb := nb) (s := s) (n := n) (x := (i : Int)) (by omega) (by omega)
  rw [Int.toNat_natCast] at this
  exact this
theorem nbr_rev {r : Rw} (ok : r.ok) {v w : Nat} (hv : v < plc r) (hw : w < plc r) : lev (nbr r false) v w = lev (nbr r true) w v :=
  lev_rev (nbr_plc ok false) (nbr_plc ok true) (nbr_mirror ok false) ⟨by omega, by omega⟩ ⟨by omega, by omega⟩
theorem lback_run {r : Rw} (hf : rwFit r) : runP tab 1318 [.agg (rwS r)] [] = some (.bool true, []) := by
  refine runP_fn t1318 rfl ?_
  have gb := bigR_run hf
  have gt := lvls_run
  simp only [rwS] at gb
  cases hb : bigR r with
  | true =>
    rw [hb] at gb
    simp (config := { maxSteps := 1000000 }) (disch := omega) only [go_sem, ↓reduceIte, Nat.reduceEqDiff, Nat.reduceAdd, Int.reduceToNat, reduceCtorEq, Nat.reduceLeDiff, Nat.reduceSub, Nat.reduceDiv, Nat.reduceMod, Nat.reduceMul, d1318, rwS, gb, gt]
  | false =>
    rw [hb] at gb
    have hr := bigR_ok hb
    have h1 := hr.a
    have gc := hr.check
    by_cases hlen : 12 < r.off.length
    · simp (config := { maxSteps := 1000000 }) (disch := omega) only [go_sem, ↓reduceIte, Nat.reduceEqDiff, Nat.reduceAdd, Int.reduceToNat, reduceCtorEq, Nat.reduceLeDiff, Nat.reduceSub, Nat.reduceDiv, Nat.reduceMod, Nat.reduceMul, d1318, rwS, gb, gt]
    simp only [rwS] at gc
    cases hc : chk r with
    | false =>
      rw [hc] at gc
      simp (config := { maxSteps := 1000000 }) (disch := omega) only [go_sem, ↓reduceIte, Nat.reduceEqDiff, Nat.reduceAdd, Int.reduceToNat, reduceCtorEq, Nat.reduceLeDiff, Nat.reduceSub, Nat.reduceDiv, Nat.reduceMod, Nat.reduceMul, d1318, rwS, gb, gt, gc]
    | true =>
      rw [hc] at gc
      have ok := chk_iff.1 hc
      have lo := ok.f.lo
      have hn : ((r.off.length : Int) - 1) = (plc r : Int) := by unfold plc; omega
      simp (config := { maxSteps := 1000000 }) (disch := omega) only [go_sem, ↓reduceIte, Nat.reduceEqDiff, Nat.reduceAdd, Int.reduceToNat, reduceCtorEq, Nat.reduceLeDiff, Nat.reduceSub, Nat.reduceDiv, Nat.reduceMod, Nat.reduceMul, d1318, rwS, gb, gt, gc, hn]
      refine Ev_loop0 (fun v => ⟨[(1, .ref 0 0), (3, .int .i64 (plc r : Int)), (4, .int .i64 (v : Int))], [.row false (rwS r)], 0, [(0, 1, [1, 3, 4], [(1, 0)])]⟩) (plc r) (by simp [rwS]) (fun v hv => ?_) ?_
      · have g1 := levels_run (s := (v : Int)) (b := false) hr
        rw [lvT_yes hc ⟨by omega, by omega⟩] at g1
        have l1 := levs_len (nbr r false) v (plc r)
        have a1 := fun i => levs_get (nb := nbr r false) (s := v) (n := plc r) (i := i)
        simp only [rwS] at g1
        generalize levs (nbr r false) v (plc r) = L1 at *
        simp (config := { maxSteps := 1000000 }) (disch := omega) only [go_sem, ↓reduceIte, Nat.reduceEqDiff, Nat.reduceAdd, Int.reduceToNat, reduceCtorEq, Nat.reduceLeDiff, Nat.reduceSub, Nat.reduceDiv, Nat.reduceMod, Nat.reduceMul, d1318_b0, rwS, g1]
        refine Ev_loop0 (fun w => ⟨[(1, .ref 0 0), (3, .int .i64 (plc r : Int)), (4, .int .i64 (v : Int)), (5, .own 1 1), (6, .int .i64 0), (7, .int .i64 (w : Int))], [.row false (rwS r), .row false (ints L1)], 0, [(1, 2, [1, 3, 4, 5, 6, 7], [(1, 0), (5, 1)]), (0, 1, [1, 3, 4], [(1, 0)])]⟩) (plc r) (by simp [rwS]) (fun w hw => ?_) ?_
        · have g2 := levels_run (s := (w : Int)) (b := true) hr
          rw [lvT_yes hc ⟨by omega, by omega⟩] at g2
          have l2 := levs_len (nbr r true) w (plc r)
          have a2 := levs_get (nb := nbr r true) (s := w) (n := plc r) (i := v) hv
          have a3 := a1 w hw
          rw [nbr_rev ok hv hw, ← a2] at a3
          simp only [rwS] at g2
          generalize levs (nbr r true) w (plc r) = L2 at *
          simp (config := { maxSteps := 1000000 }) (disch := omega) only [go_sem, ↓reduceIte, Nat.reduceEqDiff, Nat.reduceAdd, Int.reduceToNat, reduceCtorEq, Nat.reduceLeDiff, Nat.reduceSub, Nat.reduceDiv, Nat.reduceMod, Nat.reduceMul, d1318_b1, rwS, g2, l1, l2, a3]
        · simp (config := { maxSteps := 1000000 }) (disch := omega) only [go_sem, ↓reduceIte, Nat.reduceEqDiff, Nat.reduceAdd, Int.reduceToNat, reduceCtorEq, Nat.reduceLeDiff, Nat.reduceSub, Nat.reduceDiv, Nat.reduceMod, Nat.reduceMul, d1318_b1, rwS]
      · simp (config := { maxSteps := 1000000 }) (disch := omega) only [go_sem, ↓reduceIte, Nat.reduceEqDiff, Nat.reduceAdd, Int.reduceToNat, reduceCtorEq, Nat.reduceLeDiff, Nat.reduceSub, Nat.reduceDiv, Nat.reduceMod, Nat.reduceMul, d1318_b0, rwS, gt]
theorem ball_mem {nb : Int → List Int} {s : Int} {n : Nat} {rad x : Int} : x ∈ ballL nb s n rad n ↔ (0 ≤ x ∧ x < n) ∧ 0 ≤ lev nb s x ∧ lev nb s x ≤ rad := by
  unfold ballL
  simp only [List.mem_map, List.mem_filter, List.mem_range, decide_eq_true_eq]
  constructor
  · rintro ⟨i, ⟨h1, h2⟩, rfl⟩; exact ⟨⟨by omega, by omega⟩, h2⟩
  · rintro ⟨⟨h1, h2⟩, h3⟩
    exact ⟨x.toNat, ⟨by omega, by rw [show ((x.toNat : Nat) : Int) = x by omega]; exact h3⟩, by omega⟩
theorem ball_inc (nb : Int → List Int) (s : Int) (n : Nat) (rad : Int) (k : Nat) : (ballL nb s n rad k).Pairwise (· < ·) := by
  unfold ballL
  rw [List.pairwise_map]
  have hp : ((List.range k).filter fun i : Nat => decide (0 ≤ lev nb s i ∧ lev nb s i ≤ rad)).Pairwise (· < ·) := List.Pairwise.filter _ List.pairwise_lt_range
  exact hp.imp fun h => by omega
theorem frE_mem {r : Rw} (ok : r.ok) (b : Bool) {l : List Int} (h : ∀ v ∈ l, 0 ≤ v ∧ v < plc r) {x : Int} : x ∈ frontL r b l ↔ ∃ v ∈ l, x ∈ nbr r b v := by
  unfold frontL
  rw [rising_mem]
  unfold frE
  rw [List.take_length, List.mem_map]
  simp only [List.mem_filter, decide_eq_true_eq]
  obtain ⟨k1, k2⟩ := eds_ok ok b
  constructor
  · rintro ⟨e, ⟨he, hv⟩, rfl⟩; exact ⟨e.1, hv, (k1 e he).1⟩
  · rintro ⟨v, hv, hx⟩; exact ⟨(v, x), ⟨k2 v (h v hv).1 (h v hv).2 x hx, hv⟩, rfl⟩
theorem balls_eq {r : Rw} (ok : r.ok) (b : Bool) {s : Nat} (hs : s < plc r) {rad : Int} (h : 1 ≤ rad) : ballL (nbr r b) s (plc r) rad (plc r) = rising (ballL (nbr r b) s (plc r) (rad - 1) (plc r) ++ frontL r b (ballL (nbr r b) s (plc r) (rad - 1) (plc r))) := by
  refine inc_ext (ball_inc ..) (rising_inc _) fun x => ?_
  have H := nbr_plc ok b
  rw [rising_mem, List.mem_append, frE_mem ok b (fun v hv => (ball_mem.1 hv).1), ball_mem, ball_mem]
  constructor
  · rintro ⟨hx, h1, h2⟩
    by_cases h3 : lev (nbr r b) s x ≤ rad - 1
    · exact .inl ⟨hx, h1, h3⟩
    · right
      rcases lev_cases (nbr r b) s x with ⟨k, hk, e⟩ | ⟨_, e⟩
      · obtain ⟨j, rfl⟩ : ∃ j, k = j + 1 := ⟨k - 1, by omega⟩
        obtain ⟨u, hu, hxu⟩ := dsk_pred hk
        have hup := Wk_pl H (s := (s : Int)) ⟨by omega, by omega⟩ hu.1
        have := lev_yes hu
        exact ⟨u, ball_mem.2 ⟨hup, by omega, by omega⟩, hxu⟩
      · omega
  · rintro (⟨hx, h1, h2⟩ | ⟨v, hv, hx⟩)
    · exact ⟨hx, h1, by omega⟩
    · obtain ⟨hvp, h1, h2⟩ := ball_mem.1 hv
      have hxp := H v hvp.1 hvp.2 x hx
      rcases lev_cases (nbr r b) s v with ⟨k, hk, e⟩ | ⟨_, e⟩
      · obtain ⟨j, hj, hd⟩ := Wk_dsk (show Wk (nbr r b) s (k + 1) x from ⟨v, hk.1, hx⟩)
        have := lev_yes hd
        exact ⟨hxp, by omega, by omega⟩
      · omega
theorem lballs_run {r : Rw} {s rad : Int} {b : Bool} (hf : rwFit r) : runP tab 1319 [.agg (rwS r), .int .i64 s, .int .i64 rad, .bool b] [] = some (.bool true, []) := by
  refine runP_fn t1319 rfl ?_
  have gb := bigR_run hf
  have gt := lvls_run
  simp only [rwS] at gb
  cases hb : bigR r with
  | true =>
    rw [hb] at gb
    simp (config := { maxSteps := 1000000 }) (disch := omega) only [go_sem, ↓reduceIte, Nat.reduceEqDiff, Nat.reduceAdd, Int.reduceToNat, reduceCtorEq, Nat.reduceLeDiff, Nat.reduceSub, Nat.reduceDiv, Nat.reduceMod, Nat.reduceMul, d1319, rwS, gb, gt]
  | false =>
    rw [hb] at gb
    have hr := bigR_ok hb
    by_cases h1 : rad < 1
    · simp (config := { maxSteps := 1000000 }) (disch := omega) only [go_sem, ↓reduceIte, Nat.reduceEqDiff, Nat.reduceAdd, Int.reduceToNat, reduceCtorEq, Nat.reduceLeDiff, Nat.reduceSub, Nat.reduceDiv, Nat.reduceMod, Nat.reduceMul, d1319, rwS, gb, gt]
    by_cases h2 : 1000 < rad
    · simp (config := { maxSteps := 1000000 }) (disch := omega) only [go_sem, ↓reduceIte, Nat.reduceEqDiff, Nat.reduceAdd, Int.reduceToNat, reduceCtorEq, Nat.reduceLeDiff, Nat.reduceSub, Nat.reduceDiv, Nat.reduceMod, Nat.reduceMul, d1319, rwS, gb, gt]
    have g1 := ball_run (s := s) (rad := rad - 1) (b := b) hr
    by_cases hc : chk r = true
    · by_cases hs : 0 ≤ s ∧ s < plc r
      · have ok := chk_iff.1 hc
        have lo := ok.f.lo
        have hi := ok.f.hi
        have hpl : plc r = r.off.length - 1 := rfl
        have yes : ∀ (rad : Int) (L : List Int), 0 ≤ rad → blT r s rad L = .tup [.vec 1 (ints L), .int .i64 0] := fun rad L h => by
          rw [blT, if_pos hc, if_pos hs, if_neg (by omega)]
        rw [yes _ _ (by omega)] at g1
        have g2 := ball_run (s := s) (rad := rad) (b := b) hr
        rw [yes _ _ (by omega)] at g2
        have g4 := reach_run (s := s) (b := b) hr
        rw [yes _ _ (by omega)] at g4
        have g5 := ball_run (s := s) (rad := 200) (b := b) hr
        rw [yes _ _ (by omega)] at g5
        obtain ⟨s, rfl⟩ : ∃ n : Nat, s = n := ⟨s.toNat, by omega⟩
        have hA : ∀ v ∈ ballL (nbr r b) s (plc r) (rad - 1) (plc r), 0 ≤ v ∧ v < plc r := fun v hv => (ball_mem.1 hv).1
        have bl1 := ballL_len (nbr r b) s (plc r) (rad - 1) (plc r)
        have bl2 := ballL_len (nbr r b) s (plc r) rad (plc r)
        have bl3 := ballL_len (nbr r b) s (plc r) 200 (plc r)
        have g3 := front_run (l := ballL (nbr r b) s (plc r) (rad - 1) (plc r)) (b := b) hr (by omega)
        have e3 : pchk r (ballL (nbr r b) s (plc r) (rad - 1) (plc r)) = 0 := by
          rw [pchk, if_pos hc, if_pos]
          refine List.all_eq_true.2 fun v hv => ?_
          have := hA v hv
          rw [decide_eq_true_eq]
          unfold plc at this
          omega
        rw [frT, if_pos e3] at g3
        have be := balls_eq ok b (s := s) (by omega) (rad := rad) (by omega)
        have fs := front_small ok b (ballL (nbr r b) s (plc r) (rad - 1) (plc r))
        have fs2 : (frontL r b (ballL (nbr r b) s (plc r) (rad - 1) (plc r))).length ≤ 4000 := by
          unfold frontL
          have h1 := rising_len (frE r b (ballL (nbr r b) s (plc r) (rad - 1) (plc r)) (eds r b).length)
          have h2 := frE_len r b (ballL (nbr r b) s (plc r) (rad - 1) (plc r)) (eds r b).length
          have h3 := eds_len ok b
          omega
        have g6 := rising_run (l := ballL (nbr r b) s (plc r) (rad - 1) (plc r) ++ frontL r b (ballL (nbr r b) s (plc r) (rad - 1) (plc r))) (by rw [List.length_append]; omega)
        rw [← be] at g6
        have i1 := ints_run (a := ballL (nbr r b) s (plc r) rad (plc r)) (b := ballL (nbr r b) s (plc r) rad (plc r)) (by omega) (by omega)
        have i2 := ints_run (a := ballL (nbr r b) s (plc r) 200 (plc r)) (b := ballL (nbr r b) s (plc r) 200 (plc r)) (by omega) (by omega)
        simp only [beq_self_eq_true] at i1 i2
        clear be e3 hA
        generalize frontL r b (ballL (nbr r b) s (plc r) (rad - 1) (plc r)) = F at *
        generalize ballL (nbr r b) s (plc r) (rad - 1) (plc r) = A at *
        generalize ballL (nbr r b) s (plc r) rad (plc r) = B at *
        generalize ballL (nbr r b) s (plc r) 200 (plc r) = D at *
        simp only [rwS] at g1 g2 g3 g4 g5
        simp (config := { maxSteps := 1000000 }) (disch := omega) only [go_sem, ↓reduceIte, Nat.reduceEqDiff, Nat.reduceAdd, Int.reduceToNat, reduceCtorEq, Nat.reduceLeDiff, Nat.reduceSub, Nat.reduceDiv, Nat.reduceMod, Nat.reduceMul, d1319, rwS, gb, gt, g1, g2, g3, g4, g5, g6, i1, i2]
      · rw [blT, if_pos hc, if_neg hs] at g1
        simp only [rwS] at g1
        simp (config := { maxSteps := 1000000 }) (disch := omega) only [go_sem, ↓reduceIte, Nat.reduceEqDiff, Nat.reduceAdd, Int.reduceToNat, reduceCtorEq, Nat.reduceLeDiff, Nat.reduceSub, Nat.reduceDiv, Nat.reduceMod, Nat.reduceMul, d1319, rwS, gb, gt, g1]
    · rw [blT, if_neg hc] at g1
      simp only [rwS] at g1
      simp (config := { maxSteps := 1000000 }) (disch := omega) only [go_sem, ↓reduceIte, Nat.reduceEqDiff, Nat.reduceAdd, Int.reduceToNat, reduceCtorEq, Nat.reduceLeDiff, Nat.reduceSub, Nat.reduceDiv, Nat.reduceMod, Nat.reduceMul, d1319, rwS, gb, gt, g1]
end Go.Proofs.Ytgjahkebhlphgaa
