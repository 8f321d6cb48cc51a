/- Layer 7: LevelTells, LevelBack, LevelTriangle. -/
import Derived.Test.YtgjahkebhlphgaaVk
namespace Go.Proofs.Ytgjahkebhlphgaa
set_option linter.unusedSimpArgs false
set_option linter.unusedVariables false
set_option maxHeartbeats 4000000
set_option maxRecDepth 100000
def Tup1 (v : AV) : Prop := ∃ (M : List Int) (e : Int), v = .tup [.vec 1 (ints M), .int .i64 e] ∧ M.length < 1000000
theorem lvT_tup {r : Rw} {s : Int} {L : List Int} (h : L.length < 1000000) : Tup1 (lvT r s L) := by
  unfold lvT
  split
  · split
    · exact ⟨L, 0, rfl, h⟩
    · exact ⟨[], 1, rfl, by simp⟩
  · exact ⟨[], 40, rfl, by simp⟩
theorem blT_tup {r : Rw} {s rad : Int} {L : List Int} (h : L.length < 1000000) : Tup1 (blT r s rad L) := by
  unfold blT
  split
  · split
    · split
      · exact ⟨[], 1, rfl, by simp⟩
      · exact ⟨L, 0, rfl, h⟩
    · exact ⟨[], 1, rfl, by simp⟩
  · exact ⟨[], 40, rfl, by simp⟩
theorem frT_tup {r : Rw} {l L : List Int} (h : r.ok → L.length < 1000000) : Tup1 (frT r l L) := by
  unfold frT
  rcases pchk_cases r l with ⟨e, hc⟩ | ⟨e, hc, ha⟩ | ⟨e, hc, ha⟩
  · rw [e]; exact ⟨[], 40, rfl, by simp⟩
  · rw [e]; exact ⟨[], 1, rfl, by simp⟩
  · rw [e]; exact ⟨L, 0, rfl, h (chk_iff.1 hc)⟩
theorem plc_small {r : Rw} (h : okR r) : plc r ≤ 2100 := by have := h.a; unfold plc; omega
theorem levs_small {r : Rw} (h : okR r) (nb : Int → List Int) (s : Int) : (levs nb s (plc r)).length < 1000000 := by
  rw [levs_len]; have := plc_small h; omega
theorem ball_small {r : Rw} (h : okR r) (nb : Int → List Int) (s rad : Int) : (ballL nb s (plc r) rad (plc r)).length < 1000000 := by
  have := ballL_len nb s (plc r) rad (plc r); have := plc_small h; omega
theorem front_small {r : Rw} (h : r.ok) (b : Bool) (l : List Int) : (frontL r b l).length < 1000000 := by
  unfold frontL
  have h1 := rising_len (frE r b l (eds r b).length)
  have h2 := frE_len r b l (eds r b).length
  have h3 := eds_len h b
  omega
theorem ltells_run {r : Rw} {s rad : Int} {b : Bool} {l : List Int} (hf : rwFit r) (hl : l.length ≤ 9223372036854775807) : runP tab 1316 [.agg (rwS r), .int .i64 s, .int .i64 rad, .bool b, .sl 1 (ints l)] [] = some (.bool true, []) := by
  refine runP_fn t1316 rfl ?_
  have gb := bigR_run hf
  simp only [rwS] at gb
  cases hb : bigR r with
  | true =>
    rw [hb] at gb
    simp (config := { maxSteps := 1000000 }) (disch := omega) only [go_sem, ↓reduceIte, Nat.reduceEqDiff, Nat.reduceAdd, Int.reduceToNat, reduceCtorEq, Nat.reduceLeDiff, Nat.reduceSub, Nat.reduceDiv, Nat.reduceMod, Nat.reduceMul, d1316, rwS, gb]
  | false =>
    rw [hb] at gb
    have hr := bigR_ok hb
    by_cases hll : 40 < l.length
    · simp (config := { maxSteps := 1000000 }) (disch := omega) only [go_sem, ↓reduceIte, Nat.reduceEqDiff, Nat.reduceAdd, Int.reduceToNat, reduceCtorEq, Nat.reduceLeDiff, Nat.reduceSub, Nat.reduceDiv, Nat.reduceMod, Nat.reduceMul, d1316, rwS, gb]
    · have go := rown_run hr
      have g1 := levels_run (s := s) (b := b) hr
      have g2 := rlevels_run (s := s) (b := b) hr
      have g3 := reach_run (s := s) (b := b) hr
      have g4 := rreach_run (s := s) (b := b) hr
      have g5 := front_run (l := l) (b := b) hr (by omega)
      have g6 := rfront_run (l := l) (b := b) hr (by omega)
      have g7 := ball_run (s := s) (rad := rad) (b := b) hr
      have g8 := rball_run (s := s) (rad := rad) (b := b) hr
      have gt := lvls_run
      have gs := rsame_run hr hr
      obtain ⟨M1, e1, h1, m1⟩ := lvT_tup (r := r) (s := s) (levs_small hr (nbr r b) s)
      obtain ⟨M2, e2, h2, m2⟩ := blT_tup (r := r) (s := s) (rad := 200) (ball_small hr (nbr r b) s 200)
      obtain ⟨M3, e3, h3, m3⟩ := frT_tup (r := r) (l := l) (fun ok => front_small ok b l)
      obtain ⟨M4, e4, h4, m4⟩ := blT_tup (r := r) (s := s) (rad := rad) (ball_small hr (nbr r b) s rad)
      rw [h1] at g1 g2
      rw [h2] at g3 g4
      rw [h3] at g5 g6
      rw [h4] at g7 g8
      have i1 := ints_run m1 m1
      have i2 := ints_run m2 m2
      have i3 := ints_run m3 m3
      have i4 := ints_run m4 m4
      simp only [beq_self_eq_true, decide_true] at i1 i2 i3 i4 gs
      simp only [rwS] at go g1 g2 g3 g4 g5 g6 g7 g8 gs
      simp (config := { maxSteps := 1000000 }) (disch := omega) only [go_sem, ↓reduceIte, Nat.reduceEqDiff, Nat.reduceAdd, Int.reduceToNat, reduceCtorEq, Nat.reduceLeDiff, Nat.reduceSub, Nat.reduceDiv, Nat.reduceMod, Nat.reduceMul, d1316, rwS, gb, go, g1, g2, g3, g4, g5, g6, g7, g8, gt, gs, i1, i2, i3, i4]
theorem ltri_run {r : Rw} {u v w : Int} (hf : rwFit r) : runP tab 1320 [.agg (rwS r), .int .i64 u, .int .i64 v, .int .i64 w] [] = some (.bool true, []) := by
  refine runP_fn t1320 rfl ?_
  have gb := bigR_run hf
  have gt := lvls_run
  simp only [rwS] at gb
  cases hb : bigR r with
  | true =>
    rw [hb] at gb
    simp (config := { maxSteps := 1000000 }) (disch := omega) only [go_sem, ↓reduceIte, Nat.reduceEqDiff, Nat.reduceAdd, Int.reduceToNat, reduceCtorEq, Nat.reduceLeDiff, Nat.reduceSub, Nat.reduceDiv, Nat.reduceMod, Nat.reduceMul, d1320, rwS, gb]
  | false =>
    rw [hb] at gb
    have hr := bigR_ok hb
    have g1 := levels_run (s := u) (b := false) hr
    have g2 := levels_run (s := v) (b := false) hr
    by_cases hc : chk r = true
    · have ok := chk_iff.1 hc
      have hi := ok.f.hi
      have hpl : plc r ≤ 200 := by unfold plc; omega
      by_cases hu : 0 ≤ u ∧ u < plc r
      · rw [lvT_yes hc hu] at g1
        by_cases hv : 0 ≤ v ∧ v < plc r
        · rw [lvT_yes hc hv] at g2
          obtain ⟨u, rfl⟩ : ∃ n : Nat, u = n := ⟨u.toNat, by omega⟩
          obtain ⟨v, rfl⟩ : ∃ n : Nat, v = n := ⟨v.toNat, by omega⟩
          have l1 := levs_len (nbr r false) u (plc r)
          have l2 := levs_len (nbr r false) v (plc r)
          have a1 : ∀ i : Nat, i < plc r → (levs (nbr r false) u (plc r)).getD i 0 = lev (nbr r false) u i := fun i hi => by
            have := levs_at (nb := nbr r false) (s := u) (n := plc r) (x := (i : Int)) (by omega) (by omega)
            rw [Int.toNat_natCast] at this
            exact this
          have a2 : ∀ i : Nat, i < plc r → (levs (nbr r false) v (plc r)).getD i 0 = lev (nbr r false) v i := fun i hi => by
            have := levs_at (nb := nbr r false) (s := v) (n := plc r) (x := (i : Int)) (by omega) (by omega)
            rw [Int.toNat_natCast] at this
            exact this
          have b1 := lev_lt ok false (s := u) (by omega)
          have b2 := lev_lt ok false (s := v) (by omega)
          generalize levs (nbr r false) u (plc r) = L1 at *
          generalize levs (nbr r false) v (plc r) = L2 at *
          simp only [rwS] at g1 g2
          by_cases hw : 0 ≤ w
          · by_cases hw2 : w < plc r
            · obtain ⟨w, rfl⟩ : ∃ n : Nat, w = n := ⟨w.toNat, by omega⟩
              have c1 := a1 v (by omega)
              have c2 := a2 w (by omega)
              have c3 := a1 w (by omega)
              by_cases q1 : lev (nbr r false) u v < 0
              · simp (config := { maxSteps := 1000000 }) (disch := omega) only [go_sem, ↓reduceIte, Nat.reduceEqDiff, Nat.reduceAdd, Int.reduceToNat, reduceCtorEq, Nat.reduceLeDiff, Nat.reduceSub, Nat.reduceDiv, Nat.reduceMod, Nat.reduceMul, d1320, rwS, gb, g1, g2, gt, l1, l2, c1, c2, c3]
              · by_cases q2 : lev (nbr r false) v w < 0
                · simp (config := { maxSteps := 1000000 }) (disch := omega) only [go_sem, ↓reduceIte, Nat.reduceEqDiff, Nat.reduceAdd, Int.reduceToNat, reduceCtorEq, Nat.reduceLeDiff, Nat.reduceSub, Nat.reduceDiv, Nat.reduceMod, Nat.reduceMul, d1320, rwS, gb, g1, g2, gt, l1, l2, c1, c2, c3]
                · have key : 0 ≤ lev (nbr r false) u w ∧ lev (nbr r false) u w ≤ lev (nbr r false) u v + lev (nbr r false) v w := by
                    rcases lev_cases (nbr r false) u v with ⟨j, hj, ej⟩ | ⟨_, ej⟩
                    · rcases lev_cases (nbr r false) v w with ⟨k, hk, ek⟩ | ⟨_, ek⟩
                      · obtain ⟨i, hi, hd⟩ := lev_tri hj hk
                        rw [lev_yes hd]
                        omega
                      · omega
                    · omega
                  have t1 := b1 v
                  have t2 := b2 w
                  obtain ⟨k1, k2⟩ := key
                  simp (config := { maxSteps := 1000000 }) (disch := omega) only [go_sem, ↓reduceIte, Nat.reduceEqDiff, Nat.reduceAdd, Int.reduceToNat, reduceCtorEq, Nat.reduceLeDiff, Nat.reduceSub, Nat.reduceDiv, Nat.reduceMod, Nat.reduceMul, d1320, rwS, gb, g1, g2, gt, l1, l2, c1, c2, c3]
            · simp (config := { maxSteps := 1000000 }) (disch := omega) only [go_sem, ↓reduceIte, Nat.reduceEqDiff, Nat.reduceAdd, Int.reduceToNat, reduceCtorEq, Nat.reduceLeDiff, Nat.reduceSub, Nat.reduceDiv, Nat.reduceMod, Nat.reduceMul, d1320, rwS, gb, g1, g2, gt, l1, l2]
          · simp (config := { maxSteps := 1000000 }) (disch := omega) only [go_sem, ↓reduceIte, Nat.reduceEqDiff, Nat.reduceAdd, Int.reduceToNat, reduceCtorEq, Nat.reduceLeDiff, Nat.reduceSub, Nat.reduceDiv, Nat.reduceMod, Nat.reduceMul, d1320, rwS, gb, g1, g2, gt, l1, l2]
        · rw [lvT_far hc hv] at g2
          have l1 := levs_len (nbr r false) u (plc r)
          generalize levs (nbr r false) u (plc r) = L1 at *
          simp only [rwS] at g1 g2
          simp (config := { maxSteps := 1000000 }) (disch := omega) only [go_sem, ↓reduceIte, Nat.reduceEqDiff, Nat.reduceAdd, Int.reduceToNat, reduceCtorEq, Nat.reduceLeDiff, Nat.reduceSub, Nat.reduceDiv, Nat.reduceMod, Nat.reduceMul, d1320, rwS, gb, g1, g2, gt, l1]
      · rw [lvT_far hc hu] at g1
        obtain ⟨M, e, h, m⟩ := lvT_tup (r := r) (s := v) (levs_small hr (nbr r false) v)
        rw [h] at g2
        simp only [rwS] at g1 g2
        simp (config := { maxSteps := 1000000 }) (disch := omega) only [go_sem, ↓reduceIte, Nat.reduceEqDiff, Nat.reduceAdd, Int.reduceToNat, reduceCtorEq, Nat.reduceLeDiff, Nat.reduceSub, Nat.reduceDiv, Nat.reduceMod, Nat.reduceMul, d1320, rwS, gb, g1, g2, gt]
    · rw [lvT_no hc] at g1 g2
      simp only [rwS] at g1 g2
      simp (config := { maxSteps := 1000000 }) (disch := omega) only [go_sem, ↓reduceIte, Nat.reduceEqDiff, Nat.reduceAdd, Int.reduceToNat, reduceCtorEq, Nat.reduceLeDiff, Nat.reduceSub, Nat.reduceDiv, Nat.reduceMod, Nat.reduceMul, d1320, rwS, gb, g1, g2, gt]
end Go.Proofs.Ytgjahkebhlphgaa
