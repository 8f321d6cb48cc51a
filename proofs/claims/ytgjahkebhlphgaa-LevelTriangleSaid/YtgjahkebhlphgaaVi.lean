/- Levels, balls and fronts, told. -/
import Derived.Test.YtgjahkebhlphgaaVh
namespace Go.Proofs.Ytgjahkebhlphgaa
set_option linter.unusedSimpArgs false
set_option linter.unusedVariables false
set_option maxHeartbeats 4000000
set_option maxRecDepth 100000
theorem lev_lt {r : Rw} (ok : r.ok) (b : Bool) {s : Nat} (h : s < plc r) (v : Int) : lev (nbr r b) s v ≤ 200 := by
  have hi := ok.f.hi
  rcases lev_cases (nbr r b) s v with ⟨k, hk, e⟩ | ⟨_, e⟩
  · have := dsk_lt (nbr_plc ok b) (s := (s : Int)) ⟨by omega, by omega⟩ hk
    rw [e]
    unfold plc at this
    omega
  · omega
theorem uplv_all {r : Rw} (ok : r.ok) (b : Bool) {s : Nat} (h : s < plc r) : uplv (nbr r b) s (plc r) 200 = levs (nbr r b) s (plc r) := by
  refine gi_ext (by rw [uplv_len, levs_len]) fun i hi => ?_
  rw [uplv_len] at hi
  rw [uplv_at hi, if_pos (lev_lt ok b h _)]
  have := levs_at (nb := nbr r b) (s := (s : Int)) (n := plc r) (x := (i : Int)) (by omega) (by omega)
  rw [Int.toNat_natCast] at this
  exact this.symm
theorem pchk_one {r : Rw} {s : Int} (hc : chk r = true) (h : ¬ (0 ≤ s ∧ s < plc r)) (hr : r.ok) : pchk r [s] = 1 := by
  have := hr.f.lo
  unfold plc at h
  rw [pchk, if_pos hc, if_neg]
  simp [allPl]; omega
theorem pchk_no {r : Rw} {l : List Int} (hc : ¬ chk r = true) : pchk r l = 40 := by rw [pchk, if_neg hc]
theorem upTo_bad {r : Rw} {s rad : Int} {b : Bool} (hr : okR r) (h : pchk r [s] ≠ 0) : runP tab 1353 [.agg (rwS r), .int .i64 s, .int .i64 rad, .bool b] [] = some (.tup [.vec 1 (ints []), .int .i64 (pchk r [s])], []) := by
  refine runP_fn t1353 rfl ?_
  have g1 := pcheck_run (r := r) (l := [s]) hr (by simp)
  rw [show ints [s] = [.int .i64 s] from rfl] at g1
  simp only [rwS] at g1
  generalize pchk r [s] = e at *
  simp (config := { maxSteps := 1000000 }) (disch := omega) only [go_sem, ↓reduceIte, Nat.reduceEqDiff, Nat.reduceAdd, Int.reduceToNat, reduceCtorEq, Nat.reduceLeDiff, Nat.reduceSub, Nat.reduceDiv, Nat.reduceMod, Nat.reduceMul, d1353, rwS, g1]
  rfl
theorem upTo_told {r : Rw} {s rad : Int} {b : Bool} (hr : okR r) : runP tab 1353 [.agg (rwS r), .int .i64 s, .int .i64 rad, .bool b] [] = some (lvT r s (uplv (nbr r b) s (plc r) rad), []) := by
  unfold lvT
  by_cases hc : chk r = true
  · have ok := chk_iff.1 hc
    rw [if_pos hc]
    by_cases h : 0 ≤ s ∧ s < plc r
    · rw [if_pos h]
      obtain ⟨n, rfl⟩ : ∃ n : Nat, s = n := ⟨s.toNat, by omega⟩
      exact upTo_run hr hc (by omega)
    · rw [if_neg h]
      have := pchk_one hc h ok
      rw [upTo_bad hr (by omega), this]; rfl
  · rw [if_neg hc]
    have := pchk_no (l := [s]) hc
    rw [upTo_bad hr (by omega), this]; rfl
theorem lvT_congr {r : Rw} {s : Int} {L M : List Int} (h : r.ok → 0 ≤ s → s < plc r → L = M) : lvT r s L = lvT r s M := by
  unfold lvT
  by_cases hc : chk r = true
  · rw [if_pos hc, if_pos hc]
    by_cases h2 : 0 ≤ s ∧ s < plc r
    · rw [if_pos h2, if_pos h2, h (chk_iff.1 hc) h2.1 h2.2]
    · rw [if_neg h2, if_neg h2]
  · rw [if_neg hc, if_neg hc]
theorem levels_run {r : Rw} {s : Int} {b : Bool} (hr : okR r) : runP tab 1335 [.agg (rwS r), .int .i64 s, .bool b] [] = some (lvT r s (levs (nbr r b) s (plc r)), []) := by
  refine runP_fn t1335 rfl ?_
  have g := upTo_told (s := s) (rad := 200) (b := b) hr
  rw [lvT_congr (M := levs (nbr r b) s (plc r)) (fun ok h1 h2 => by
    obtain ⟨n, rfl⟩ : ∃ n : Nat, s = n := ⟨s.toNat, by omega⟩
    exact uplv_all ok b (by omega))] at g
  unfold lvT at *
  simp only [rwS] at g
  by_cases hc : chk r = true
  · rw [if_pos hc] at g ⊢
    by_cases h : 0 ≤ s ∧ s < plc r
    · rw [if_pos h] at g ⊢
      simp (config := { maxSteps := 1000000 }) (disch := omega) only [go_sem, ↓reduceIte, Nat.reduceEqDiff, Nat.reduceAdd, Int.reduceToNat, reduceCtorEq, Nat.reduceLeDiff, Nat.reduceSub, Nat.reduceDiv, Nat.reduceMod, Nat.reduceMul, d1335, rwS, g]
    · rw [if_neg h] at g ⊢
      simp (config := { maxSteps := 1000000 }) (disch := omega) only [go_sem, ↓reduceIte, Nat.reduceEqDiff, Nat.reduceAdd, Int.reduceToNat, reduceCtorEq, Nat.reduceLeDiff, Nat.reduceSub, Nat.reduceDiv, Nat.reduceMod, Nat.reduceMul, d1335, rwS, g]
  · rw [if_neg hc] at g ⊢
    simp (config := { maxSteps := 1000000 }) (disch := omega) only [go_sem, ↓reduceIte, Nat.reduceEqDiff, Nat.reduceAdd, Int.reduceToNat, reduceCtorEq, Nat.reduceLeDiff, Nat.reduceSub, Nat.reduceDiv, Nat.reduceMod, Nat.reduceMul, d1335, rwS, g]
theorem rlevels_run {r : Rw} {s : Int} {b : Bool} (hr : okR r) : runP tab 1336 [.agg (rwS r), .int .i64 s, .bool b] [] = some (lvT r s (levs (nbr r b) s (plc r)), []) := by
  unfold lvT
  have ge := eds_run (b := b) hr
  simp only [rwS] at ge
  by_cases hc : chk r = true
  · have ok := chk_iff.1 hc
    have lo := ok.f.lo
    have hi := ok.f.hi
    have hn : ((r.off.length : Int) - 1) = (plc r : Int) := by unfold plc; omega
    rw [if_pos hc] at ge ⊢
    by_cases h : 0 ≤ s ∧ s < plc r
    · rw [if_pos h]
      obtain ⟨n, rfl⟩ : ∃ n : Nat, s = n := ⟨s.toNat, by omega⟩
      exact rlevels_ok hr hc (by omega)
    · rw [if_neg h]
      refine runP_fn t1336 rfl ?_
      by_cases h0 : s < 0
      · simp (config := { maxSteps := 1000000 }) (disch := omega) only [go_sem, ↓reduceIte, Nat.reduceEqDiff, Nat.reduceAdd, Int.reduceToNat, reduceCtorEq, Nat.reduceLeDiff, Nat.reduceSub, Nat.reduceDiv, Nat.reduceMod, Nat.reduceMul, d1336, rwS, ge, hn]
      · simp (config := { maxSteps := 1000000 }) (disch := omega) only [go_sem, ↓reduceIte, Nat.reduceEqDiff, Nat.reduceAdd, Int.reduceToNat, reduceCtorEq, Nat.reduceLeDiff, Nat.reduceSub, Nat.reduceDiv, Nat.reduceMod, Nat.reduceMul, d1336, rwS, ge, hn]
  · rw [if_neg hc] at ge ⊢
    refine runP_fn t1336 rfl ?_
    simp (config := { maxSteps := 1000000 }) (disch := omega) only [go_sem, ↓reduceIte, Nat.reduceEqDiff, Nat.reduceAdd, Int.reduceToNat, reduceCtorEq, Nat.reduceLeDiff, Nat.reduceSub, Nat.reduceDiv, Nat.reduceMod, Nat.reduceMul, d1336, rwS, ge]
noncomputable def ballL (nb : Int → List Int) (s : Int) (n : Nat) (rad : Int) (k : Nat) : List Int := ((List.range k).filter fun i : Nat => decide (0 ≤ lev nb s i ∧ lev nb s i ≤ rad)).map fun i : Nat => (i : Int)
theorem ballL_succ_yes {nb : Int → List Int} {s : Int} {n : Nat} {rad : Int} {k : Nat} (h : 0 ≤ lev nb s k ∧ lev nb s k ≤ rad) : ballL nb s n rad (k + 1) = ballL nb s n rad k ++ [(k : Int)] := by
  simp [ballL, List.range_succ, List.filter_append, h]
theorem ballL_succ_no {nb : Int → List Int} {s : Int} {n : Nat} {rad : Int} {k : Nat} (h : ¬ (0 ≤ lev nb s k ∧ lev nb s k ≤ rad)) : ballL nb s n rad (k + 1) = ballL nb s n rad k := by
  simp [ballL, List.range_succ, List.filter_append, h]
theorem ballL_len (nb : Int → List Int) (s : Int) (n : Nat) (rad : Int) (k : Nat) : (ballL nb s n rad k).length ≤ k := by
  unfold ballL
  rw [List.length_map]
  have := List.length_filter_le (fun i : Nat => decide (0 ≤ lev nb s i ∧ lev nb s i ≤ rad)) (List.range k)
  simpa using this
noncomputable def blT (r : Rw) (s rad : Int) (L : List Int) : AV := if chk r = true then (if 0 ≤ s ∧ s < plc r then (if rad < 0 then .tup [.vec 1 [], .int .i64 1] else .tup [.vec 1 (ints L), .int .i64 0]) else .tup [.vec 1 [], .int .i64 1]) else .tup [.vec 1 [], .int .i64 40]
theorem ball_run {r : Rw} {s rad : Int} {b : Bool} (hr : okR r) : runP tab 1341 [.agg (rwS r), .int .i64 s, .int .i64 rad, .bool b] [] = some (blT r s rad (ballL (nbr r b) s (plc r) rad (plc r)), []) := by
  refine runP_fn t1341 rfl ?_
  have g := upTo_told (s := s) (rad := rad) (b := b) hr
  unfold lvT at g
  unfold blT
  simp only [rwS] at g
  by_cases hc : chk r = true
  · have ok := chk_iff.1 hc
    have hi := ok.f.hi
    have hpl : plc r = r.off.length - 1 := rfl
    rw [if_pos hc] at g ⊢
    by_cases h : 0 ≤ s ∧ s < plc r
    · rw [if_pos h] at g ⊢
      by_cases h0 : rad < 0
      · rw [if_pos h0]
        generalize uplv (nbr r b) s (plc r) rad = L at *
        simp (config := { maxSteps := 1000000 }) (disch := omega) only [go_sem, ↓reduceIte, Nat.reduceEqDiff, Nat.reduceAdd, Int.reduceToNat, reduceCtorEq, Nat.reduceLeDiff, Nat.reduceSub, Nat.reduceDiv, Nat.reduceMod, Nat.reduceMul, d1341, rwS, g]
      · rw [if_neg h0]
        have hl := uplv_len (nbr r b) s (plc r) rad
        have ha := fun i => uplv_at (nb := nbr r b) (s := s) (n := plc r) (rad := rad) (i := i)
        simp only [gi] at ha
        generalize uplv (nbr r b) s (plc r) rad = L at *
        simp (config := { maxSteps := 1000000 }) (disch := omega) only [go_sem, ↓reduceIte, Nat.reduceEqDiff, Nat.reduceAdd, Int.reduceToNat, reduceCtorEq, Nat.reduceLeDiff, Nat.reduceSub, Nat.reduceDiv, Nat.reduceMod, Nat.reduceMul, d1341, rwS, g, hl]
        refine Ev_loop0 (fun i => ⟨[(12, .own 1 2), (28, .own 1 1), (29, .int .i64 (plc r : Int)), (30, .int .i64 (i : Int))], [.row false (rwS r), .row false (ints L), .row false (ints (ballL (nbr r b) s (plc r) rad i))], 0, [(0, 3, [12, 28, 29, 30], [(12, 2), (28, 1)])]⟩) (plc r) (by simp [rwS, ballL, ints]) (fun i hi2 => ?_) ?_
        · have a := ha i hi2
          have hbl := ballL_len (nbr r b) s (plc r) rad i
          by_cases h1 : 0 ≤ lev (nbr r b) s i ∧ lev (nbr r b) s i ≤ rad
          · rw [ballL_succ_yes h1]
            rw [if_pos h1.2] at a
            generalize ballL (nbr r b) s (plc r) rad i = X at *
            simp (config := { maxSteps := 1000000 }) (disch := omega) only [go_sem, ↓reduceIte, Nat.reduceEqDiff, Nat.reduceAdd, Int.reduceToNat, reduceCtorEq, Nat.reduceLeDiff, Nat.reduceSub, Nat.reduceDiv, Nat.reduceMod, Nat.reduceMul, d1341_b0, rwS, a]
          · rw [ballL_succ_no h1]
            have a2 : L.getD i 0 = -1 := by
              have := lev_ge (nbr r b) s i
              rw [a]; split <;> omega
            generalize ballL (nbr r b) s (plc r) rad i = X at *
            simp (config := { maxSteps := 1000000 }) (disch := omega) only [go_sem, ↓reduceIte, Nat.reduceEqDiff, Nat.reduceAdd, Int.reduceToNat, reduceCtorEq, Nat.reduceLeDiff, Nat.reduceSub, Nat.reduceDiv, Nat.reduceMod, Nat.reduceMul, d1341_b0, rwS, a2]
        · have hbl := ballL_len (nbr r b) s (plc r) rad (plc r)
          simp (config := { maxSteps := 1000000 }) (disch := omega) only [go_sem, ↓reduceIte, Nat.reduceEqDiff, Nat.reduceAdd, Int.reduceToNat, reduceCtorEq, Nat.reduceLeDiff, Nat.reduceSub, Nat.reduceDiv, Nat.reduceMod, Nat.reduceMul, d1341_b0, rwS]
    · rw [if_neg h] at g ⊢
      simp (config := { maxSteps := 1000000 }) (disch := omega) only [go_sem, ↓reduceIte, Nat.reduceEqDiff, Nat.reduceAdd, Int.reduceToNat, reduceCtorEq, Nat.reduceLeDiff, Nat.reduceSub, Nat.reduceDiv, Nat.reduceMod, Nat.reduceMul, d1341, rwS, g]
  · rw [if_neg hc] at g ⊢
    simp (config := { maxSteps := 1000000 }) (disch := omega) only [go_sem, ↓reduceIte, Nat.reduceEqDiff, Nat.reduceAdd, Int.reduceToNat, reduceCtorEq, Nat.reduceLeDiff, Nat.reduceSub, Nat.reduceDiv, Nat.reduceMod, Nat.reduceMul, d1341, rwS, g]
theorem rball_run {r : Rw} {s rad : Int} {b : Bool} (hr : okR r) : runP tab 1342 [.agg (rwS r), .int .i64 s, .int .i64 rad, .bool b] [] = some (blT r s rad (ballL (nbr r b) s (plc r) rad (plc r)), []) := by
  refine runP_fn t1342 rfl ?_
  have g := rlevels_run (s := s) (b := b) hr
  unfold lvT at g
  unfold blT
  simp only [rwS] at g
  by_cases hc : chk r = true
  · have ok := chk_iff.1 hc
    have hi := ok.f.hi
    have hpl : plc r = r.off.length - 1 := rfl
    rw [if_pos hc] at g ⊢
    by_cases h : 0 ≤ s ∧ s < plc r
    · rw [if_pos h] at g ⊢
      have hl := levs_len (nbr r b) s (plc r)
      have ha : ∀ i : Nat, i < plc r → (levs (nbr r b) s (plc r)).getD i 0 = lev (nbr r b) s i := fun i hi => by
        have := levs_at (nb := nbr r b) (s := s) (n := plc r) (x := (i : Int)) (by omega) (by omega)
        rw [Int.toNat_natCast] at this
        exact this
      generalize levs (nbr r b) s (plc r) = L at *
      by_cases h0 : rad < 0
      · rw [if_pos h0]
        simp (config := { maxSteps := 1000000 }) (disch := omega) only [go_sem, ↓reduceIte, Nat.reduceEqDiff, Nat.reduceAdd, Int.reduceToNat, reduceCtorEq, Nat.reduceLeDiff, Nat.reduceSub, Nat.reduceDiv, Nat.reduceMod, Nat.reduceMul, d1342, rwS, g]
      · rw [if_neg h0]
        simp (config := { maxSteps := 1000000 }) (disch := omega) only [go_sem, ↓reduceIte, Nat.reduceEqDiff, Nat.reduceAdd, Int.reduceToNat, reduceCtorEq, Nat.reduceLeDiff, Nat.reduceSub, Nat.reduceDiv, Nat.reduceMod, Nat.reduceMul, d1342, rwS, g, hl]
        refine Ev_loop0 (fun i => ⟨[(2, .int .i64 rad), (10, .own 1 1), (12, .own 1 2), (13, .int .i64 (i : Int))], [.row false (rwS r), .row false (ints L), .row false (ints (ballL (nbr r b) s (plc r) rad i))], 0, [(0, 3, [2, 10, 12, 13], [(10, 1), (12, 2)])]⟩) (plc r) (by simp [rwS, ballL, ints]) (fun i hi2 => ?_) ?_
        · have a := ha i hi2
          have hbl := ballL_len (nbr r b) s (plc r) rad i
          by_cases h1 : 0 ≤ lev (nbr r b) s i
          · by_cases h2 : lev (nbr r b) s i ≤ rad
            · rw [ballL_succ_yes ⟨h1, h2⟩]
              generalize ballL (nbr r b) s (plc r) rad i = X at *
              simp (config := { maxSteps := 1000000 }) (disch := omega) only [go_sem, ↓reduceIte, Nat.reduceEqDiff, Nat.reduceAdd, Int.reduceToNat, reduceCtorEq, Nat.reduceLeDiff, Nat.reduceSub, Nat.reduceDiv, Nat.reduceMod, Nat.reduceMul, d1342_b0, rwS, a, hl]
            · rw [ballL_succ_no (by omega)]
              generalize ballL (nbr r b) s (plc r) rad i = X at *
              simp (config := { maxSteps := 1000000 }) (disch := omega) only [go_sem, ↓reduceIte, Nat.reduceEqDiff, Nat.reduceAdd, Int.reduceToNat, reduceCtorEq, Nat.reduceLeDiff, Nat.reduceSub, Nat.reduceDiv, Nat.reduceMod, Nat.reduceMul, d1342_b0, rwS, a, hl]
          · rw [ballL_succ_no (by omega)]
            generalize ballL (nbr r b) s (plc r) rad i = X at *
            simp (config := { maxSteps := 1000000 }) (disch := omega) only [go_sem, ↓reduceIte, Nat.reduceEqDiff, Nat.reduceAdd, Int.reduceToNat, reduceCtorEq, Nat.reduceLeDiff, Nat.reduceSub, Nat.reduceDiv, Nat.reduceMod, Nat.reduceMul, d1342_b0, rwS, a, hl]
        · have hbl := ballL_len (nbr r b) s (plc r) rad (plc r)
          simp (config := { maxSteps := 1000000 }) (disch := omega) only [go_sem, ↓reduceIte, Nat.reduceEqDiff, Nat.reduceAdd, Int.reduceToNat, reduceCtorEq, Nat.reduceLeDiff, Nat.reduceSub, Nat.reduceDiv, Nat.reduceMod, Nat.reduceMul, d1342_b0, rwS, hl]
    · rw [if_neg h] at g ⊢
      simp (config := { maxSteps := 1000000 }) (disch := omega) only [go_sem, ↓reduceIte, Nat.reduceEqDiff, Nat.reduceAdd, Int.reduceToNat, reduceCtorEq, Nat.reduceLeDiff, Nat.reduceSub, Nat.reduceDiv, Nat.reduceMod, Nat.reduceMul, d1342, rwS, g]
  · rw [if_neg hc] at g ⊢
    simp (config := { maxSteps := 1000000 }) (disch := omega) only [go_sem, ↓reduceIte, Nat.reduceEqDiff, Nat.reduceAdd, Int.reduceToNat, reduceCtorEq, Nat.reduceLeDiff, Nat.reduceSub, Nat.reduceDiv, Nat.reduceMod, Nat.reduceMul, d1342, rwS, g]
theorem blT_cases (r : Rw) (s rad : Int) (L : List Int) : ∃ (M : List Int) (e : Int), blT r s rad L = .tup [.vec 1 (ints M), .int .i64 e] ∧ (M = [] ∨ M = L) := by
  unfold blT
  by_cases hc : chk r = true
  · rw [if_pos hc]
    by_cases h : 0 ≤ s ∧ s < plc r
    · rw [if_pos h]
      by_cases h0 : rad < 0
      · rw [if_pos h0]; exact ⟨[], 1, rfl, .inl rfl⟩
      · rw [if_neg h0]; exact ⟨L, 0, rfl, .inr rfl⟩
    · rw [if_neg h]; exact ⟨[], 1, rfl, .inl rfl⟩
  · rw [if_neg hc]; exact ⟨[], 40, rfl, .inl rfl⟩
theorem reach_run {r : Rw} {s : Int} {b : Bool} (hr : okR r) : runP tab 1337 [.agg (rwS r), .int .i64 s, .bool b] [] = some (blT r s 200 (ballL (nbr r b) s (plc r) 200 (plc r)), []) := by
  refine runP_fn t1337 rfl ?_
  have g := ball_run (s := s) (rad := 200) (b := b) hr
  obtain ⟨M, e, h, _⟩ := blT_cases r s 200 (ballL (nbr r b) s (plc r) 200 (plc r))
  rw [h] at g ⊢
  simp only [rwS] at g
  simp (config := { maxSteps := 1000000 }) (disch := omega) only [go_sem, ↓reduceIte, Nat.reduceEqDiff, Nat.reduceAdd, Int.reduceToNat, reduceCtorEq, Nat.reduceLeDiff, Nat.reduceSub, Nat.reduceDiv, Nat.reduceMod, Nat.reduceMul, d1337, rwS, g]
theorem rreach_run {r : Rw} {s : Int} {b : Bool} (hr : okR r) : runP tab 1338 [.agg (rwS r), .int .i64 s, .bool b] [] = some (blT r s 200 (ballL (nbr r b) s (plc r) 200 (plc r)), []) := by
  refine runP_fn t1338 rfl ?_
  have g := rball_run (s := s) (rad := 200) (b := b) hr
  obtain ⟨M, e, h, _⟩ := blT_cases r s 200 (ballL (nbr r b) s (plc r) 200 (plc r))
  rw [h] at g ⊢
  simp only [rwS] at g
  simp (config := { maxSteps := 1000000 }) (disch := omega) only [go_sem, ↓reduceIte, Nat.reduceEqDiff, Nat.reduceAdd, Int.reduceToNat, reduceCtorEq, Nat.reduceLeDiff, Nat.reduceSub, Nat.reduceDiv, Nat.reduceMod, Nat.reduceMul, d1338, rwS, g]
end Go.Proofs.Ytgjahkebhlphgaa
