/- Levels, balls and fronts, told. -/
import Derived.Test.YtgjahkebhlphgaaVh
namespace Go.Proofs.Ytgjahkebhlphgaa
set_option linter.unusedSimpArgs false
set_option linter.unusedVariables false
set_option maxHeartbeats 4000000
set_option maxRecDepth 100000
theorem lev_lt {r : Rw} (ok : r.ok) (b : Bool) {s : Nat} (h : s < plc r) (v : Int) : lev (nbr r b) s v ≤ 200 := by
  have hi := ok.f.hi
  rcases lev_cases (nbr r b) s v with ⟨k, hk, e⟩ | ⟨_, e⟩
  · have := dsk_lt (nbr_plc ok b) (s := (s : Int)) ⟨by omega, by omega⟩ hk
    rw [e]
    unfold plc at this
    omega
  · omega
theorem uplv_all {r : Rw} (ok : r.ok) (b : Bool) {s : Nat} (h : s < plc r) : uplv (nbr r b) s (plc r) 200 = levs (nbr r b) s (plc r) := by
  refine gi_ext (by rw [uplv_len, levs_len]) fun i hi => ?_
  rw [uplv_len] at hi
  rw [uplv_at hi, if_pos (lev_lt ok b h _)]
  have := levs_at (nb := nbr r b) (s := (s : Int)) (n := plc r) (x := (i : Int)) (by omega) (by omega)
  rw [Int.toNat_natCast] at this
  exact this.symm
theorem pchk_one {r : Rw} {s : Int} (hc : chk r = true) (h : ¬ (0 ≤ s ∧ s < plc r)) (hr : r.ok) : pchk r [s] = 1 := by
  have := hr.f.lo
  unfold plc at h
  rw [pchk, if_pos hc, if_neg]
  simp [allPl]; omega
theorem pchk_no {r : Rw} {l : List Int} (hc : ¬ chk r = true) : pchk r l = 40 := by rw [pchk, if_neg hc]
theorem upTo_bad {r : Rw} {s rad : Int} {b : Bool} (hr : okR r) (h : pchk r [s] ≠ 0) : runP tab 1353 [.agg (rwS r), .int .i64 s, .int .i64 rad, .bool b] [] = some (.tup [.vec 1 (ints []), .int .i64 (pchk r [s])], []) := by
  refine runP_fn t1353 rfl ?_
  have g1 := pcheck_run (r := r) (l := [s]) hr (by simp)
  rw [show ints [s] = [.int .i64 s] from rfl] at g1
  simp only [rwS] at g1
  generalize pchk r [s] = e at *
  simp (config := { maxSteps := 1000000 }) (disch := omega) only [go_sem, ↓reduceIte, Nat.reduceEqDiff, Nat.reduceAdd, Int.reduceToNat, reduceCtorEq, Nat.reduceLeDiff, Nat.reduceSub, Nat.reduceDiv, Nat.reduceMod, Nat.reduceMul, d1353, rwS, g1]
  rfl
theorem upTo_told {r : Rw} {s rad : Int} {b : Bool} (hr : okR r) : runP tab 1353 [.agg (rwS r), .int .i64 s, .int .i64 rad, .bool b] [] = some (lvT r s (uplv (nbr r b) s (plc r) rad), []) := by
  unfold lvT
  by_cases hc : chk r = true
  · have ok := chk_iff.1 hc
    rw [if_pos hc]
    by_cases h : 0 ≤ s ∧ s < plc r
    · rw [if_pos h]
      obtain ⟨n, rfl⟩ : ∃ n : Nat, s = n := ⟨s.toNat, by omega⟩
      exact upTo_run hr hc (by omega)
    · rw [if_neg h]
      have := pchk_one hc h ok
      rw [upTo_bad hr (by omega), this]; rfl
  · rw [if_neg hc]
    have := pchk_no (l := [s]) hc
    rw [upTo_bad hr (by omega), this]; rfl
theorem lvT_congr {r : Rw} {s : Int} {L M : List Int} (h : r.ok → 0 ≤ s → s < plc r → L = M) : lvT r s L = lvT r s M := by
  unfold lvT
  by_cases hc : chk r = true
  · rw [if_pos hc, if_pos hc]
    by_cases h2 : 0 ≤ s ∧ s < plc r
    · rw [if_pos h2, if_pos h2, h (chk_iff.1 hc) h2.1 h2.2]
    · rw [if_neg h2, if_neg h2]
  · rw [if_neg hc, if_neg hc]
theorem levels_run {r : Rw} {s : Int} {b : Bool} (hr : okR r) : runP tab 1335 [.agg (rwS r), .int .i64 s, .bool b] [] = some (lvT r s (levs (nbr r b) s (plc r)), []) := by
  refine runP_fn t1335 rfl ?_
  have g := upTo_told (s := s) (rad := 200) (b := b) hr
  rw [lvT_congr (M := levs (nbr r b) s (plc r)) (fun ok h1 h2 => by
    obtain ⟨n, rfl⟩ : ∃ n : Nat, s = n := ⟨s.toNat, by omega⟩
    exact uplv_all ok b (by omega))] at g
  unfold lvT at *
  simp only [rwS] at g
  by_cases hc : chk r = true
  · rw [if_pos hc] at g ⊢
    by_cases h : 0 ≤ s ∧ s < plc r
    · rw [if_pos h] at g ⊢
      simp (config := { maxSteps := 1000000 }) (disch := omega) only [go_sem, ↓reduceIte, Nat.reduceEqDiff, Nat.reduceAdd, Int.reduceToNat, reduceCtorEq, Nat.reduceLeDiff, Nat.reduceSub, Nat.reduceDiv, Nat.reduceMod, Nat.reduceMul, d1335, rwS, g]
    · rw [if_neg h] at g ⊢
      simp (config := { maxSteps := 1000000 }) (disch := omega) only [go_sem, ↓reduceIte, Nat.reduceEqDiff, Nat.reduceAdd, Int.reduceToNat, reduceCtorEq, Nat.reduceLeDiff, Nat.reduceSub, Nat.reduceDiv, Nat.reduceMod, Nat.reduceMul, d1335, rwS, g]
  · rw [if_neg hc] at g ⊢
    simp (config := { maxSteps := 1000000 }) (disch := omega) only [go_sem, ↓reduceIte, Nat.reduceEqDiff, Nat.reduceAdd, Int.reduceToNat, reduceCtorEq, Nat.reduceLeDiff, Nat.reduceSub, Nat.reduceDiv, Nat.reduceMod, Nat.reduceMul, d1335, rwS, g]
theorem rlevels_run {r : Rw} {s : Int} {b : Bool} (hr : okR r) : runP tab 1336 [.agg (rwS r), .int .i64 s, .bool b] [] = some (lvT r s (levs (nbr r b) s (plc r)), []) := by
  unfold lvT
  have ge := eds_run (b := b) hr
  simp only [rwS] at ge
  by_cases hc : chk r = true
  · have ok := chk_iff.1 hc
    have lo := ok.f.lo
    have hi := ok.f.hi
    have hn : ((r.off.length : Int) - 1) = (plc r : Int) := by unfold plc; omega
    rw [if_pos hc] at ge ⊢
    by_cases h : 0 ≤ s ∧ s < plc r
    · rw [if_pos h]
      obtain ⟨n, rfl⟩ : ∃ n : Nat, s = n := ⟨s.toNat, by omega⟩
      exact rlevels_ok hr hc (by omega)
    · rw [if_neg h]
      refine runP_fn t1336 rfl ?_
      by_cases h0 : s < 0
      · simp (config := { maxSteps := 1000000 }) (disch := omega) only [go_sem, ↓reduceIte, Nat.reduceEqDiff, Nat.reduceAdd, Int.reduceToNat, reduceCtorEq, Nat.reduceLeDiff, Nat.reduceSub, Nat.reduceDiv, Nat.reduceMod, Nat.reduceMul, d1336, rwS, ge, hn]
      · simp (config := { maxSteps := 1000000 }) (disch := omega) only [go_sem, ↓reduceIte, Nat.reduceEqDiff, Nat.reduceAdd, Int.reduceToNat, reduceCtorEq, Nat.reduceLeDiff, Nat.reduceSub, Nat.reduceDiv, Nat.reduceMod, Nat.reduceMul, d1336, rwS, ge, hn]
  · rw [if_neg hc] at ge ⊢
    refine runP_fn t1336 rfl ?_
    simp (config := { maxSteps := 1000000 }) (disch := omega) only [go_sem, ↓reduceIte, Nat.reduceEqDiff, Nat.reduceAdd, Int.reduceToNat, reduceCtorEq, Nat.reduceLeDiff, Nat.reduceSub, Nat.reduceDiv, Nat.reduceMod, Nat.reduceMul, d1336, rwS, ge]
end Go.Proofs.Ytgjahkebhlphgaa
