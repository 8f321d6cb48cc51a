/- Layer 7: the document's rows; LevelTells. -/
import Derived.Test.YtgjahkebhlphgaaVj
namespace Go.Proofs.Ytgjahkebhlphgaa
set_option linter.unusedSimpArgs false
set_option linter.unusedVariables false
set_option maxHeartbeats 4000000
set_option maxRecDepth 100000
theorem levs_by {r : Rw} (ok : r.ok) (b : Bool) {s : Nat} (h : s < plc r) : levs (nbr r b) s (plc r) = rounds (eds r b) ((List.replicate (plc r) (-1 : Int)).set s 0) (plc r) := by
  obtain ⟨k1, k2⟩ := eds_ok ok b
  have := rounds_levs (nbr_plc ok b) (s := (s : Int)) ⟨by omega, by omega⟩ k1 k2
  rw [Int.toNat_natCast] at this
  exact this.symm
theorem ball_by (nb : Int → List Int) (s : Int) (n : Nat) (rad : Int) : ballL nb s n rad n = ((List.range n).filter fun i : Nat => decide (0 ≤ gi (levs nb s n) i ∧ gi (levs nb s n) i ≤ rad)).map fun i : Nat => (i : Int) := by
  unfold ballL
  congr 1
  refine List.filter_congr fun i hi => ?_
  have hi : i < n := by simpa using hi
  have := levs_at (nb := nb) (s := s) (n := n) (x := (i : Int)) (by omega) (by omega)
  rw [Int.toNat_natCast] at this
  rw [this]
theorem lvT_yes {r : Rw} {s : Int} {L : List Int} (h : chk r = true) (h2 : 0 ≤ s ∧ s < plc r) : lvT r s L = .tup [.vec 1 (ints L), .int .i64 0] := by rw [lvT, if_pos h, if_pos h2]
theorem lvT_far {r : Rw} {s : Int} {L : List Int} (h : chk r = true) (h2 : ¬ (0 ≤ s ∧ s < plc r)) : lvT r s L = .tup [.vec 1 [], .int .i64 1] := by rw [lvT, if_pos h, if_neg h2]
theorem lvT_no {r : Rw} {s : Int} {L : List Int} (h : ¬ chk r = true) : lvT r s L = .tup [.vec 1 [], .int .i64 40] := by rw [lvT, if_neg h]
def R7 : Rw := ⟨[0, 2, 3, 3, 4], [1, 2, 2, 0], [0, 1, 2, 4, 4], [3, 0, 0, 1]⟩
theorem R7_ok : okR R7 := ⟨by decide, by decide, by decide, by decide⟩
theorem R7_chk : chk R7 = true := chkK (by decide)
theorem E7_ok : okE 4 [(0, 1), (0, 2), (1, 2), (3, 0)] := ⟨by decide, by decide, by decide, fun i hi => by
  match i, hi with
  | 0, _ => decide
  | 1, _ => decide
  | 2, _ => decide
  | 3, _ => decide, fun i hi => by
  match i, hi with
  | 0, _ => decide
  | 1, _ => decide
  | 2, _ => decide⟩
def R0 : Rw := ⟨[], [], [], []⟩
theorem R0_ok : okR R0 := ⟨by decide, by decide, by decide, by decide⟩
theorem R0_chk : ¬ chk R0 = true := by
  rw [chk_iff]
  intro h
  have := h.f.lo
  simp [R0] at this
theorem lvls_run : runP tab 1343 [] [] = some (.bool true, []) := by
  refine runP_fn t1343 rfl ?_
  have ok := chk_iff.1 R7_chk
  have hp : plc R7 = 4 := rfl
  have g1 : runP tab 1198 [.agg (grS 4 [(0, 1), (0, 2), (1, 2), (3, 0)])] [] = some (.tup [.agg [.vec 1 (ints R7.off), .vec 1 (ints R7.to), .vec 1 (ints R7.roff), .vec 1 (ints R7.rev)], .int .i64 0], []) := make_run E7_ok
  have g2 := levels_run (s := 0) (b := false) R7_ok
  rw [lvT_yes R7_chk (by decide), show levs (nbr R7 false) 0 (plc R7) = [0, 1, 1, -1] from (levs_by ok false (s := 0) (by decide)).trans (by decide)] at g2
  have g3 := levels_run (s := 0) (b := true) R7_ok
  rw [lvT_yes R7_chk (by decide), show levs (nbr R7 true) 0 (plc R7) = [0, -1, -1, 1] from (levs_by ok true (s := 0) (by decide)).trans (by decide)] at g3
  have g4 := front_run (l := [0, 1]) (b := false) R7_ok (by decide)
  have e4 : pchk R7 [0, 1] = 0 := by rw [pchk, if_pos R7_chk]; decide
  rw [frT, if_pos e4, show frontL R7 false [0, 1] = [1, 2] by decide] at g4
  have g5 := ball_run (s := 3) (rad := 1) (b := false) R7_ok
  have e5 : levs (nbr R7 false) 3 (plc R7) = [1, 2, 2, 0] := (levs_by ok false (s := 3) (by decide)).trans (by decide)
  rw [blT, if_pos R7_chk, if_pos (by decide), if_neg (by decide), ball_by, e5, show ((List.range (plc R7)).filter fun i : Nat => decide (0 ≤ gi [1, 2, 2, 0] i ∧ gi [1, 2, 2, 0] i ≤ 1)).map (fun i : Nat => (i : Int)) = [0, 3] by decide] at g5
  have g6 := levels_run (s := 4) (b := false) R7_ok
  rw [lvT_far R7_chk (by decide)] at g6
  have g7 := levels_run (s := 0) (b := false) R0_ok
  rw [lvT_no R0_chk] at g7
  have i1 := ints_run (a := [0, 1, 1, -1]) (b := [0, 1, 1, -1]) (by decide) (by decide)
  have i2 := ints_run (a := [0, -1, -1, 1]) (b := [0, -1, -1, 1]) (by decide) (by decide)
  have i3 := ints_run (a := [1, 2]) (b := [1, 2]) (by decide) (by decide)
  have i4 := ints_run (a := [0, 3]) (b := [0, 3]) (by decide) (by decide)
  simp only [beq_self_eq_true, ints, List.map_cons, List.map_nil] at g2 g3 g4 g5 i1 i2 i3 i4
  simp only [grS, prs, List.flatMap_cons, List.flatMap_nil, List.cons_append, List.nil_append, nls, List.replicate, Int.cast_ofNat_Int] at g1
  simp only [rwS, R7, R0, ints, List.map_cons, List.map_nil] at g1 g2 g3 g4 g5 g6 g7
  simp (config := { maxSteps := 1000000 }) (disch := omega) only [go_sem, ↓reduceIte, Nat.reduceEqDiff, Nat.reduceAdd, Int.reduceToNat, reduceCtorEq, Nat.reduceLeDiff, Nat.reduceSub, Nat.reduceDiv, Nat.reduceMod, Nat.reduceMul, d1343, g1, g2, g3, g4, g5, g6, g7, i1, i2, i3, i4]
end Go.Proofs.Ytgjahkebhlphgaa
