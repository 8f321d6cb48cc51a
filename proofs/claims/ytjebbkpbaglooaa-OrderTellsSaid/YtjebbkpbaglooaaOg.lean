/- Layer 11: the document's rows; OrderBack. -/
import Derived.Test.YtjebbkpbaglooaaOf
import Derived.Test.YtjebbkpbaglooaaLb
namespace Go.Proofs.Ytjebbkpbaglooaa
set_option linter.unusedSimpArgs false
set_option linter.unusedVariables false
set_option maxHeartbeats 4000000
set_option maxRecDepth 100000
def R11 : Rw := ⟨[0, 1, 2, 3], [1, 0, 1], [0, 1, 3, 3], [1, 0, 2]⟩
theorem R11_ok : okR R11 := ⟨by decide, by decide, by decide, by decide⟩
theorem R11_chk : chk R11 = true := chkK (by decide)
theorem E11_ok : okE 3 [(0, 1), (1, 0), (2, 1)] := ⟨by decide, by decide, by decide, fun i hi => by
  match i, hi with
  | 0, _ => decide
  | 1, _ => decide
  | 2, _ => decide, fun i hi => by
  match i, hi with
  | 0, _ => decide
  | 1, _ => decide⟩
theorem R11_by : byA R11 = [1, 0, 2] := by
  have e : wpr (edU R11 (R11.off.length - 1)) (R11.off.length - 1) = [(2, 0), (3, 1), (1, 2)] := by decide
  have s : srtd ltP [((3 : Int), (1 : Int)), (2, 0), (1, 2)] := by
    unfold srtd
    decide
  rw [byA, e, srtd_uni ordrP (sorted_srtd ordrP [((2 : Int), (0 : Int)), (3, 1), (1, 2)]) s ((sorted_perm _).trans (by decide))]
  rfl
theorem isO_yes {l : List Int} (h : OrdL l) : isO l = true := by simp [isO, h]
theorem ordL_small {l : List Int} (h : (l.all fun x => decide (0 ≤ x ∧ x < l.length)) = true) (h2 : l.Nodup) : OrdL l :=
  ⟨fun x hx => by simpa using List.all_eq_true.1 h x hx, h2⟩
theorem exm_run : runP tab 1185 [] [] = some (.bool true, []) := by
  refine runP_fn t1185 rfl ?_
  have g1 : runP tab 1198 [.agg (grS 3 [(0, 1), (1, 0), (2, 1)])] [] = some (.tup [.agg [.vec 1 (ints R11.off), .vec 1 (ints R11.to), .vec 1 (ints R11.roff), .vec 1 (ints R11.rev)], .int .i64 0], []) := make_run E11_ok
  have g2 := by_run R11_ok
  rw [toldB, if_pos R11_chk, R11_by] at g2
  have g3 := nth_run (n := 3) (k := 0) ⟨by decide, by decide⟩ ⟨by decide, by decide⟩
  rw [nthA, if_pos (by decide), show nthR (3 : Int).toNat (upI (3 : Int).toNat) (0 : Int).toNat = [0, 1, 2] by decide] at g3
  have g4 := nth_run (n := 3) (k := 3) ⟨by decide, by decide⟩ ⟨by decide, by decide⟩
  rw [nthA, if_pos (by decide), show nthR (3 : Int).toNat (upI (3 : Int).toNat) (3 : Int).toNat = [1, 2, 0] by decide] at g4
  have g5 := nth_run (n := 3) (k := 6) ⟨by decide, by decide⟩ ⟨by decide, by decide⟩
  rw [nthA, if_neg (by decide)] at g5
  have g6 := turns_run (l := [1, 2, 0]) (by decide)
  rw [turA, if_pos ⟨by decide, isO_yes (ordL_small (by decide) (by decide))⟩, show rankR (upI ([1, 2, 0] : List Int).length) [1, 2, 0] = 3 by decide] at g6
  have g7 := isord_run (l := [1, 0, 2]) (n := 3) (by decide)
  have g8 := isord_run (l := [1, 0, 2]) (n := 4) (by decide)
  have o1 : isO [1, 0, 2] = true := isO_yes (ordL_small (by decide) (by decide))
  rw [show isN [1, 0, 2] 3 = true by simp [isN, o1]] at g7
  rw [show isN [1, 0, 2] 4 = false by simp [isN]] at g8
  have i1 := ints_run (a := [1, 0, 2]) (b := [1, 0, 2]) (by decide) (by decide)
  have i2 := ints_run (a := [0, 1, 2]) (b := [0, 1, 2]) (by decide) (by decide)
  have i3 := ints_run (a := [1, 2, 0]) (b := [1, 2, 0]) (by decide) (by decide)
  simp only [beq_self_eq_true, ints, List.map_cons, List.map_nil] at g2 g3 g4 g5 g6 g7 g8 i1 i2 i3
  simp only [grS, prs, List.flatMap_cons, List.flatMap_nil, List.cons_append, List.nil_append, nls, List.replicate, Int.cast_ofNat_Int] at g1
  simp only [rwS, R11, ints, List.map_cons, List.map_nil] at g1 g2
  simp (config := { maxSteps := 1000000 }) (disch := omega) only [go_sem, ↓reduceIte, Nat.reduceEqDiff, Nat.reduceAdd, Int.reduceToNat, reduceCtorEq, Nat.reduceLeDiff, Nat.reduceSub, Nat.reduceDiv, Nat.reduceMod, Nat.reduceMul, d1185, g1, g2, g3, g4, g5, g6, g7, g8, i1, i2, i3]
end Go.Proofs.Ytjebbkpbaglooaa
