/- Layer 4: the document's rows. -/
import Derived.Test.YtmeakgiojhoofaaHx
namespace Go.Proofs.Ytmeakgiojhoofaa
set_option linter.unusedSimpArgs false
set_option linter.unusedVariables false
set_option maxHeartbeats 4000000
set_option maxRecDepth 100000
theorem dec_beq {α : Type} [DecidableEq α] [BEq α] [LawfulBEq α] (a b : α) : decide (a = b) = (a == b) := by
  by_cases h : a = b <;> simp [h]
theorem rsame_run {a b : Rw} (ha : okR a) (hb : okR b) : runP tab 1187 [.agg (rwS a), .agg (rwS b)] [] = some (.bool (decide (a = b)), []) := by
  refine runP_fn t1187 rfl ?_
  have g1 := ints_run (a := a.off) (b := b.off) (by have := ha.a; omega) (by have := hb.a; omega)
  have g2 := ints_run (a := a.to) (b := b.to) (by have := ha.b; omega) (by have := hb.b; omega)
  have g3 := ints_run (a := a.roff) (b := b.roff) (by have := ha.c; omega) (by have := hb.c; omega)
  have g4 := ints_run (a := a.rev) (b := b.rev) (by have := ha.d; omega) (by have := hb.d; omega)
  have e : decide (a = b) = ((a.off == b.off) && ((a.to == b.to) && ((a.roff == b.roff) && (a.rev == b.rev)))) := by
    cases a; cases b
    simp only [Rw.mk.injEq, Bool.decide_and]
    rw [dec_beq, dec_beq, dec_beq, dec_beq]
  rw [e]
  cases k1 : a.off == b.off <;> rw [k1] at g1
  · simp (config := { maxSteps := 1000000 }) (disch := omega) only [go_sem, ↓reduceIte, Nat.reduceEqDiff, Nat.reduceAdd, Int.reduceToNat, reduceCtorEq, Nat.reduceLeDiff, Nat.reduceSub, Nat.reduceDiv, Nat.reduceMod, Nat.reduceMul, d1187, rwS, g1, Bool.false_and]
  cases k2 : a.to == b.to <;> rw [k2] at g2
  · simp (config := { maxSteps := 1000000 }) (disch := omega) only [go_sem, ↓reduceIte, Nat.reduceEqDiff, Nat.reduceAdd, Int.reduceToNat, reduceCtorEq, Nat.reduceLeDiff, Nat.reduceSub, Nat.reduceDiv, Nat.reduceMod, Nat.reduceMul, d1187, rwS, g1, g2, Bool.false_and]
  cases k3 : a.roff == b.roff <;> rw [k3] at g3
  · simp (config := { maxSteps := 1000000 }) (disch := omega) only [go_sem, ↓reduceIte, Nat.reduceEqDiff, Nat.reduceAdd, Int.reduceToNat, reduceCtorEq, Nat.reduceLeDiff, Nat.reduceSub, Nat.reduceDiv, Nat.reduceMod, Nat.reduceMul, d1187, rwS, g1, g2, g3, Bool.false_and]
  cases k4 : a.rev == b.rev <;> rw [k4] at g4
  · simp (config := { maxSteps := 1000000 }) (disch := omega) only [go_sem, ↓reduceIte, Nat.reduceEqDiff, Nat.reduceAdd, Int.reduceToNat, reduceCtorEq, Nat.reduceLeDiff, Nat.reduceSub, Nat.reduceDiv, Nat.reduceMod, Nat.reduceMul, d1187, rwS, g1, g2, g3, g4]
  · simp (config := { maxSteps := 1000000 }) (disch := omega) only [go_sem, ↓reduceIte, Nat.reduceEqDiff, Nat.reduceAdd, Int.reduceToNat, reduceCtorEq, Nat.reduceLeDiff, Nat.reduceSub, Nat.reduceDiv, Nat.reduceMod, Nat.reduceMul, d1187, rwS, g1, g2, g3, g4]
theorem gcheck_zero : runP tab 1214 [.agg [.int .i64 0, .sl 1 [], .sl 1 []]] [] = some (.bool false, []) := by
  refine runP_fn t1214 rfl ?_
  simp (config := { maxSteps := 1000000 }) (disch := omega) only [go_sem, ↓reduceIte, Nat.reduceEqDiff, Nat.reduceAdd, Int.reduceToNat, reduceCtorEq, Nat.reduceLeDiff, Nat.reduceSub, Nat.reduceDiv, Nat.reduceMod, Nat.reduceMul, d1214]
theorem is_zero : runP tab 1208 [.agg [.int .i64 0, .sl 1 [], .sl 1 []]] [] = some (.bool false, []) := by
  refine runP_fn t1208 rfl ?_
  have g := gcheck_zero
  simp (config := { maxSteps := 1000000 }) (disch := omega) only [go_sem, ↓reduceIte, Nat.reduceEqDiff, Nat.reduceAdd, Int.reduceToNat, reduceCtorEq, Nat.reduceLeDiff, Nat.reduceSub, Nat.reduceDiv, Nat.reduceMod, Nat.reduceMul, d1208, g]
theorem make_zero : runP tab 1198 [.agg [.int .i64 0, .sl 1 [], .sl 1 []]] [] = some (.tup [.agg [.vec 1 [], .vec 1 [], .vec 1 [], .vec 1 []], .int .i64 20], []) := by
  refine runP_fn t1198 rfl ?_
  have g := is_zero
  simp (config := { maxSteps := 1000000 }) (disch := omega) only [go_sem, ↓reduceIte, Nat.reduceEqDiff, Nat.reduceAdd, Int.reduceToNat, reduceCtorEq, Nat.reduceLeDiff, Nat.reduceSub, Nat.reduceDiv, Nat.reduceMod, Nat.reduceMul, d1198, g]
def R4 : Rw := ⟨[0, 2, 2, 3], [1, 2, 1], [0, 0, 2, 3], [0, 2, 0]⟩
theorem R4_ok : okR R4 := ⟨by decide, by decide, by decide, by decide⟩
theorem R4_chk : chk R4 = true := chkK (by decide)
theorem E4_ok : okE 3 [(0, 1), (0, 2), (2, 1)] := ⟨by decide, by decide, by decide, fun i hi => by
  match i, hi with
  | 0, _ => decide
  | 1, _ => decide
  | 2, _ => decide, fun i hi => by
  match i, hi with
  | 0, _ => decide
  | 1, _ => decide⟩
theorem told_run : runP tab 1327 [] [] = some (.bool true, []) := by
  refine runP_fn t1327 rfl ?_
  have g1 : runP tab 1198 [.agg (grS 3 [(0, 1), (0, 2), (2, 1)])] [] = some (.tup [.agg [.vec 1 (ints R4.off), .vec 1 (ints R4.to), .vec 1 (ints R4.roff), .vec 1 (ints R4.rev)], .int .i64 0], []) := make_run E4_ok
  have g2 := make_zero
  have g3 := rsame_run R4_ok R4_ok
  have g4 := R4_ok.check
  have g5 := in_run (v := 1) R4_ok ⟨by decide, by decide⟩
  have g6 := has_run (v := 0) (w := 2) R4_ok ⟨by decide, by decide⟩ ⟨by decide, by decide⟩
  have g7 := has_run (v := 1) (w := 0) R4_ok ⟨by decide, by decide⟩ ⟨by decide, by decide⟩
  have g8 := ints_run (a := [0, 2]) (b := [0, 2]) (by decide) (by decide)
  rw [R4_chk] at g4
  rw [told1, R4_chk, if_pos ⟨rfl, by decide, by decide⟩, show rowI R4.roff R4.rev (Int.toNat 1) = [0, 2] by decide] at g5
  rw [show way R4 0 2 = true by rw [way, R4_chk]; decide] at g6
  rw [show way R4 1 0 = false by rw [way, R4_chk]; decide] at g7
  simp only [decide_true, beq_self_eq_true, ints, List.map_cons, List.map_nil] at g3 g8 g5
  simp only [grS, prs, List.flatMap_cons, List.flatMap_nil, List.cons_append, List.nil_append, nls, List.replicate, Int.cast_ofNat_Int] at g1
  simp only [rwS, R4, ints, List.map_cons, List.map_nil] at g1 g3 g4 g5 g6 g7
  simp (config := { maxSteps := 1000000 }) (disch := omega) only [go_sem, ↓reduceIte, Nat.reduceEqDiff, Nat.reduceAdd, Int.reduceToNat, reduceCtorEq, Nat.reduceLeDiff, Nat.reduceSub, Nat.reduceDiv, Nat.reduceMod, Nat.reduceMul, d1327, g1, g2, g3, g4, g5, g6, g7, g8]
end Go.Proofs.Ytmeakgiojhoofaa
namespace Go.Proofs.Ytmeakgiojhoofaa
set_option linter.unusedSimpArgs false
set_option linter.unusedVariables false
set_option maxHeartbeats 4000000
set_option maxRecDepth 100000
end Go.Proofs.Ytmeakgiojhoofaa
