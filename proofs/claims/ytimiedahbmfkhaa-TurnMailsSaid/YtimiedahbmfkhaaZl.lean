/- Layer 17: the document's Mails; messages alike. -/
import Derived.Test.YtimiedahbmfkhaaZj
namespace Go.Proofs.Ytimiedahbmfkhaa
set_option linter.unusedSimpArgs false
set_option linter.unusedVariables false
set_option maxHeartbeats 4000000
set_option maxRecDepth 100000
theorem mls_at2 (a b : List Ml) (hl : a.length = b.length) : (∀ i, i < a.length → a.getD i default = b.getD i default) ∧ a = b ∨ ∃ n, n < a.length ∧ (∀ i, i < n → a.getD i default = b.getD i default) ∧ a.getD n default ≠ b.getD n default ∧ a ≠ b := by
  rcases first_ix (fun i => a.getD i default = b.getD i default) a.length with h | ⟨m, h1, h2, h3⟩
  · refine .inl ⟨h, List.ext_getElem hl fun i x y => ?_⟩
    have := h i x
    rwa [List.getD_eq_getElem?_getD, List.getD_eq_getElem?_getD, List.getElem?_eq_getElem x, List.getElem?_eq_getElem y] at this
  · exact .inr ⟨m, h1, h2, h3, by rintro rfl; exact h3 rfl⟩
theorem ml_enc (a b c d : Int) : encA [.int .i64 a, .int .i64 b, .int .i64 c, .int .i64 d] = 40 := rfl
theorem ml_eq (x y : Ml) : aeqL [.int .i64 x.s, .int .i64 x.b, .int .i64 x.v, .int .i64 x.d] [.int .i64 y.s, .int .i64 y.b, .int .i64 y.v, .int .i64 y.d] = some (decide (x = y)) := by
  obtain ⟨a, b, c, d⟩ := x
  obtain ⟨e, f, g, h⟩ := y
  simp only [aeqL, aeq, if_true, Option.bind_some, Option.map_some, Bool.and_true, Option.some.injEq]
  rw [Bool.eq_iff_iff]
  simp only [Bool.and_eq_true, beq_iff_eq, decide_eq_true_eq, Ml.mk.injEq]
theorem same16_run {a b : List Ml} (ha : a.length ≤ 1000000) (hb : b.length ≤ 1000000) : runP tab 1120 [.sl 4 (mls a), .sl 4 (mls b)] [] = some (.bool (decide (a = b)), []) := by
  refine runP_fn t1120 rfl ?_
  by_cases hl : a.length = b.length
  · simp (config := { maxSteps := 1000000 }) (disch := omega) only [go_sem, ↓reduceIte, Nat.reduceEqDiff, Nat.reduceAdd, Int.reduceToNat, reduceCtorEq, Nat.reduceLeDiff, Nat.reduceSub, Nat.reduceDiv, Nat.reduceMod, Nat.reduceMul, d1120]
    rcases mls_at2 a b hl with ⟨h1, h2⟩ | ⟨k, h0, h1, h2, h3⟩
    · rw [decide_eq_true h2]
      refine Ev_loop0 (fun i => ⟨[(0, .sl 4 (mls a)), (1, .sl 4 (mls b)), (5, .int .i64 (i : Int))], [], 0, [(0, 0, [0, 1, 5], [])]⟩) a.length rfl (fun i hi => ?_) ?_
      · have e := h1 i (by omega)
        have q1 := mls_at (l := a) hi
        have q2 := mls_at (l := b) (show i < b.length by omega)
        rw [e] at q1
        simp only [mlC] at q1 q2
        have qe := ml_eq (b.getD i default) (b.getD i default)
        rw [decide_eq_true rfl] at qe
        simp (config := { maxSteps := 1000000 }) (disch := omega) only [go_sem, ↓reduceIte, Nat.reduceEqDiff, Nat.reduceAdd, Int.reduceToNat, reduceCtorEq, Nat.reduceLeDiff, Nat.reduceSub, Nat.reduceDiv, Nat.reduceMod, Nat.reduceMul, d1120_b0, q1, q2, ml_enc, qe]
      · simp (config := { maxSteps := 1000000 }) (disch := omega) only [go_sem, ↓reduceIte, Nat.reduceEqDiff, Nat.reduceAdd, Int.reduceToNat, reduceCtorEq, Nat.reduceLeDiff, Nat.reduceSub, Nat.reduceDiv, Nat.reduceMod, Nat.reduceMul, d1120_b0]
    · rw [decide_eq_false h3]
      refine Ev_loop0 (fun i => ⟨[(0, .sl 4 (mls a)), (1, .sl 4 (mls b)), (5, .int .i64 (i : Int))], [], 0, [(0, 0, [0, 1, 5], [])]⟩) k rfl (fun i hi => ?_) ?_
      · have e := h1 i (by omega)
        have q1 := mls_at (l := a) (show i < a.length by omega)
        have q2 := mls_at (l := b) (show i < b.length by omega)
        rw [e] at q1
        simp only [mlC] at q1 q2
        have qe := ml_eq (b.getD i default) (b.getD i default)
        rw [decide_eq_true rfl] at qe
        simp (config := { maxSteps := 1000000 }) (disch := omega) only [go_sem, ↓reduceIte, Nat.reduceEqDiff, Nat.reduceAdd, Int.reduceToNat, reduceCtorEq, Nat.reduceLeDiff, Nat.reduceSub, Nat.reduceDiv, Nat.reduceMod, Nat.reduceMul, d1120_b0, q1, q2, ml_enc, qe]
      · have q1 := mls_at (l := a) h0
        have q2 := mls_at (l := b) (show k < b.length by omega)
        simp only [mlC] at q1 q2
        generalize a.getD k default = x at *
        generalize b.getD k default = y at *
        have qe := ml_eq x y
        rw [decide_eq_false h2] at qe
        simp (config := { maxSteps := 1000000 }) (disch := omega) only [go_sem, ↓reduceIte, Nat.reduceEqDiff, Nat.reduceAdd, Int.reduceToNat, reduceCtorEq, Nat.reduceLeDiff, Nat.reduceSub, Nat.reduceDiv, Nat.reduceMod, Nat.reduceMul, d1120_b0, q1, q2, ml_enc, qe]
  · have h : decide (a = b) = false := decide_eq_false (by rintro rfl; exact hl rfl)
    simp (config := { maxSteps := 1000000 }) (disch := omega) only [go_sem, ↓reduceIte, Nat.reduceEqDiff, Nat.reduceAdd, Int.reduceToNat, reduceCtorEq, Nat.reduceLeDiff, Nat.reduceSub, Nat.reduceDiv, Nat.reduceMod, Nat.reduceMul, d1120, h]
end Go.Proofs.Ytimiedahbmfkhaa
