/- Layer 4: what the document tells of rows. -/
import Derived.Test.YtmeakgiojhoofaaIa
import Derived.Test.YtmeakgiojhoofaaHz
namespace Go.Proofs.Ytmeakgiojhoofaa
set_option linter.unusedSimpArgs false
set_option linter.unusedVariables false
set_option maxHeartbeats 4000000
set_option maxRecDepth 100000
theorem prs_snoc (l : List Ed) (a b : Int) : prs l ++ [.int .i64 a, .int .i64 b] = prs (l ++ [(a, b)]) := by rw [← prs_app]; rfl
def edV (r : Rw) (v : Nat) : List Ed := (rowI r.off r.to v).map fun w => ((v : Int), w)
def edU (r : Rw) (v : Nat) : List Ed := (List.range v).flatMap (edV r)
theorem edU_succ (r : Rw) (v : Nat) : edU r (v + 1) = edU r v ++ edV r v := by simp [edU, List.range_succ]
theorem edU_len {r : Rw} (f : half r.off r.to) : ∀ {v : Nat}, v < r.off.length → (edU r v).length = oi r.off v
  | 0, _ => by rw [f.oz]; rfl
  | v + 1, h => by
    rw [edU_succ, List.length_append, edU_len f (by omega), edV, List.length_map, f.row_len h]
    have := f.om h
    omega
noncomputable def toldE (r : Rw) : AV := if chk r = true then .tup [.vec 2 (prs (edU r (r.off.length - 1))), .int .i64 0] else .tup [.vec 2 [], .int .i64 40]
theorem eds_at (a b : List Ed) (hl : a.length = b.length) : (∀ i, i < a.length → a.getD i default = b.getD i default) ∧ decide (a = b) = true ∨ ∃ n, n < a.length ∧ (∀ i, i < n → a.getD i default = b.getD i default) ∧ a.getD n default ≠ b.getD n default ∧ decide (a = b) = false := by
  rcases first_ix' (fun i => a.getD i default = b.getD i default) a.length with h | ⟨m, h1, h2, h3⟩
  · refine .inl ⟨h, ?_⟩
    rw [decide_eq_true_eq]
    refine List.ext_getElem hl fun i h1 h2 => ?_
    have := h i h1
    rw [List.getD_eq_getElem?_getD, List.getD_eq_getElem?_getD, List.getElem?_eq_getElem h1, List.getElem?_eq_getElem h2] at this
    exact this
  · exact .inr ⟨m, h1, h2, h3, by rw [decide_eq_false_iff_not]; rintro rfl; exact h3 rfl⟩
theorem ed_beq (a b : Ed) : (decide (a.1 = b.1) && decide (a.2 = b.2)) = decide (a = b) := by
  rw [← Bool.decide_and]; congr 1; exact propext Prod.ext_iff.symm
theorem seds_run {a b : List Ed} (ha : a.length ≤ 1000000) (hb : b.length ≤ 1000000) : runP tab 1331 [.sl 2 (prs a), .sl 2 (prs b)] [] = some (.bool (decide (a = b)), []) := by
  refine runP_fn t1331 rfl ?_
  by_cases hl : a.length = b.length
  · simp (config := { maxSteps := 1000000 }) (disch := omega) only [go_sem, ↓reduceIte, Nat.reduceEqDiff, Nat.reduceAdd, Int.reduceToNat, reduceCtorEq, Nat.reduceLeDiff, Nat.reduceSub, Nat.reduceDiv, Nat.reduceMod, Nat.reduceMul, d1331]
    rcases eds_at a b hl with ⟨h1, h2⟩ | ⟨k, h0, h1, h2, h3⟩
    · refine Ev_loop0 (fun i => ⟨[(0, .sl 2 (prs a)), (1, .sl 2 (prs b)), (5, .int .i64 (i : Int))], [], 0, [(0, 0, [0, 1, 5], [])]⟩) a.length rfl (fun i hi => ?_) ?_
      · have e1 := prs_at (l := a) hi
        have e2 := prs_at (l := b) (i := i) (by omega)
        have := h1 i (by omega)
        rw [← this] at e2
        simp (config := { maxSteps := 1000000 }) (disch := omega) only [go_sem, ↓reduceIte, Nat.reduceEqDiff, Nat.reduceAdd, Int.reduceToNat, reduceCtorEq, Nat.reduceLeDiff, Nat.reduceSub, Nat.reduceDiv, Nat.reduceMod, Nat.reduceMul, d1331_b0, e1, e2, aeqL, aeq, encA, digA]
      · simp (config := { maxSteps := 1000000 }) (disch := omega) only [go_sem, ↓reduceIte, Nat.reduceEqDiff, Nat.reduceAdd, Int.reduceToNat, reduceCtorEq, Nat.reduceLeDiff, Nat.reduceSub, Nat.reduceDiv, Nat.reduceMod, Nat.reduceMul, d1331_b0, h2]
    · refine Ev_loop0 (fun i => ⟨[(0, .sl 2 (prs a)), (1, .sl 2 (prs b)), (5, .int .i64 (i : Int))], [], 0, [(0, 0, [0, 1, 5], [])]⟩) k rfl (fun i hi => ?_) ?_
      · have e1 := prs_at (l := a) (i := i) (by omega)
        have e2 := prs_at (l := b) (i := i) (by omega)
        have := h1 i (by omega)
        rw [← this] at e2
        simp (config := { maxSteps := 1000000 }) (disch := omega) only [go_sem, ↓reduceIte, Nat.reduceEqDiff, Nat.reduceAdd, Int.reduceToNat, reduceCtorEq, Nat.reduceLeDiff, Nat.reduceSub, Nat.reduceDiv, Nat.reduceMod, Nat.reduceMul, d1331_b0, e1, e2, aeqL, aeq, encA, digA]
      · have e1 := prs_at (l := a) (i := k) (by omega)
        have e2 := prs_at (l := b) (i := k) (by omega)
        have hne : (decide ((a.getD k default).1 = (b.getD k default).1) && decide ((a.getD k default).2 = (b.getD k default).2)) = false := by rw [ed_beq, decide_eq_false h2]
        generalize a.getD k default = x at *
        generalize b.getD k default = y at *
        simp (config := { maxSteps := 1000000 }) (disch := omega) only [go_sem, ↓reduceIte, Nat.reduceEqDiff, Nat.reduceAdd, Int.reduceToNat, reduceCtorEq, Nat.reduceLeDiff, Nat.reduceSub, Nat.reduceDiv, Nat.reduceMod, Nat.reduceMul, d1331_b0, e1, e2, h3, aeqL, aeq, encA, digA, hne]
  · have h : decide (a = b) = false := by rw [decide_eq_false_iff_not]; rintro rfl; exact hl rfl
    simp (config := { maxSteps := 1000000 }) (disch := omega) only [go_sem, ↓reduceIte, Nat.reduceEqDiff, Nat.reduceAdd, Int.reduceToNat, reduceCtorEq, Nat.reduceLeDiff, Nat.reduceSub, Nat.reduceDiv, Nat.reduceMod, Nat.reduceMul, d1331, h]
end Go.Proofs.Ytmeakgiojhoofaa
