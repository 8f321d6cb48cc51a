/- What may be a request: the program, the document. -/
import Derived.Test.YtcfhocnbpplecaaXp
namespace Go.Proofs.Ytcfhocnbpplecaa
set_option linter.unusedSimpArgs false
set_option linter.unusedVariables false
set_option maxHeartbeats 4000000
set_option maxRecDepth 100000
theorem strs_nil : strs [] = [] := rfl
def namedQ (r : Req) : Req := if r.kind = 1 ∨ r.kind = 2 then ⟨0, 0, r.kind, r.frm, r.to, [], 0, 0⟩ else if r.kind = 3 then ⟨0, 0, r.kind, r.frm, 0, r.words, r.radius, r.most⟩ else ⟨0, 0, r.kind, 0, 0, [], 0, 0⟩
def zQ : Req := ⟨0, 0, 0, 0, 0, [], 0, 0⟩
theorem sameL_iff {a b : Req} : sameL a b = true ↔ a.qk = b.qk ∧ a.frm = b.frm ∧ a.to = b.to ∧ a.words.length = b.words.length ∧ a.radius = b.radius ∧ a.most = b.most := decide_eq_true_iff
theorem chkB_iff {r : Req} : chkB r = true ↔ Q1 r ∨ Q3 r := decide_eq_true_iff
theorem sameQ_iff {a b : Req} : sameQ a b = true ↔ a.qk = b.qk ∧ a.frm = b.frm ∧ a.to = b.to ∧ a.words = b.words ∧ a.radius = b.radius ∧ a.most = b.most := by
  simp only [sameQ, Bool.and_eq_true, decide_eq_true_eq, beq_iff_eq]
theorem okQ_eq (r : Req) : okQ r = (decide (0 ≤ r.id ∧ r.id ≤ 2147483647) && if r.kind = 4 then sameL r zQ else sameL r (namedQ r) && chkB r) := by
  rw [Bool.eq_iff_iff, Bool.and_eq_true]
  rw [okQ, decide_eq_true_iff, decide_eq_true_iff]
  unfold ReqOk
  refine and_congr_right fun _ => ?_
  have hW : wordsB r.words = true ↔ (∀ w ∈ r.words, wordB w = true) ∧ 1 ≤ r.words.length ∧ r.words.length ≤ 8 := by
    simp only [wordsB, Bool.and_eq_true, List.all_eq_true, decide_eq_true_eq]
  unfold namedQ
  by_cases k4 : r.kind = 4
  · rw [if_pos k4]
    simp only [sameL_iff, zQ, Req1, Req3, Req4, List.length_nil]
    generalize (∀ w ∈ r.words, wordB w = true) = W
    by_cases hw : W <;> simp only [hw, true_and, false_and, and_true, and_false, or_false, false_or]
    all_goals (clear hW; constructor <;> intro h <;> omega)
  rw [if_neg k4]
  by_cases k12 : r.kind = 1 ∨ r.kind = 2
  · rw [if_pos k12]
    simp only [Bool.and_eq_true, sameL_iff, chkB_iff, Req1, Req3, Req4, Q1, Q3, List.length_nil, hW]
    generalize (∀ w ∈ r.words, wordB w = true) = W
    by_cases hw : W <;> simp only [hw, true_and, false_and, and_true, and_false, or_false, false_or] <;> (clear hW; constructor <;> intro h <;> omega)
  rw [if_neg k12]
  by_cases k3 : r.kind = 3
  · rw [if_pos k3]
    simp only [Bool.and_eq_true, sameL_iff, chkB_iff, Req1, Req3, Req4, Q1, Q3, List.length_nil, hW]
    generalize (∀ w ∈ r.words, wordB w = true) = W
    by_cases hw : W <;> simp only [hw, true_and, false_and, and_true, and_false, or_false, false_or] <;> (clear hW; constructor <;> intro h <;> omega)
  · rw [if_neg k3]
    simp only [Bool.and_eq_true, sameL_iff, chkB_iff, Req1, Req3, Req4, Q1, Q3, List.length_nil, hW]
    generalize (∀ w ∈ r.words, wordB w = true) = W
    by_cases hw : W <;> simp only [hw, true_and, false_and, and_true, and_false, or_false, false_or] <;> (clear hW; constructor <;> intro h <;> omega)
theorem rqmay_run {r : Req} (hw : okW r.words) : runP tab 1638 [.agg (reqS r)] [] = some (.bool (okQ r), []) := by
  refine runP_fn t1638 rfl ?_
  rw [okQ_eq]
  have gi := idmay_run r.id
  have gs := samel_run (a := r) (b := namedQ r) hw.1 (by have := hw.1; unfold namedQ; split <;> (try split) <;> simp <;> omega)
  have gz := samel_run (a := r) (b := zQ) hw.1 (by simp [zQ])
  have gc := check_run hw
  generalize decide (0 ≤ r.id ∧ r.id ≤ 2147483647) = i at *
  generalize hs : sameL r (namedQ r) = s at *
  generalize sameL r zQ = z at *
  generalize chkB r = c at *
  by_cases k4 : r.kind = 4
  · rw [if_pos k4]
    simp only [qryS, zQ, strs_nil] at gz
    cases i
    · simp (config := { maxSteps := 1000000 }) (disch := omega) only [go_sem, ↓reduceIte, Nat.reduceEqDiff, Nat.reduceAdd, Int.reduceToNat, reduceCtorEq, Nat.reduceLeDiff, Nat.reduceSub, Nat.reduceDiv, Nat.reduceMod, Nat.reduceMul, d1638, reqS, gi, Bool.false_and]
    · simp (config := { maxSteps := 1000000 }) (disch := omega) only [go_sem, ↓reduceIte, Nat.reduceEqDiff, Nat.reduceAdd, Int.reduceToNat, reduceCtorEq, Nat.reduceLeDiff, Nat.reduceSub, Nat.reduceDiv, Nat.reduceMod, Nat.reduceMul, d1638, reqS, gi, gz, Bool.true_and]
  rw [if_neg k4]
  by_cases k1 : r.kind = 1
  · simp only [namedQ, k1, true_or, if_true, qryS, strs_nil] at gs gc
    cases i
    · simp (config := { maxSteps := 1000000 }) (disch := omega) only [go_sem, ↓reduceIte, Nat.reduceEqDiff, Nat.reduceAdd, Int.reduceToNat, reduceCtorEq, Nat.reduceLeDiff, Nat.reduceSub, Nat.reduceDiv, Nat.reduceMod, Nat.reduceMul, d1638, reqS, k1, gi, Bool.false_and]
      rfl
    cases s
    · simp (config := { maxSteps := 1000000 }) (disch := omega) only [go_sem, ↓reduceIte, Nat.reduceEqDiff, Nat.reduceAdd, Int.reduceToNat, reduceCtorEq, Nat.reduceLeDiff, Nat.reduceSub, Nat.reduceDiv, Nat.reduceMod, Nat.reduceMul, d1638, reqS, k1, gi, gs, Bool.false_and, Bool.and_false]
      rfl
    cases c
    · simp only [chkI, Bool.false_eq_true, if_false] at gc
      simp (config := { maxSteps := 1000000 }) (disch := omega) only [go_sem, ↓reduceIte, Nat.reduceEqDiff, Nat.reduceAdd, Int.reduceToNat, reduceCtorEq, Nat.reduceLeDiff, Nat.reduceSub, Nat.reduceDiv, Nat.reduceMod, Nat.reduceMul, d1638, reqS, k1, gi, gs, gc, Bool.and_false]
      rfl
    · simp only [chkI, if_true] at gc
      simp (config := { maxSteps := 1000000 }) (disch := omega) only [go_sem, ↓reduceIte, Nat.reduceEqDiff, Nat.reduceAdd, Int.reduceToNat, reduceCtorEq, Nat.reduceLeDiff, Nat.reduceSub, Nat.reduceDiv, Nat.reduceMod, Nat.reduceMul, d1638, reqS, k1, gi, gs, gc, Bool.and_true]
      rfl
  by_cases k2 : r.kind = 2
  · simp only [namedQ, k2, or_true, if_true, qryS, strs_nil] at gs gc
    cases i
    · simp (config := { maxSteps := 1000000 }) (disch := omega) only [go_sem, ↓reduceIte, Nat.reduceEqDiff, Nat.reduceAdd, Int.reduceToNat, reduceCtorEq, Nat.reduceLeDiff, Nat.reduceSub, Nat.reduceDiv, Nat.reduceMod, Nat.reduceMul, d1638, reqS, k2, gi, Bool.false_and]
      rfl
    cases s
    · simp (config := { maxSteps := 1000000 }) (disch := omega) only [go_sem, ↓reduceIte, Nat.reduceEqDiff, Nat.reduceAdd, Int.reduceToNat, reduceCtorEq, Nat.reduceLeDiff, Nat.reduceSub, Nat.reduceDiv, Nat.reduceMod, Nat.reduceMul, d1638, reqS, k2, gi, gs, Bool.false_and, Bool.and_false]
      rfl
    cases c
    · simp only [chkI, Bool.false_eq_true, if_false] at gc
      simp (config := { maxSteps := 1000000 }) (disch := omega) only [go_sem, ↓reduceIte, Nat.reduceEqDiff, Nat.reduceAdd, Int.reduceToNat, reduceCtorEq, Nat.reduceLeDiff, Nat.reduceSub, Nat.reduceDiv, Nat.reduceMod, Nat.reduceMul, d1638, reqS, k2, gi, gs, gc, Bool.and_false]
      rfl
    · simp only [chkI, if_true] at gc
      simp (config := { maxSteps := 1000000 }) (disch := omega) only [go_sem, ↓reduceIte, Nat.reduceEqDiff, Nat.reduceAdd, Int.reduceToNat, reduceCtorEq, Nat.reduceLeDiff, Nat.reduceSub, Nat.reduceDiv, Nat.reduceMod, Nat.reduceMul, d1638, reqS, k2, gi, gs, gc, Bool.and_true]
      rfl
  by_cases k3 : r.kind = 3
  · simp only [namedQ, k3, show ¬ ((3 : Int) = 1 ∨ (3 : Int) = 2) by omega, if_false, if_true, qryS, strs_nil] at gs gc
    cases i
    · simp (config := { maxSteps := 1000000 }) (disch := omega) only [go_sem, ↓reduceIte, Nat.reduceEqDiff, Nat.reduceAdd, Int.reduceToNat, reduceCtorEq, Nat.reduceLeDiff, Nat.reduceSub, Nat.reduceDiv, Nat.reduceMod, Nat.reduceMul, d1638, reqS, k3, gi, Bool.false_and]
      simp [chkOk, lk, AV.ids, strs_idsL]
    cases s
    · simp (config := { maxSteps := 1000000 }) (disch := omega) only [go_sem, ↓reduceIte, Nat.reduceEqDiff, Nat.reduceAdd, Int.reduceToNat, reduceCtorEq, Nat.reduceLeDiff, Nat.reduceSub, Nat.reduceDiv, Nat.reduceMod, Nat.reduceMul, d1638, reqS, k3, gi, gs, Bool.false_and, Bool.and_false]
      simp [chkOk, lk, AV.ids, strs_idsL]
    cases c
    · simp only [chkI, Bool.false_eq_true, if_false] at gc
      simp (config := { maxSteps := 1000000 }) (disch := omega) only [go_sem, ↓reduceIte, Nat.reduceEqDiff, Nat.reduceAdd, Int.reduceToNat, reduceCtorEq, Nat.reduceLeDiff, Nat.reduceSub, Nat.reduceDiv, Nat.reduceMod, Nat.reduceMul, d1638, reqS, k3, gi, gs, gc, Bool.and_false]
      simp [chkOk, lk, AV.ids, strs_idsL]
    · simp only [chkI, if_true] at gc
      simp (config := { maxSteps := 1000000 }) (disch := omega) only [go_sem, ↓reduceIte, Nat.reduceEqDiff, Nat.reduceAdd, Int.reduceToNat, reduceCtorEq, Nat.reduceLeDiff, Nat.reduceSub, Nat.reduceDiv, Nat.reduceMod, Nat.reduceMul, d1638, reqS, k3, gi, gs, gc, Bool.and_true]
      simp [chkOk, lk, AV.ids, strs_idsL]
  · have e : namedQ r = ⟨0, 0, r.kind, 0, 0, [], 0, 0⟩ := by unfold namedQ; rw [if_neg (by omega), if_neg k3]
    rw [e] at gs
    simp only [qryS, strs_nil] at gs gc
    cases i
    · simp (config := { maxSteps := 1000000 }) (disch := omega) only [go_sem, ↓reduceIte, Nat.reduceEqDiff, Nat.reduceAdd, Int.reduceToNat, reduceCtorEq, Nat.reduceLeDiff, Nat.reduceSub, Nat.reduceDiv, Nat.reduceMod, Nat.reduceMul, d1638, reqS, gi, Bool.false_and]
    cases s
    · simp (config := { maxSteps := 1000000 }) (disch := omega) only [go_sem, ↓reduceIte, Nat.reduceEqDiff, Nat.reduceAdd, Int.reduceToNat, reduceCtorEq, Nat.reduceLeDiff, Nat.reduceSub, Nat.reduceDiv, Nat.reduceMod, Nat.reduceMul, d1638, reqS, gi, gs, Bool.false_and, Bool.and_false]
    cases c
    · simp only [chkI, Bool.false_eq_true, if_false] at gc
      simp (config := { maxSteps := 1000000 }) (disch := omega) only [go_sem, ↓reduceIte, Nat.reduceEqDiff, Nat.reduceAdd, Int.reduceToNat, reduceCtorEq, Nat.reduceLeDiff, Nat.reduceSub, Nat.reduceDiv, Nat.reduceMod, Nat.reduceMul, d1638, reqS, gi, gs, gc, Bool.and_false]
    · simp only [chkI, if_true] at gc
      simp (config := { maxSteps := 1000000 }) (disch := omega) only [go_sem, ↓reduceIte, Nat.reduceEqDiff, Nat.reduceAdd, Int.reduceToNat, reduceCtorEq, Nat.reduceLeDiff, Nat.reduceSub, Nat.reduceDiv, Nat.reduceMod, Nat.reduceMul, d1638, reqS, gi, gs, gc, Bool.and_true]
theorem okQ_eq2 (r : Req) : okQ r = (decide (0 ≤ r.id ∧ r.id ≤ 2147483647) && if r.kind = 4 then sameQ r zQ else (decide (r.qk = r.kind) && chkB r) && if r.kind = 3 then decide (r.to = 0) else decide (r.words.length = 0 ∧ r.radius = 0 ∧ r.most = 0)) := by
  rw [okQ_eq]
  congr 1
  by_cases k4 : r.kind = 4
  · rw [if_pos k4, if_pos k4, Bool.eq_iff_iff]
    simp only [sameL_iff, sameQ_iff, zQ, List.length_nil, List.length_eq_zero_iff]
  rw [if_neg k4, if_neg k4]
  unfold namedQ
  by_cases k12 : r.kind = 1 ∨ r.kind = 2
  · rw [if_pos k12, if_neg (by omega), Bool.eq_iff_iff]
    simp only [sameL_iff, Bool.and_eq_true, decide_eq_true_eq, List.length_nil]
    constructor
    · rintro ⟨⟨a, _, _, b, c, d⟩, e⟩; exact ⟨⟨a, e⟩, b, c, d⟩
    · rintro ⟨⟨a, e⟩, b, c, d⟩; exact ⟨⟨a, trivial, trivial, b, c, d⟩, e⟩
  rw [if_neg k12]
  by_cases k3 : r.kind = 3
  · rw [if_pos k3, if_pos k3, Bool.eq_iff_iff]
    simp only [sameL_iff, Bool.and_eq_true, decide_eq_true_eq]
    constructor
    · rintro ⟨⟨a, _, b, _⟩, e⟩; exact ⟨⟨a, e⟩, b⟩
    · rintro ⟨⟨a, e⟩, b⟩; exact ⟨⟨a, trivial, b, trivial, trivial, trivial⟩, e⟩
  · rw [if_neg k3, if_neg k3, Bool.eq_iff_iff]
    simp only [sameL_iff, Bool.and_eq_true, decide_eq_true_eq, List.length_nil]
    have hc : r.qk = r.kind → chkB r = false := fun h => decide_eq_false (by
      rintro (h1 | h1)
      · have := h1.1; omega
      · have := h1.1; omega)
    constructor
    · rintro ⟨⟨a, _⟩, e⟩; rw [hc a] at e; cases e
    · rintro ⟨⟨a, e⟩, _⟩; rw [hc a] at e; cases e
theorem rref_q {r : Req} (hw : okW r.words) : runP tab 1640 [.agg (reqS r)] [] = some (.bool (okQ r), []) := by
  refine runP_fn t1640 rfl ?_
  rw [okQ_eq2]
  have gi := rnumq_run r.id
  have gz := sameq_run (a := r) (b := zQ) (by have := hw.1; omega) (by simp [zQ])
  have gc := rcheck_run hw
  have hl := hw.1
  generalize decide (0 ≤ r.id ∧ r.id ≤ 2147483647) = i at *
  generalize sameQ r zQ = z at *
  generalize chkB r = c at *
  simp only [qryS] at gc
  cases i
  · rw [Bool.false_and]
    simp (config := { maxSteps := 1000000 }) (disch := omega) only [go_sem, ↓reduceIte, Nat.reduceEqDiff, Nat.reduceAdd, Int.reduceToNat, reduceCtorEq, Nat.reduceLeDiff, Nat.reduceSub, Nat.reduceDiv, Nat.reduceMod, Nat.reduceMul, d1640, reqS, gi]
  rw [Bool.true_and]
  by_cases k4 : r.kind = 4
  · rw [if_pos k4]
    simp only [qryS, zQ, strs_nil] at gz
    simp (config := { maxSteps := 1000000 }) (disch := omega) only [go_sem, ↓reduceIte, Nat.reduceEqDiff, Nat.reduceAdd, Int.reduceToNat, reduceCtorEq, Nat.reduceLeDiff, Nat.reduceSub, Nat.reduceDiv, Nat.reduceMod, Nat.reduceMul, d1640, reqS, gi, gz]
  rw [if_neg k4]
  by_cases kq : r.qk = r.kind
  case neg =>
    rw [decide_eq_false kq]
    simp (config := { maxSteps := 1000000 }) (disch := omega) only [go_sem, ↓reduceIte, Nat.reduceEqDiff, Nat.reduceAdd, Int.reduceToNat, reduceCtorEq, Nat.reduceLeDiff, Nat.reduceSub, Nat.reduceDiv, Nat.reduceMod, Nat.reduceMul, d1640, reqS, gi, Bool.false_and]
  rw [decide_eq_true kq, Bool.true_and]
  cases c
  · simp only [chkI, Bool.false_eq_true, if_false] at gc
    simp (config := { maxSteps := 1000000 }) (disch := omega) only [go_sem, ↓reduceIte, Nat.reduceEqDiff, Nat.reduceAdd, Int.reduceToNat, reduceCtorEq, Nat.reduceLeDiff, Nat.reduceSub, Nat.reduceDiv, Nat.reduceMod, Nat.reduceMul, d1640, reqS, gi, gc, Bool.false_and]
  simp only [chkI, if_true] at gc
  rw [Bool.true_and]
  by_cases k3 : r.kind = 3
  · rw [if_pos k3]
    simp (config := { maxSteps := 1000000 }) (disch := omega) only [go_sem, ↓reduceIte, Nat.reduceEqDiff, Nat.reduceAdd, Int.reduceToNat, reduceCtorEq, Nat.reduceLeDiff, Nat.reduceSub, Nat.reduceDiv, Nat.reduceMod, Nat.reduceMul, d1640, reqS, gi, gc]
  rw [if_neg k3]
  by_cases c1 : r.words.length = 0
  case neg =>
    rw [decide_eq_false (fun h => c1 h.1)]
    simp (config := { maxSteps := 1000000 }) (disch := omega) only [go_sem, ↓reduceIte, Nat.reduceEqDiff, Nat.reduceAdd, Int.reduceToNat, reduceCtorEq, Nat.reduceLeDiff, Nat.reduceSub, Nat.reduceDiv, Nat.reduceMod, Nat.reduceMul, d1640, reqS, gi, gc]
  by_cases c2 : r.radius = 0
  case neg =>
    rw [decide_eq_false (fun h => c2 h.2.1)]
    simp (config := { maxSteps := 1000000 }) (disch := omega) only [go_sem, ↓reduceIte, Nat.reduceEqDiff, Nat.reduceAdd, Int.reduceToNat, reduceCtorEq, Nat.reduceLeDiff, Nat.reduceSub, Nat.reduceDiv, Nat.reduceMod, Nat.reduceMul, d1640, reqS, gi, gc]
  by_cases c3 : r.most = 0
  case neg =>
    rw [decide_eq_false (fun h => c3 h.2.2)]
    simp (config := { maxSteps := 1000000 }) (disch := omega) only [go_sem, ↓reduceIte, Nat.reduceEqDiff, Nat.reduceAdd, Int.reduceToNat, reduceCtorEq, Nat.reduceLeDiff, Nat.reduceSub, Nat.reduceDiv, Nat.reduceMod, Nat.reduceMul, d1640, reqS, gi, gc]
  rw [decide_eq_true ⟨c1, c2, c3⟩]
  simp (config := { maxSteps := 1000000 }) (disch := omega) only [go_sem, ↓reduceIte, Nat.reduceEqDiff, Nat.reduceAdd, Int.reduceToNat, reduceCtorEq, Nat.reduceLeDiff, Nat.reduceSub, Nat.reduceDiv, Nat.reduceMod, Nat.reduceMul, d1640, reqS, gi, gc]
end Go.Proofs.Ytcfhocnbpplecaa
