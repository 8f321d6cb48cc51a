/- What may be a query: the program, the document. -/
import Derived.Test.YtcfhocnbpplecaaXo
namespace Go.Proofs.Ytcfhocnbpplecaa
set_option linter.unusedSimpArgs false
set_option linter.unusedVariables false
set_option maxHeartbeats 4000000
set_option maxRecDepth 100000
def Q1 (r : Req) : Prop := (r.qk = 1 ∨ r.qk = 2) ∧ (0 ≤ r.frm ∧ r.frm < 200) ∧ (0 ≤ r.to ∧ r.to < 200)
def Q3 (r : Req) : Prop := r.qk = 3 ∧ (0 ≤ r.frm ∧ r.frm < 200) ∧ wordsB r.words = true ∧ (0 ≤ r.radius ∧ r.radius ≤ 200) ∧ (1 ≤ r.most ∧ r.most ≤ 100)
instance (r : Req) : Decidable (Q1 r ∨ Q3 r) := by unfold Q1 Q3; infer_instance
def chkB (r : Req) : Bool := decide (Q1 r ∨ Q3 r)
def chkI (b : Bool) : Int := if b then 0 else 180
theorem chkP_no {r : Req} (h : Q1 r ∨ Q3 r → False) : chkI (chkB r) = 180 := by rw [chkB, decide_eq_false h]; rfl
theorem chkP_yes {r : Req} (h : Q1 r ∨ Q3 r) : chkI (chkB r) = 0 := by rw [chkB, decide_eq_true h]; rfl
theorem check_run {r : Req} (hw : okW r.words) : runP tab 1646 [.agg (qryS r), .int .i64 200] [] = some (.int .i64 (chkI (chkB r)), []) := by
  refine runP_fn t1646 rfl ?_
  have g1 := place_run r.frm 200
  have g2 := place_run r.to 200
  have g3 := words_run hw
  have hl := hw.1
  by_cases c0 : 0 ≤ r.frm ∧ r.frm < 200
  case neg =>
    rw [decide_eq_false c0] at g1
    rw [chkP_no (fun h => h.elim (fun h => c0 h.2.1) (fun h => c0 h.2.1))]
    by_cases k1 : r.qk = 1
    · simp (config := { maxSteps := 1000000 }) (disch := omega) only [go_sem, ↓reduceIte, Nat.reduceEqDiff, Nat.reduceAdd, Int.reduceToNat, reduceCtorEq, Nat.reduceLeDiff, Nat.reduceSub, Nat.reduceDiv, Nat.reduceMod, Nat.reduceMul, d1646, qryS, g1]
    by_cases k2 : r.qk = 2
    · simp (config := { maxSteps := 1000000 }) (disch := omega) only [go_sem, ↓reduceIte, Nat.reduceEqDiff, Nat.reduceAdd, Int.reduceToNat, reduceCtorEq, Nat.reduceLeDiff, Nat.reduceSub, Nat.reduceDiv, Nat.reduceMod, Nat.reduceMul, d1646, qryS, g1]
    by_cases k3 : r.qk = 3
    · simp (config := { maxSteps := 1000000 }) (disch := omega) only [go_sem, ↓reduceIte, Nat.reduceEqDiff, Nat.reduceAdd, Int.reduceToNat, reduceCtorEq, Nat.reduceLeDiff, Nat.reduceSub, Nat.reduceDiv, Nat.reduceMod, Nat.reduceMul, d1646, qryS, g1]
    · simp (config := { maxSteps := 1000000 }) (disch := omega) only [go_sem, ↓reduceIte, Nat.reduceEqDiff, Nat.reduceAdd, Int.reduceToNat, reduceCtorEq, Nat.reduceLeDiff, Nat.reduceSub, Nat.reduceDiv, Nat.reduceMod, Nat.reduceMul, d1646, qryS, g1]
  rw [decide_eq_true c0] at g1
  by_cases k3 : r.qk = 3
  · cases hb : wordsB r.words with
    | false =>
      rw [hb] at g3
      rw [chkP_no (fun h => h.elim (fun h => by have := h.1; omega) (fun h => by rw [h.2.2.1] at hb; cases hb))]
      simp (config := { maxSteps := 1000000 }) (disch := omega) only [go_sem, ↓reduceIte, Nat.reduceEqDiff, Nat.reduceAdd, Int.reduceToNat, reduceCtorEq, Nat.reduceLeDiff, Nat.reduceSub, Nat.reduceDiv, Nat.reduceMod, Nat.reduceMul, d1646, qryS, g1, g3]
    | true =>
    rw [hb] at g3
    have q1 : ¬ Q1 r := fun h => by have := h.1; omega
    by_cases c1 : 0 ≤ r.radius
    case neg =>
      rw [chkP_no (fun h => h.elim q1 (fun h => c1 h.2.2.2.1.1))]
      simp (config := { maxSteps := 1000000 }) (disch := omega) only [go_sem, ↓reduceIte, Nat.reduceEqDiff, Nat.reduceAdd, Int.reduceToNat, reduceCtorEq, Nat.reduceLeDiff, Nat.reduceSub, Nat.reduceDiv, Nat.reduceMod, Nat.reduceMul, d1646, qryS, g1, g3]
    by_cases c2 : r.radius ≤ 200
    case neg =>
      rw [chkP_no (fun h => h.elim q1 (fun h => c2 h.2.2.2.1.2))]
      simp (config := { maxSteps := 1000000 }) (disch := omega) only [go_sem, ↓reduceIte, Nat.reduceEqDiff, Nat.reduceAdd, Int.reduceToNat, reduceCtorEq, Nat.reduceLeDiff, Nat.reduceSub, Nat.reduceDiv, Nat.reduceMod, Nat.reduceMul, d1646, qryS, g1, g3]
    by_cases c3 : 1 ≤ r.most
    case neg =>
      rw [chkP_no (fun h => h.elim q1 (fun h => c3 h.2.2.2.2.1))]
      simp (config := { maxSteps := 1000000 }) (disch := omega) only [go_sem, ↓reduceIte, Nat.reduceEqDiff, Nat.reduceAdd, Int.reduceToNat, reduceCtorEq, Nat.reduceLeDiff, Nat.reduceSub, Nat.reduceDiv, Nat.reduceMod, Nat.reduceMul, d1646, qryS, g1, g3]
    by_cases c4 : r.most ≤ 100
    case neg =>
      rw [chkP_no (fun h => h.elim q1 (fun h => c4 h.2.2.2.2.2))]
      simp (config := { maxSteps := 1000000 }) (disch := omega) only [go_sem, ↓reduceIte, Nat.reduceEqDiff, Nat.reduceAdd, Int.reduceToNat, reduceCtorEq, Nat.reduceLeDiff, Nat.reduceSub, Nat.reduceDiv, Nat.reduceMod, Nat.reduceMul, d1646, qryS, g1, g3]
    rw [chkP_yes (.inr ⟨k3, c0, hb, ⟨c1, c2⟩, c3, c4⟩)]
    simp (config := { maxSteps := 1000000 }) (disch := omega) only [go_sem, ↓reduceIte, Nat.reduceEqDiff, Nat.reduceAdd, Int.reduceToNat, reduceCtorEq, Nat.reduceLeDiff, Nat.reduceSub, Nat.reduceDiv, Nat.reduceMod, Nat.reduceMul, d1646, qryS, g1, g3]
  by_cases k12 : r.qk = 1 ∨ r.qk = 2
  case neg =>
    rw [chkP_no (fun h => h.elim (fun h => k12 h.1) (fun h => k3 h.1))]
    simp (config := { maxSteps := 1000000 }) (disch := omega) only [go_sem, ↓reduceIte, Nat.reduceEqDiff, Nat.reduceAdd, Int.reduceToNat, reduceCtorEq, Nat.reduceLeDiff, Nat.reduceSub, Nat.reduceDiv, Nat.reduceMod, Nat.reduceMul, d1646, qryS, g1]
  by_cases c1 : 0 ≤ r.to ∧ r.to < 200
  · rw [decide_eq_true c1] at g2
    rw [chkP_yes (.inl ⟨k12, c0, c1⟩)]
    rcases k12 with k | k
    · simp (config := { maxSteps := 1000000 }) (disch := omega) only [go_sem, ↓reduceIte, Nat.reduceEqDiff, Nat.reduceAdd, Int.reduceToNat, reduceCtorEq, Nat.reduceLeDiff, Nat.reduceSub, Nat.reduceDiv, Nat.reduceMod, Nat.reduceMul, d1646, qryS, g1, g2]
    · simp (config := { maxSteps := 1000000 }) (disch := omega) only [go_sem, ↓reduceIte, Nat.reduceEqDiff, Nat.reduceAdd, Int.reduceToNat, reduceCtorEq, Nat.reduceLeDiff, Nat.reduceSub, Nat.reduceDiv, Nat.reduceMod, Nat.reduceMul, d1646, qryS, g1, g2]
  · rw [decide_eq_false c1] at g2
    rw [chkP_no (fun h => h.elim (fun h => c1 h.2.2) (fun h => k3 h.1))]
    rcases k12 with k | k
    · simp (config := { maxSteps := 1000000 }) (disch := omega) only [go_sem, ↓reduceIte, Nat.reduceEqDiff, Nat.reduceAdd, Int.reduceToNat, reduceCtorEq, Nat.reduceLeDiff, Nat.reduceSub, Nat.reduceDiv, Nat.reduceMod, Nat.reduceMul, d1646, qryS, g1, g2]
    · simp (config := { maxSteps := 1000000 }) (disch := omega) only [go_sem, ↓reduceIte, Nat.reduceEqDiff, Nat.reduceAdd, Int.reduceToNat, reduceCtorEq, Nat.reduceLeDiff, Nat.reduceSub, Nat.reduceDiv, Nat.reduceMod, Nat.reduceMul, d1646, qryS, g1, g2]
def rkS (r : Req) (i : Nat) : St := ⟨[(2, .ref 0 0), (5, .int .i64 (i : Int))], [.row false (qryS r)], 0, [(0, 1, [2, 5], [(2, 0)])]⟩
theorem rk_step {r : Req} (hw : okW r.words) {i : Nat} (hi : i < r.words.length) (h : wordB (r.words.getD i []) = true) : Ev tab d1648_b0 (rkS r i) (fun x st => x = .normal ∧ st = rkS r (i + 1)) := by
  have g := word2_run (s := r.words.getD i []) (hw.2 _ (getD_mem (d := []) hi))
  rw [h] at g
  have hl := hw.1
  unfold rkS qryS
  simp (config := { maxSteps := 1000000 }) (disch := omega) only [go_sem, ↓reduceIte, Nat.reduceEqDiff, Nat.reduceAdd, Int.reduceToNat, reduceCtorEq, Nat.reduceLeDiff, Nat.reduceSub, Nat.reduceDiv, Nat.reduceMod, Nat.reduceMul, d1648_b0, strs_rdc, g]
theorem rcheck_run {r : Req} (hw : okW r.words) : runP tab 1648 [.agg (qryS r), .int .i64 200] [] = some (.int .i64 (chkI (chkB r)), []) := by
  refine runP_fn t1648 rfl ?_
  have g1 := rplace_run r.frm 200
  have g2 := rplace_run r.to 200
  have hl := hw.1
  by_cases k1 : 1 ≤ r.qk
  case neg =>
    rw [chkP_no (fun h => h.elim (fun h => by have := h.1; omega) (fun h => by have := h.1; omega))]
    simp (config := { maxSteps := 1000000 }) (disch := omega) only [go_sem, ↓reduceIte, Nat.reduceEqDiff, Nat.reduceAdd, Int.reduceToNat, reduceCtorEq, Nat.reduceLeDiff, Nat.reduceSub, Nat.reduceDiv, Nat.reduceMod, Nat.reduceMul, d1648, qryS]
  by_cases k2 : r.qk ≤ 3
  case neg =>
    rw [chkP_no (fun h => h.elim (fun h => by have := h.1; omega) (fun h => by have := h.1; omega))]
    simp (config := { maxSteps := 1000000 }) (disch := omega) only [go_sem, ↓reduceIte, Nat.reduceEqDiff, Nat.reduceAdd, Int.reduceToNat, reduceCtorEq, Nat.reduceLeDiff, Nat.reduceSub, Nat.reduceDiv, Nat.reduceMod, Nat.reduceMul, d1648, qryS]
  by_cases c0 : 0 ≤ r.frm ∧ r.frm < 200
  case neg =>
    rw [decide_eq_false c0] at g1
    rw [chkP_no (fun h => h.elim (fun h => c0 h.2.1) (fun h => c0 h.2.1))]
    simp (config := { maxSteps := 1000000 }) (disch := omega) only [go_sem, ↓reduceIte, Nat.reduceEqDiff, Nat.reduceAdd, Int.reduceToNat, reduceCtorEq, Nat.reduceLeDiff, Nat.reduceSub, Nat.reduceDiv, Nat.reduceMod, Nat.reduceMul, d1648, qryS, g1]
  rw [decide_eq_true c0] at g1
  by_cases k3 : r.qk < 3
  · by_cases c1 : 0 ≤ r.to ∧ r.to < 200
    · rw [decide_eq_true c1] at g2
      rw [chkP_yes (.inl ⟨by omega, c0, c1⟩)]
      simp (config := { maxSteps := 1000000 }) (disch := omega) only [go_sem, ↓reduceIte, Nat.reduceEqDiff, Nat.reduceAdd, Int.reduceToNat, reduceCtorEq, Nat.reduceLeDiff, Nat.reduceSub, Nat.reduceDiv, Nat.reduceMod, Nat.reduceMul, d1648, qryS, g1, g2]
    · rw [decide_eq_false c1] at g2
      rw [chkP_no (fun h => h.elim (fun h => c1 h.2.2) (fun h => by have := h.1; omega))]
      simp (config := { maxSteps := 1000000 }) (disch := omega) only [go_sem, ↓reduceIte, Nat.reduceEqDiff, Nat.reduceAdd, Int.reduceToNat, reduceCtorEq, Nat.reduceLeDiff, Nat.reduceSub, Nat.reduceDiv, Nat.reduceMod, Nat.reduceMul, d1648, qryS, g1, g2]
  have q1 : ¬ Q1 r := fun h => by have := h.1; omega
  have wl : wordsB r.words = true → 1 ≤ r.words.length ∧ r.words.length ≤ 8 := fun h => by simp only [wordsB, Bool.and_eq_true, decide_eq_true_eq] at h; exact h.2
  by_cases c5 : 1 ≤ r.words.length
  case neg =>
    rw [chkP_no (fun h => h.elim q1 (fun h => c5 (wl h.2.2.1).1))]
    simp (config := { maxSteps := 1000000 }) (disch := omega) only [go_sem, ↓reduceIte, Nat.reduceEqDiff, Nat.reduceAdd, Int.reduceToNat, reduceCtorEq, Nat.reduceLeDiff, Nat.reduceSub, Nat.reduceDiv, Nat.reduceMod, Nat.reduceMul, d1648, qryS, g1]
  by_cases c6 : r.words.length ≤ 8
  case neg =>
    rw [chkP_no (fun h => h.elim q1 (fun h => c6 (wl h.2.2.1).2))]
    simp (config := { maxSteps := 1000000 }) (disch := omega) only [go_sem, ↓reduceIte, Nat.reduceEqDiff, Nat.reduceAdd, Int.reduceToNat, reduceCtorEq, Nat.reduceLeDiff, Nat.reduceSub, Nat.reduceDiv, Nat.reduceMod, Nat.reduceMul, d1648, qryS, g1]
  by_cases c1 : 0 ≤ r.radius
  case neg =>
    rw [chkP_no (fun h => h.elim q1 (fun h => c1 h.2.2.2.1.1))]
    simp (config := { maxSteps := 1000000 }) (disch := omega) only [go_sem, ↓reduceIte, Nat.reduceEqDiff, Nat.reduceAdd, Int.reduceToNat, reduceCtorEq, Nat.reduceLeDiff, Nat.reduceSub, Nat.reduceDiv, Nat.reduceMod, Nat.reduceMul, d1648, qryS, g1]
  by_cases c2 : r.radius ≤ 200
  case neg =>
    rw [chkP_no (fun h => h.elim q1 (fun h => c2 h.2.2.2.1.2))]
    simp (config := { maxSteps := 1000000 }) (disch := omega) only [go_sem, ↓reduceIte, Nat.reduceEqDiff, Nat.reduceAdd, Int.reduceToNat, reduceCtorEq, Nat.reduceLeDiff, Nat.reduceSub, Nat.reduceDiv, Nat.reduceMod, Nat.reduceMul, d1648, qryS, g1]
  by_cases c3 : 1 ≤ r.most
  case neg =>
    rw [chkP_no (fun h => h.elim q1 (fun h => c3 h.2.2.2.2.1))]
    simp (config := { maxSteps := 1000000 }) (disch := omega) only [go_sem, ↓reduceIte, Nat.reduceEqDiff, Nat.reduceAdd, Int.reduceToNat, reduceCtorEq, Nat.reduceLeDiff, Nat.reduceSub, Nat.reduceDiv, Nat.reduceMod, Nat.reduceMul, d1648, qryS, g1]
  by_cases c4 : r.most ≤ 100
  case neg =>
    rw [chkP_no (fun h => h.elim q1 (fun h => c4 h.2.2.2.2.2))]
    simp (config := { maxSteps := 1000000 }) (disch := omega) only [go_sem, ↓reduceIte, Nat.reduceEqDiff, Nat.reduceAdd, Int.reduceToNat, reduceCtorEq, Nat.reduceLeDiff, Nat.reduceSub, Nat.reduceDiv, Nat.reduceMod, Nat.reduceMul, d1648, qryS, g1]
  simp (config := { maxSteps := 1000000 }) (disch := omega) only [go_sem, ↓reduceIte, Nat.reduceEqDiff, Nat.reduceAdd, Int.reduceToNat, reduceCtorEq, Nat.reduceLeDiff, Nat.reduceSub, Nat.reduceDiv, Nat.reduceMod, Nat.reduceMul, d1648, qryS, g1]
  rcases word_ix r.words with ⟨h1, h2⟩ | ⟨m, h1, h2, h3, h4⟩
  · rw [chkP_yes (.inr ⟨by omega, c0, by simp only [wordsB, h1, Bool.true_and, decide_eq_true_eq]; omega, ⟨c1, c2⟩, c3, c4⟩)]
    refine Ev_loop0 (rkS r) r.words.length rfl (fun i hi => rk_step hw hi (h2 i hi)) ?_
    unfold rkS qryS
    simp (config := { maxSteps := 1000000 }) (disch := omega) only [go_sem, ↓reduceIte, Nat.reduceEqDiff, Nat.reduceAdd, Int.reduceToNat, reduceCtorEq, Nat.reduceLeDiff, Nat.reduceSub, Nat.reduceDiv, Nat.reduceMod, Nat.reduceMul, d1648_b0]
  · rw [chkP_no (fun h => h.elim q1 (fun h => by have := h.2.2.1; simp only [wordsB, h4, Bool.false_and] at this; cases this))]
    refine Ev_loop0 (rkS r) m rfl (fun i hi => rk_step hw (by omega) (h2 i hi)) ?_
    have g := word2_run (s := r.words.getD m []) (hw.2 _ (getD_mem (d := []) h1))
    rw [h3] at g
    unfold rkS qryS
    simp (config := { maxSteps := 1000000 }) (disch := omega) only [go_sem, ↓reduceIte, Nat.reduceEqDiff, Nat.reduceAdd, Int.reduceToNat, reduceCtorEq, Nat.reduceLeDiff, Nat.reduceSub, Nat.reduceDiv, Nat.reduceMod, Nat.reduceMul, d1648_b0, strs_rdc, g]
end Go.Proofs.Ytcfhocnbpplecaa
