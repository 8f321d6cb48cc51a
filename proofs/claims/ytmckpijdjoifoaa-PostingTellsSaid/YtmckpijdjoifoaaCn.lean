/- Postings: Big, few, Own; arguments. -/
import Derived.Test.YtmckpijdjoifoaaCl
import Derived.Test.YtmckpijdjoifoaaGb
import Derived.Test.YtmckpijdjoifoaaHu
import Derived.Test.YtmckpijdjoifoaaHx
import Derived.Test.YtmckpijdjoifoaaGp
namespace Go.Proofs.Ytmckpijdjoifoaa
set_option linter.unusedSimpArgs false
set_option linter.unusedVariables false
set_option maxHeartbeats 4000000
set_option maxRecDepth 100000
theorem fit_pos {v : AV} (h : Fit (.sl 2 [.str, .sl 1 [.int .i64]]) v) : ∃ P : List Po, v = .sl 2 (poS P) ∧ P.length ≤ 9223372036854775807 ∧ (∀ p ∈ P, p.1.length ≤ 9223372036854775807) ∧ ∀ p ∈ P, p.2.length ≤ 9223372036854775807 := by
  obtain ⟨rows, rfl, hl, hr⟩ := h
  have : ∃ P : List Po, rows.flatten = poS P ∧ P.length = rows.length ∧ ∀ p ∈ P, p.1.length ≤ 9223372036854775807 ∧ p.2.length ≤ 9223372036854775807 := by
    clear hl
    induction rows with
    | nil => exact ⟨[], rfl, rfl, by simp⟩
    | cons r rows ih =>
      obtain ⟨P, h1, h2, h3⟩ := ih (fun r hr' => hr r (by simp [hr']))
      have h4 := hr r (by simp)
      simp only [FitL] at h4
      obtain ⟨v, us, rfl, h5, v2, us2, rfl, h6, rfl⟩ := h4
      obtain ⟨a, rfl, ha⟩ := fit_str h5
      obtain ⟨b, rfl, hb, _⟩ := fit_ints h6
      refine ⟨(a, b) :: P, by simp [h1, poS], by simp [h2], fun p hp => ?_⟩
      rcases List.mem_cons.1 hp with rfl | hp
      · exact ⟨ha, hb⟩
      · exact h3 p hp
  obtain ⟨P, h1, h2, h3⟩ := this
  exact ⟨P, by rw [h1], by rw [h2]; unfold maxLen at hl; omega, fun p hp => (h3 p hp).1, fun p hp => (h3 p hp).2⟩
def badP (p : Po) : Bool := decide (60 < p.1.length) || decide (60 < p.2.length)
def bigP (P : List Po) : Bool := (decide (P.length ≤ 40) && P.any badP) || decide (40 < P.length)
theorem bigP_ok {P : List Po} (h : bigP P = false) : P.length ≤ 40 ∧ ∀ p ∈ P, p.1.length ≤ 60 ∧ p.2.length ≤ 60 := by
  simp only [bigP, Bool.or_eq_false_iff, decide_eq_false_iff_not] at h
  obtain ⟨h1, h2⟩ := h
  have hw : P.length ≤ 40 := by omega
  rw [decide_eq_true hw, Bool.true_and, List.any_eq_false] at h1
  refine ⟨hw, fun p hp => ?_⟩
  have := h1 p hp
  simp only [badP, Bool.or_eq_true, decide_eq_true_eq, not_or] at this
  omega
theorem bigP_okP {P : List Po} (h : bigP P = false) : okP P := by
  obtain ⟨h1, h2⟩ := bigP_ok h
  exact ⟨by omega, fun p hp => by have := (h2 p hp).2; omega⟩
theorem bigP_run {P : List Po} (hn : P.length ≤ 9223372036854775807) (hw : ∀ p ∈ P, p.1.length ≤ 9223372036854775807) (hr : ∀ p ∈ P, p.2.length ≤ 9223372036854775807) : runP tab 1595 [.sl 2 (poS P)] [] = some (.bool (bigP P), []) := by
  refine runP_fn t1595 rfl ?_
  have L := poS_len P
  have Ld : P.length * 2 / 2 = P.length := by omega
  simp (config := { maxSteps := 1000000 }) (disch := omega) only [go_sem, ↓reduceIte, reduceCtorEq, d1595]
  by_cases c : P.length ≤ 40
  case neg =>
    rw [show bigP P = true by simp [bigP]; omega]
    refine Ev_stop ?_
    simp (config := { maxSteps := 1000000 }) (disch := omega) only [go_sem, ↓reduceIte, Nat.reduceEqDiff, reduceCtorEq, d1595_b0, L, Ld]
  have hst : ∀ i, i < P.length → badP (P.getD i default) = false → Ev tab d1595_b0 ⟨[(0, .sl 2 (poS P)), (3, .int .i64 (i : Int))], [], 0, [(0, 0, [0, 3], [])]⟩ (fun x st => x = .normal ∧ st = ⟨[(0, .sl 2 (poS P)), (3, .int .i64 ((i + 1 : Nat) : Int))], [], 0, [(0, 0, [0, 3], [])]⟩) := by
    intro i hi q
    simp only [badP, Bool.or_eq_false_iff, decide_eq_false_iff_not] at q
    obtain ⟨q1, q2⟩ := q
    have e1 := poS_at1 hi
    have e2 := poS_at2 hi
    have L2 := ints_length (P.getD i default).2
    simp (config := { maxSteps := 1000000 }) (disch := omega) only [go_sem, ↓reduceIte, Nat.reduceEqDiff, reduceCtorEq, d1595_b0, L, Ld, e1, e2, L2]
  rcases first_ix' (fun i => badP (P.getD i default) = false) P.length with h | ⟨m, m1, m2, m3⟩
  · rw [show bigP P = false by
      simp only [bigP, Bool.or_eq_false_iff, decide_eq_false_iff_not]
      refine ⟨?_, by omega⟩
      rw [decide_eq_true c, Bool.true_and, List.any_eq_false]
      intro p hp
      obtain ⟨i, hi, rfl⟩ := mem_getD (d := default) hp
      simpa using h i hi]
    refine Ev_loop0 (fun i => ⟨[(0, .sl 2 (poS P)), (3, .int .i64 (i : Int))], [], 0, [(0, 0, [0, 3], [])]⟩) P.length rfl (fun i hi => hst i hi (h i hi)) ?_
    simp (config := { maxSteps := 1000000 }) (disch := omega) only [go_sem, ↓reduceIte, Nat.reduceEqDiff, reduceCtorEq, d1595_b0, L, Ld]
  · have m3 : badP (P.getD m default) = true := by simpa using m3
    rw [show bigP P = true by
      simp only [bigP, Bool.or_eq_true, decide_eq_true_eq]
      left
      rw [decide_eq_true c, Bool.true_and, List.any_eq_true]
      exact ⟨_, getD_mem' m1, m3⟩]
    refine Ev_loop0 (fun i => ⟨[(0, .sl 2 (poS P)), (3, .int .i64 (i : Int))], [], 0, [(0, 0, [0, 3], [])]⟩) m rfl (fun i hi => hst i (by omega) (m2 i hi)) ?_
    have e1 := poS_at1 m1
    have e2 := poS_at2 m1
    have L2 := ints_length (P.getD m default).2
    have w1 := hw _ (getD_mem' m1)
    have w2 := hr _ (getD_mem' m1)
    by_cases q1 : 60 < (P.getD m default).1.length
    · simp (config := { maxSteps := 1000000 }) (disch := omega) only [go_sem, ↓reduceIte, Nat.reduceEqDiff, reduceCtorEq, d1595_b0, L, Ld, e1]
    · have q2 : 60 < (P.getD m default).2.length := by
        simp only [badP, Bool.or_eq_true, decide_eq_true_eq] at m3
        omega
      simp (config := { maxSteps := 1000000 }) (disch := omega) only [go_sem, ↓reduceIte, Nat.reduceEqDiff, reduceCtorEq, d1595_b0, L, Ld, e1, e2, L2]
def fewB (ws : List Txt) : Bool := (ws.all fun s => decide (s.length ≤ 60)) && decide (ws.length ≤ 12)
theorem fewB_ok {ws : List Txt} (h : fewB ws = true) : ws.length ≤ 12 ∧ ∀ s ∈ ws, s.length ≤ 60 := by
  simp only [fewB, Bool.and_eq_true, decide_eq_true_eq, List.all_eq_true] at h
  exact ⟨h.2, h.1⟩
theorem few_run {ws : List Txt} (hn : ws.length ≤ 9223372036854775807) (hw : ∀ s ∈ ws, s.length ≤ 9223372036854775807) : runP tab 1596 [.sl 1 (strs ws)] [] = some (.bool (fewB ws), []) := by
  refine runP_fn t1596 rfl ?_
  have L := strs_length ws
  simp (config := { maxSteps := 1000000 }) (disch := omega) only [go_sem, ↓reduceIte, reduceCtorEq, d1596]
  have hst : ∀ i, i < ws.length → (ws.getD i []).length ≤ 60 → Ev tab d1596_b0 ⟨[(0, .sl 1 (strs ws)), (3, .int .i64 (i : Int))], [], 0, [(0, 0, [0, 3], [])]⟩ (fun x st => x = .normal ∧ st = ⟨[(0, .sl 1 (strs ws)), (3, .int .i64 ((i + 1 : Nat) : Int))], [], 0, [(0, 0, [0, 3], [])]⟩) := by
    intro i hi q
    have e1 := strs_rdc hi
    simp (config := { maxSteps := 1000000 }) (disch := omega) only [go_sem, ↓reduceIte, Nat.reduceEqDiff, reduceCtorEq, d1596_b0, L, e1]
  rcases first_ix' (fun i => (ws.getD i []).length ≤ 60) ws.length with h | ⟨m, m1, m2, m3⟩
  · rw [show fewB ws = decide (ws.length ≤ 12) by
      unfold fewB
      rw [List.all_eq_true.2, Bool.true_and]
      intro s hs
      obtain ⟨i, hi, rfl⟩ := mem_getD (d := []) hs
      simpa using h i hi]
    refine Ev_loop0 (fun i => ⟨[(0, .sl 1 (strs ws)), (3, .int .i64 (i : Int))], [], 0, [(0, 0, [0, 3], [])]⟩) ws.length rfl (fun i hi => hst i hi (h i hi)) ?_
    by_cases c : ws.length ≤ 12
    · rw [decide_eq_true c]
      simp (config := { maxSteps := 1000000 }) (disch := omega) only [go_sem, ↓reduceIte, Nat.reduceEqDiff, reduceCtorEq, d1596_b0, L]
    · rw [decide_eq_false c]
      simp (config := { maxSteps := 1000000 }) (disch := omega) only [go_sem, ↓reduceIte, Nat.reduceEqDiff, reduceCtorEq, d1596_b0, L]
  · rw [show fewB ws = false by
      unfold fewB
      rw [List.all_eq_false.2 ⟨_, getD_mem (d := []) m1, by simpa using m3⟩, Bool.false_and]]
    refine Ev_loop0 (fun i => ⟨[(0, .sl 1 (strs ws)), (3, .int .i64 (i : Int))], [], 0, [(0, 0, [0, 3], [])]⟩) m rfl (fun i hi => hst i (by omega) (m2 i hi)) ?_
    have e1 := strs_rdc m1
    have w1 := hw _ (getD_mem (d := []) m1)
    simp (config := { maxSteps := 1000000 }) (disch := omega) only [go_sem, ↓reduceIte, Nat.reduceEqDiff, reduceCtorEq, d1596_b0, L, e1]
end Go.Proofs.Ytmckpijdjoifoaa
