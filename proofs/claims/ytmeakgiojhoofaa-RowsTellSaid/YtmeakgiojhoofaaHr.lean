/-
  Rows: small functions.
-/
import Derived.Test.YtmeakgiojhoofaaT42
import Derived.Test.YtmeakgiojhoofaaRs
namespace Go.Proofs.Ytmeakgiojhoofaa
set_option linter.unusedSimpArgs false
set_option linter.unusedVariables false
set_option maxHeartbeats 4000000
set_option maxRecDepth 100000

theorem ints_at (a b : List Int) (hl : a.length = b.length) : (∀ i, i < a.length → a.getD i 0 = b.getD i 0) ∧ (a == b) = true ∨ ∃ n, n < a.length ∧ (∀ i, i < n → a.getD i 0 = b.getD i 0) ∧ a.getD n 0 ≠ b.getD n 0 ∧ (a == b) = false := by
  induction a generalizing b with
  | nil => cases b with | nil => exact .inl ⟨by simp, rfl⟩ | cons y b => simp at hl
  | cons x a ih => cases b with
    | nil => simp at hl
    | cons y b =>
      by_cases hxy : x = y
      · rcases ih b (by simpa using hl) with ⟨h1, h2⟩ | ⟨n, h1, h2, h3, h4⟩
        · refine .inl ⟨fun i hi => ?_, by simpa [hxy] using h2⟩
          cases i with | zero => simpa using hxy | succ i => simpa using h1 i (by simpa using hi)
        · refine .inr ⟨n + 1, by simpa using h1, fun i hi => ?_, by simpa using h3, by simpa [hxy] using h4⟩
          cases i with | zero => simpa using hxy | succ i => simpa using h2 i (by omega)
      · exact .inr ⟨0, by simp, by omega, by simpa using hxy, by simp [hxy]⟩

theorem ints_run {a b : List Int} (ha : a.length < 1000000) (hb : b.length < 1000000) : runP tab 1016 [.sl 1 (ints a), .sl 1 (ints b)] [] = some (.bool (a == b), []) := by
  refine runP_fn t1016 rfl ?_
  by_cases hl : a.length = b.length
  · simp (config := { maxSteps := 1000000 }) (disch := omega) only [go_sem, ↓reduceIte, Nat.reduceEqDiff, Nat.reduceAdd, Int.reduceToNat, reduceCtorEq, Nat.reduceLeDiff, Nat.reduceSub, Nat.reduceDiv, Nat.reduceMod, Nat.reduceMul, d1016]
    rcases ints_at a b hl with ⟨h1, h2⟩ | ⟨k, h0, h1, h2, h3⟩
    · refine Ev_loop0 (fun i => ⟨[(0, .sl 1 (ints a)), (1, .sl 1 (ints b)), (5, .int .i64 (i : Int))], [], 0, [(0, 0, [0, 1, 5], [])]⟩) a.length rfl (fun i hi => ?_) ?_
      · have := h1 i (by omega)
        simp (config := { maxSteps := 1000000 }) (disch := omega) only [go_sem, ↓reduceIte, Nat.reduceEqDiff, Nat.reduceAdd, Int.reduceToNat, reduceCtorEq, Nat.reduceLeDiff, Nat.reduceSub, Nat.reduceDiv, Nat.reduceMod, Nat.reduceMul, d1016_b0]
      · simp (config := { maxSteps := 1000000 }) (disch := omega) only [go_sem, ↓reduceIte, Nat.reduceEqDiff, Nat.reduceAdd, Int.reduceToNat, reduceCtorEq, Nat.reduceLeDiff, Nat.reduceSub, Nat.reduceDiv, Nat.reduceMod, Nat.reduceMul, d1016_b0, h2]
    · refine Ev_loop0 (fun i => ⟨[(0, .sl 1 (ints a)), (1, .sl 1 (ints b)), (5, .int .i64 (i : Int))], [], 0, [(0, 0, [0, 1, 5], [])]⟩) k rfl (fun i hi => ?_) ?_
      · have := h1 i (by omega)
        simp (config := { maxSteps := 1000000 }) (disch := omega) only [go_sem, ↓reduceIte, Nat.reduceEqDiff, Nat.reduceAdd, Int.reduceToNat, reduceCtorEq, Nat.reduceLeDiff, Nat.reduceSub, Nat.reduceDiv, Nat.reduceMod, Nat.reduceMul, d1016_b0]
      · simp (config := { maxSteps := 1000000 }) (disch := omega) only [go_sem, ↓reduceIte, Nat.reduceEqDiff, Nat.reduceAdd, Int.reduceToNat, reduceCtorEq, Nat.reduceLeDiff, Nat.reduceSub, Nat.reduceDiv, Nat.reduceMod, Nat.reduceMul, d1016_b0, h2, h3]
  · have h : (a == b) = false := by rw [← Bool.not_eq_true, beq_iff_eq]; rintro rfl; exact hl rfl
    simp (config := { maxSteps := 1000000 }) (disch := omega) only [go_sem, ↓reduceIte, Nat.reduceEqDiff, Nat.reduceAdd, Int.reduceToNat, reduceCtorEq, Nat.reduceLeDiff, Nat.reduceSub, Nat.reduceDiv, Nat.reduceMod, Nat.reduceMul, d1016, h]

theorem owni_run {l : List Int} (h : l.length ≤ 1000000) : runP tab 1022 [.sl 1 (ints l)] [] = some (.vec 1 (ints l), []) := by
  refine runP_fn t1022 rfl ?_
  simp (config := { maxSteps := 1000000 }) (disch := omega) only [go_sem, ↓reduceIte, Nat.reduceEqDiff, Nat.reduceAdd, Int.reduceToNat, reduceCtorEq, Nat.reduceLeDiff, Nat.reduceSub, Nat.reduceDiv, Nat.reduceMod, Nat.reduceMul, d1022]

theorem clonei_run {l : List Int} (h : l.length ≤ 1000000) : runP tab 1024 [.sl 1 (ints l)] [] = some (.vec 1 (ints l), []) := by
  rw [runP_orc t1024]
  have h2 : noinlL (ints l) = true := ints_noinl l
  have h3 : noidL (ints l) = true := ints_noid l
  simp only [cloneG, true_or, h2, h3, true_and, ints_length, Nat.div_one, ints_okc]
  rw [if_pos (by constructor <;> first | trivial | omega)]

theorem first_ix' (p : Nat → Prop) (n : Nat) : (∀ i, i < n → p i) ∨ ∃ m, m < n ∧ (∀ i, i < m → p i) ∧ ¬ p m := by
  induction n with
  | zero => exact .inl (by intro i h; omega)
  | succ n ih =>
    rcases ih with h | ⟨m, h1, h2, h3⟩
    · by_cases hn : p n
      · exact .inl fun i hi => by
          by_cases e : i = n
          · subst e; exact hn
          · exact h i (by omega)
      · exact .inr ⟨n, by omega, h, hn⟩
    · exact .inr ⟨m, by omega, h2, h3⟩
theorem getD_memI {l : List Int} {i : Nat} (h : i < l.length) : l.getD i 0 ∈ l := by
  rw [List.getD_eq_getElem?_getD, List.getElem?_eq_getElem h]; exact List.getElem_mem _
theorem memI {l : List Int} {x : Int} : x ∈ l ↔ ∃ i, i < l.length ∧ l.getD i 0 = x := by
  constructor
  · intro h
    obtain ⟨i, hi, e⟩ := List.getElem_of_mem h
    exact ⟨i, hi, by rw [List.getD_eq_getElem?_getD, List.getElem?_eq_getElem hi, e]; rfl⟩
  · rintro ⟨i, hi, rfl⟩; exact getD_memI hi

/-- Are all places of n? -/
def allPl (n : Int) (l : List Int) : Bool := l.all fun v => decide (0 ≤ v ∧ v < n)
theorem places_run {n : Int} {l : List Int} (hl : l.length ≤ 1000000) : runP tab 1211 [.int .i64 n, .sl 1 (ints l)] [] = some (.bool (allPl n l), []) := by
  refine runP_fn t1211 rfl ?_
  simp (config := { maxSteps := 1000000 }) (disch := omega) only [go_sem, ↓reduceIte, Nat.reduceEqDiff, Nat.reduceAdd, Int.reduceToNat, reduceCtorEq, Nat.reduceLeDiff, Nat.reduceSub, Nat.reduceDiv, Nat.reduceMod, Nat.reduceMul, d1211]
  rcases first_ix' (fun i => 0 ≤ l.getD i 0 ∧ l.getD i 0 < n) l.length with h | ⟨m, h1, h2, h3⟩
  · have e : allPl n l = true := by
      rw [allPl, List.all_eq_true]
      intro x hx
      obtain ⟨i, hi, rfl⟩ := memI.1 hx
      simpa using h i hi
    rw [e]
    refine Ev_loop0 (fun i => ⟨[(0, .int .i64 n), (7, .sl 1 (ints l)), (8, .int .i64 l.length), (9, .int .i64 (i : Int))], [], 0, [(0, 0, [0, 7, 8, 9], [])]⟩) l.length rfl (fun i hi => ?_) ?_
    · have q := h i hi
      simp (config := { maxSteps := 1000000 }) (disch := omega) only [go_sem, ↓reduceIte, Nat.reduceEqDiff, Nat.reduceAdd, Int.reduceToNat, reduceCtorEq, Nat.reduceLeDiff, Nat.reduceSub, Nat.reduceDiv, Nat.reduceMod, Nat.reduceMul, d1211_b0]
    · simp (config := { maxSteps := 1000000 }) (disch := omega) only [go_sem, ↓reduceIte, Nat.reduceEqDiff, Nat.reduceAdd, Int.reduceToNat, reduceCtorEq, Nat.reduceLeDiff, Nat.reduceSub, Nat.reduceDiv, Nat.reduceMod, Nat.reduceMul, d1211_b0]
  · have e : allPl n l = false := by
      rw [allPl, List.all_eq_false]
      exact ⟨_, getD_memI h1, by simpa using h3⟩
    rw [e]
    refine Ev_loop0 (fun i => ⟨[(0, .int .i64 n), (7, .sl 1 (ints l)), (8, .int .i64 l.length), (9, .int .i64 (i : Int))], [], 0, [(0, 0, [0, 7, 8, 9], [])]⟩) m rfl (fun i hi => ?_) ?_
    · have q := h2 i hi
      simp (config := { maxSteps := 1000000 }) (disch := omega) only [go_sem, ↓reduceIte, Nat.reduceEqDiff, Nat.reduceAdd, Int.reduceToNat, reduceCtorEq, Nat.reduceLeDiff, Nat.reduceSub, Nat.reduceDiv, Nat.reduceMod, Nat.reduceMul, d1211_b0]
    · by_cases h0 : l.getD m 0 < 0
      · simp (config := { maxSteps := 1000000 }) (disch := omega) only [go_sem, ↓reduceIte, Nat.reduceEqDiff, Nat.reduceAdd, Int.reduceToNat, reduceCtorEq, Nat.reduceLeDiff, Nat.reduceSub, Nat.reduceDiv, Nat.reduceMod, Nat.reduceMul, d1211_b0]
      · simp (config := { maxSteps := 1000000 }) (disch := omega) only [go_sem, ↓reduceIte, Nat.reduceEqDiff, Nat.reduceAdd, Int.reduceToNat, reduceCtorEq, Nat.reduceLeDiff, Nat.reduceSub, Nat.reduceDiv, Nat.reduceMod, Nat.reduceMul, d1211_b0]

theorem contains_run {l : List Int} {x : Int} (hl : l.length ≤ 1000000) : runP tab 1023 [.sl 1 (ints l), .int .i64 x] [] = some (.bool (decide (x ∈ l)), []) := by
  have key : ∃ k : Int, (x ∈ l → 0 ≤ k) ∧ (x ∉ l → k < 0) ∧ runP tab 1026 [.sl 1 (ints l), .int .i64 x] [] = some (.int .i64 k, []) := by
    rcases first_ix' (fun i => x ≠ l.getD i 0) l.length with h | ⟨m, h1, h2, h3⟩
    · refine ⟨-1, fun hx => ?_, by omega, ?_⟩
      · obtain ⟨i, hi, e⟩ := memI.1 hx
        exact absurd e.symm (h i hi)
      · refine runP_fn t1026 rfl ?_
        simp (config := { maxSteps := 1000000 }) (disch := omega) only [go_sem, ↓reduceIte, Nat.reduceEqDiff, Nat.reduceAdd, Int.reduceToNat, reduceCtorEq, Nat.reduceLeDiff, Nat.reduceSub, Nat.reduceDiv, Nat.reduceMod, Nat.reduceMul, d1026]
        refine Ev_loop0 (fun i => ⟨[(0, .sl 1 (ints l)), (1, .int .i64 x), (7, .int .i64 l.length), (8, .int .i64 (i : Int))], [], 0, [(0, 0, [0, 1, 7, 8], [])]⟩) l.length rfl (fun i hi => ?_) ?_
        · have q := h i hi
          simp (config := { maxSteps := 1000000 }) (disch := omega) only [go_sem, ↓reduceIte, Nat.reduceEqDiff, Nat.reduceAdd, Int.reduceToNat, reduceCtorEq, Nat.reduceLeDiff, Nat.reduceSub, Nat.reduceDiv, Nat.reduceMod, Nat.reduceMul, d1026_b0]
        · simp (config := { maxSteps := 1000000 }) (disch := omega) only [go_sem, ↓reduceIte, Nat.reduceEqDiff, Nat.reduceAdd, Int.reduceToNat, reduceCtorEq, Nat.reduceLeDiff, Nat.reduceSub, Nat.reduceDiv, Nat.reduceMod, Nat.reduceMul, d1026_b0]
    · have h3 : x = l.getD m 0 := Classical.not_not.1 h3
      refine ⟨m, by omega, fun hx => absurd (memI.2 ⟨m, h1, h3.symm⟩) hx, ?_⟩
      refine runP_fn t1026 rfl ?_
      simp (config := { maxSteps := 1000000 }) (disch := omega) only [go_sem, ↓reduceIte, Nat.reduceEqDiff, Nat.reduceAdd, Int.reduceToNat, reduceCtorEq, Nat.reduceLeDiff, Nat.reduceSub, Nat.reduceDiv, Nat.reduceMod, Nat.reduceMul, d1026]
      refine Ev_loop0 (fun i => ⟨[(0, .sl 1 (ints l)), (1, .int .i64 x), (7, .int .i64 l.length), (8, .int .i64 (i : Int))], [], 0, [(0, 0, [0, 1, 7, 8], [])]⟩) m rfl (fun i hi => ?_) ?_
      · have q := h2 i hi
        simp (config := { maxSteps := 1000000 }) (disch := omega) only [go_sem, ↓reduceIte, Nat.reduceEqDiff, Nat.reduceAdd, Int.reduceToNat, reduceCtorEq, Nat.reduceLeDiff, Nat.reduceSub, Nat.reduceDiv, Nat.reduceMod, Nat.reduceMul, d1026_b0]
      · simp (config := { maxSteps := 1000000 }) (disch := omega) only [go_sem, ↓reduceIte, Nat.reduceEqDiff, Nat.reduceAdd, Int.reduceToNat, reduceCtorEq, Nat.reduceLeDiff, Nat.reduceSub, Nat.reduceDiv, Nat.reduceMod, Nat.reduceMul, d1026_b0]
  obtain ⟨k, k1, k2, g⟩ := key
  refine runP_fn t1023 rfl ?_
  by_cases hx : x ∈ l
  · have := k1 hx
    rw [show decide (x ∈ l) = true by simp [hx]]
    simp (config := { maxSteps := 1000000 }) (disch := omega) only [go_sem, ↓reduceIte, Nat.reduceEqDiff, Nat.reduceAdd, Int.reduceToNat, reduceCtorEq, Nat.reduceLeDiff, Nat.reduceSub, Nat.reduceDiv, Nat.reduceMod, Nat.reduceMul, d1023, g]
  · have := k2 hx
    rw [show decide (x ∈ l) = false by simp [hx]]
    simp (config := { maxSteps := 1000000 }) (disch := omega) only [go_sem, ↓reduceIte, Nat.reduceEqDiff, Nat.reduceAdd, Int.reduceToNat, reduceCtorEq, Nat.reduceLeDiff, Nat.reduceSub, Nat.reduceDiv, Nat.reduceMod, Nat.reduceMul, d1023, g]

theorem less_run {a b : Int} : runP tab 1219 [.int .i64 a, .int .i64 b] [] = some (.bool (decide (a < b)), []) := by
  have g : ∀ x : Int, runP tab 1072 [.int .i64 x] [] = some (.bool false, []) := fun x => by
    refine runP_fn t1072 rfl ?_
    simp (config := { maxSteps := 1000000 }) (disch := omega) only [go_sem, ↓reduceIte, Nat.reduceEqDiff, Nat.reduceAdd, Int.reduceToNat, reduceCtorEq, Nat.reduceLeDiff, Nat.reduceSub, Nat.reduceDiv, Nat.reduceMod, Nat.reduceMul, d1072]
  refine runP_fn t1219 rfl ?_
  by_cases h : a < b
  · simp (config := { maxSteps := 1000000 }) (disch := omega) only [go_sem, ↓reduceIte, Nat.reduceEqDiff, Nat.reduceAdd, Int.reduceToNat, reduceCtorEq, Nat.reduceLeDiff, Nat.reduceSub, Nat.reduceDiv, Nat.reduceMod, Nat.reduceMul, d1219, g]
  · simp (config := { maxSteps := 1000000 }) (disch := omega) only [go_sem, ↓reduceIte, Nat.reduceEqDiff, Nat.reduceAdd, Int.reduceToNat, reduceCtorEq, Nat.reduceLeDiff, Nat.reduceSub, Nat.reduceDiv, Nat.reduceMod, Nat.reduceMul, d1219, g]

/-- Does a row rise, or stand? -/
def mono (l : List Int) : Prop := ∀ v, v + 1 < l.length → gi l v ≤ gi l (v + 1)
open Classical in
noncomputable def monoB (l : List Int) : Bool := decide (mono l)
theorem sorted_run {l : List Int} (hl : l.length ≤ 1000000) : runP tab 1210 [.sl 1 (ints l)] [] = some (.bool (monoB l), []) := by
  refine runP_fn t1210 rfl ?_
  have less := fun a b => less_run (a := a) (b := b)
  rcases first_ix' (fun i => gi l (l.length - 1 - i - 1) ≤ gi l (l.length - 1 - i)) (l.length - 1) with h | ⟨m, h1, h2, h3⟩
  · have e : monoB l = true := by
      rw [monoB]; simp only [decide_eq_true_eq]
      intro v hv
      have := h (l.length - 1 - (v + 1)) (by omega)
      rw [show l.length - 1 - (l.length - 1 - (v + 1)) = v + 1 by omega] at this
      simpa using this
    rw [e]
    simp (config := { maxSteps := 1000000 }) (disch := omega) only [go_sem, ↓reduceIte, Nat.reduceEqDiff, Nat.reduceAdd, Int.reduceToNat, reduceCtorEq, Nat.reduceLeDiff, Nat.reduceSub, Nat.reduceDiv, Nat.reduceMod, Nat.reduceMul, d1210]
    refine Ev_loop0 (fun i => ⟨[(0, .sl 1 (ints l)), (3, .int .i64 ((l.length : Int) - 1 - i))], [], 0, [(0, 0, [0, 3], [])]⟩) (l.length - 1) (by simp) (fun i hi => ?_) ?_
    · have q := h i hi
      simp only [gi] at q
      obtain ⟨j, hj⟩ : ∃ j : Nat, (l.length : Int) - 1 - i = j + 1 := ⟨l.length - 2 - i, by omega⟩
      rw [show l.length - 1 - i - 1 = j by omega, show l.length - 1 - i = j + 1 by omega] at q
      have less := less (l.getD (j + 1) 0) (l.getD j 0)
      rw [decide_eq_false (show ¬ l.getD (j + 1) 0 < l.getD j 0 by omega)] at less
      have q2 : ((j : Int) + 1) - 1 = (j : Int) := by omega
      have q3 : ((j : Int) + 1).toNat = j + 1 := by omega
      have q4 : (l.length : Int) - 1 - (i + 1) = j := by omega
      simp (config := { maxSteps := 1000000 }) (disch := omega) only [go_sem, ↓reduceIte, Nat.reduceEqDiff, Nat.reduceAdd, Int.reduceToNat, reduceCtorEq, Nat.reduceLeDiff, Nat.reduceSub, Nat.reduceDiv, Nat.reduceMod, Nat.reduceMul, d1210_b0, hj, q2, q3, q4, less]
    · simp (config := { maxSteps := 1000000 }) (disch := omega) only [go_sem, ↓reduceIte, Nat.reduceEqDiff, Nat.reduceAdd, Int.reduceToNat, reduceCtorEq, Nat.reduceLeDiff, Nat.reduceSub, Nat.reduceDiv, Nat.reduceMod, Nat.reduceMul, d1210_b0]
  · have e : monoB l = false := by
      rw [monoB]; simp only [decide_eq_false_iff_not]
      intro hh
      have := hh (l.length - 1 - m - 1) (by omega)
      rw [show l.length - 1 - m - 1 + 1 = l.length - 1 - m by omega] at this
      exact h3 this
    rw [e]
    simp (config := { maxSteps := 1000000 }) (disch := omega) only [go_sem, ↓reduceIte, Nat.reduceEqDiff, Nat.reduceAdd, Int.reduceToNat, reduceCtorEq, Nat.reduceLeDiff, Nat.reduceSub, Nat.reduceDiv, Nat.reduceMod, Nat.reduceMul, d1210]
    refine Ev_loop0 (fun i => ⟨[(0, .sl 1 (ints l)), (3, .int .i64 ((l.length : Int) - 1 - i))], [], 0, [(0, 0, [0, 3], [])]⟩) m (by simp) (fun i hi => ?_) ?_
    · have q := h2 i hi
      simp only [gi] at q
      obtain ⟨j, hj⟩ : ∃ j : Nat, (l.length : Int) - 1 - i = j + 1 := ⟨l.length - 2 - i, by omega⟩
      rw [show l.length - 1 - i - 1 = j by omega, show l.length - 1 - i = j + 1 by omega] at q
      have less := less (l.getD (j + 1) 0) (l.getD j 0)
      rw [decide_eq_false (show ¬ l.getD (j + 1) 0 < l.getD j 0 by omega)] at less
      have q2 : ((j : Int) + 1) - 1 = (j : Int) := by omega
      have q3 : ((j : Int) + 1).toNat = j + 1 := by omega
      have q4 : (l.length : Int) - 1 - (i + 1) = j := by omega
      simp (config := { maxSteps := 1000000 }) (disch := omega) only [go_sem, ↓reduceIte, Nat.reduceEqDiff, Nat.reduceAdd, Int.reduceToNat, reduceCtorEq, Nat.reduceLeDiff, Nat.reduceSub, Nat.reduceDiv, Nat.reduceMod, Nat.reduceMul, d1210_b0, hj, q2, q3, q4, less]
    · have q := h3
      simp only [gi] at q
      obtain ⟨j, hj⟩ : ∃ j : Nat, (l.length : Int) - 1 - m = j + 1 := ⟨l.length - 2 - m, by omega⟩
      rw [show l.length - 1 - m - 1 = j by omega, show l.length - 1 - m = j + 1 by omega] at q
      have less := less (l.getD (j + 1) 0) (l.getD j 0)
      rw [decide_eq_true (show l.getD (j + 1) 0 < l.getD j 0 by omega)] at less
      have q2 : ((j : Int) + 1) - 1 = (j : Int) := by omega
      have q3 : ((j : Int) + 1).toNat = j + 1 := by omega
      simp (config := { maxSteps := 1000000 }) (disch := omega) only [go_sem, ↓reduceIte, Nat.reduceEqDiff, Nat.reduceAdd, Int.reduceToNat, reduceCtorEq, Nat.reduceLeDiff, Nat.reduceSub, Nat.reduceDiv, Nat.reduceMod, Nat.reduceMul, d1210_b0, hj, q2, q3, less]

end Go.Proofs.Ytmeakgiojhoofaa
