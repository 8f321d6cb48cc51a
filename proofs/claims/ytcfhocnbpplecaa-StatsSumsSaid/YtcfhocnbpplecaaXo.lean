import Derived.Test.YtcfhocnbpplecaaXl
namespace Go.Proofs.Ytcfhocnbpplecaa
set_option maxHeartbeats 4000000
set_option maxRecDepth 100000
theorem list_at {α : Type} [BEq α] [LawfulBEq α] (d : α) (a b : List α) (hl : a.length = b.length) : (∀ i, i < a.length → (a.getD i d == b.getD i d) = true) ∧ (a == b) = true ∨ ∃ n, n < a.length ∧ (∀ i, i < n → (a.getD i d == b.getD i d) = true) ∧ (a.getD n d == b.getD n d) = false ∧ (a == b) = false := by
  induction a generalizing b with
  | nil => cases b with | nil => exact .inl ⟨by simp, rfl⟩ | cons y b => simp at hl
  | cons x a ih => cases b with
    | nil => simp at hl
    | cons y b =>
      cases hxy : x == y with
      | true =>
        rcases ih b (by simpa using hl) with ⟨h1, h2⟩ | ⟨n, h1, h2, h3, h4⟩
        · refine .inl ⟨fun i hi => ?_, ?_⟩
          · cases i with | zero => simpa using hxy | succ i => simpa using h1 i (by simpa using hi)
          · have e : x = y := by simpa using hxy
            have e2 : a = b := by simpa using h2
            simp [e, e2]
        · refine .inr ⟨n + 1, by simpa using h1, fun i hi => ?_, by simpa using h3, ?_⟩
          · cases i with | zero => simpa using hxy | succ i => simpa using h2 i (by omega)
          · have e2 : ¬ a = b := by simpa using h4
            rw [← Bool.not_eq_true, beq_iff_eq]
            intro h; injection h with _ h; exact e2 h
      | false =>
        refine .inr ⟨0, by simp, by omega, by simpa using hxy, ?_⟩
        rw [← Bool.not_eq_true, beq_iff_eq]
        intro h; injection h with h _; rw [h] at hxy; simp at hxy
theorem texts_run {a b : List Txt} (ha : a.length ≤ 9223372036854775807) (hb : b.length ≤ 9223372036854775807) : runP tab 1105 [.sl 1 (strs a), .sl 1 (strs b)] [] = some (.bool (a == b), []) := by
  refine runP_fn t1105 rfl ?_
  by_cases hl : a.length = b.length
  · simp (disch := omega) only [go_sem, ↓reduceIte, Nat.reduceEqDiff, reduceCtorEq, d1105]
    rcases list_at [] a b hl with ⟨h1, h2⟩ | ⟨k, h0, h1, h2, h3⟩
    · refine Ev_loop0 (fun i => ⟨[(0, .sl 1 (strs a)), (1, .sl 1 (strs b)), (5, .int .i64 (i : Int))], [], 0, [(0, 0, [0, 1, 5], [])]⟩) a.length rfl (fun i hi => ?_) ?_
      · have := h1 i (by omega)
        simp (disch := omega) only [go_sem, ↓reduceIte, Nat.reduceEqDiff, reduceCtorEq, d1105_b0, strs_rdc, this]
      · simp (disch := omega) only [go_sem, ↓reduceIte, Nat.reduceEqDiff, reduceCtorEq, d1105_b0, h2]
    · refine Ev_loop0 (fun i => ⟨[(0, .sl 1 (strs a)), (1, .sl 1 (strs b)), (5, .int .i64 (i : Int))], [], 0, [(0, 0, [0, 1, 5], [])]⟩) k rfl (fun i hi => ?_) ?_
      · have := h1 i (by omega)
        simp (disch := omega) only [go_sem, ↓reduceIte, Nat.reduceEqDiff, reduceCtorEq, d1105_b0, strs_rdc, this]
      · simp (disch := omega) only [go_sem, ↓reduceIte, Nat.reduceEqDiff, reduceCtorEq, d1105_b0, strs_rdc, h2, h3]
  · have h : (a == b) = false := by rw [← Bool.not_eq_true, beq_iff_eq]; rintro rfl; exact hl rfl
    simp (disch := omega) only [go_sem, ↓reduceIte, Nat.reduceEqDiff, reduceCtorEq, d1105, h]
end Go.Proofs.Ytcfhocnbpplecaa
