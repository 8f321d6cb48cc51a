/- Layer 10: hits that come in. -/
import Derived.Test.YtpanhbaiimnlhaaQf
import Derived.Test.YtpanhbaiimnlhaaLa
namespace Go.Proofs.Ytpanhbaiimnlhaa
set_option linter.unusedSimpArgs false
set_option linter.unusedVariables false
theorem fit_hit {vs : List AV} (h : FitL [.int .i64, .int .i64] vs) : ∃ x : Ed, AV.agg vs = htA x := by
  simp only [FitL] at h
  obtain ⟨v, us, rfl, h5, v2, us2, rfl, h6, rfl⟩ := h
  obtain ⟨a, rfl, _⟩ := fit_int h5
  obtain ⟨b, rfl, _⟩ := fit_int h6
  exact ⟨(a, b), rfl⟩
theorem fit_hits {v : AV} (h : Fit (.sl 2 [.int .i64, .int .i64]) v) : ∃ l : List Ed, v = .sl 2 (prs l) ∧ l.length ≤ 9223372036854775807 := by
  obtain ⟨rows, rfl, hl, hr⟩ := h
  have : ∃ l : List Ed, rows.flatten = prs l ∧ l.length = rows.length := by
    clear hl
    induction rows with
    | nil => exact ⟨[], rfl, rfl⟩
    | cons r rows ih =>
      obtain ⟨l, h1, h2⟩ := ih (fun r hr' => hr r (by simp [hr']))
      have h4 := hr r (by simp)
      simp only [FitL] at h4
      obtain ⟨v, us, rfl, h5, v2, us2, rfl, h6, rfl⟩ := h4
      obtain ⟨a, rfl, _⟩ := fit_int h5
      obtain ⟨b, rfl, _⟩ := fit_int h6
      exact ⟨(a, b) :: l, by simp [h1, prs_cons], by simp [h2]⟩
  obtain ⟨l, h1, h2⟩ := this
  exact ⟨l, by rw [h1], by rw [h2]; unfold maxLen at hl; omega⟩
theorem fit_ohs {v : AV} (h : Fit (.sl 3 [.int .i64, .int .i64, .int .i64]) v) : ∃ l : List (Int × Ed), v = .sl 3 (ohs l) ∧ l.length ≤ 9223372036854775807 := by
  obtain ⟨rows, rfl, hl, hr⟩ := h
  have : ∃ l : List (Int × Ed), rows.flatten = ohs l ∧ l.length = rows.length := by
    clear hl
    induction rows with
    | nil => exact ⟨[], rfl, rfl⟩
    | cons r rows ih =>
      obtain ⟨l, h1, h2⟩ := ih (fun r hr' => hr r (by simp [hr']))
      have h4 := hr r (by simp)
      simp only [FitL] at h4
      obtain ⟨v, us, rfl, h5, v2, us2, rfl, h6, v3, us3, rfl, h7, rfl⟩ := h4
      obtain ⟨a, rfl, _⟩ := fit_int h5
      obtain ⟨b, rfl, _⟩ := fit_int h6
      obtain ⟨c, rfl, _⟩ := fit_int h7
      exact ⟨(a, (b, c)) :: l, by simp [h1, ohs_cons], by simp [h2]⟩
  obtain ⟨l, h1, h2⟩ := this
  exact ⟨l, by rw [h1], by rw [h2]; unfold maxLen at hl; omega⟩
end Go.Proofs.Ytpanhbaiimnlhaa
