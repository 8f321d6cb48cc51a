/- Layer 17: messages out of a row. -/
import Derived.Test.YtimiedahbmfkhaaZm
import Derived.Test.YtimiedahbmfkhaaZd
import Derived.Test.YtimiedahbmfkhaaZk
import Derived.Test.YtimiedahbmfkhaaZl
import Derived.Test.YtimiedahbmfkhaaLa
namespace Go.Proofs.Ytimiedahbmfkhaa
set_option linter.unusedSimpArgs false
set_option linter.unusedVariables false
theorem fit_mls {v : AV} (h : Fit (.sl 4 [.int .i64, .int .i64, .int .i64, .int .i64]) v) : ∃ l : List Ml, v = .sl 4 (mls l) ∧ l.length ≤ 9223372036854775807 := by
  obtain ⟨rows, rfl, hl, hr⟩ := h
  have : ∃ l : List Ml, rows.flatten = mls l ∧ l.length = rows.length := by
    clear hl
    induction rows with
    | nil => exact ⟨[], rfl, rfl⟩
    | cons r rows ih =>
      obtain ⟨l, h1, h2⟩ := ih (fun r hr' => hr r (by simp [hr']))
      have h4 := hr r (by simp)
      simp only [FitL] at h4
      obtain ⟨v, us, rfl, h5, v2, us2, rfl, h6, v3, us3, rfl, h7, v4, us4, rfl, h8, rfl⟩ := h4
      obtain ⟨a, rfl, _⟩ := fit_int h5
      obtain ⟨b, rfl, _⟩ := fit_int h6
      obtain ⟨c, rfl, _⟩ := fit_int h7
      obtain ⟨d, rfl, _⟩ := fit_int h8
      exact ⟨⟨a, b, c, d⟩ :: l, by simp [h1, mls_cons], by simp [h2]⟩
  obtain ⟨l, h1, h2⟩ := this
  exact ⟨l, by rw [h1], by rw [h2]; unfold maxLen at hl; omega⟩
end Go.Proofs.Ytimiedahbmfkhaa
