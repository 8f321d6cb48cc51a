/- Fronts, told. -/
import Derived.Test.YtgjahkebhlphgaaVi
namespace Go.Proofs.Ytgjahkebhlphgaa
set_option linter.unusedSimpArgs false
set_option linter.unusedVariables false
set_option maxHeartbeats 4000000
set_option maxRecDepth 100000
theorem pchk_cases (r : Rw) (l : List Int) : (pchk r l = 40 ∧ ¬ chk r = true) ∨ (pchk r l = 1 ∧ chk r = true ∧ allPl ((r.off.length : Int) - 1) l = false) ∨ (pchk r l = 0 ∧ chk r = true ∧ allPl ((r.off.length : Int) - 1) l = true) := by
  unfold pchk
  by_cases hc : chk r = true
  · rw [if_pos hc]
    cases h : allPl ((r.off.length : Int) - 1) l with
    | false => exact .inr (.inl ⟨by simp, hc, rfl⟩)
    | true => exact .inr (.inr ⟨by simp, hc, rfl⟩)
  · rw [if_neg hc]; exact .inl ⟨rfl, hc⟩
theorem allPl_mem {n : Int} {l : List Int} (h : allPl n l = true) : ∀ v ∈ l, 0 ≤ v ∧ v < n := by
  intro v hv
  have := List.all_eq_true.1 h v hv
  simpa using this
end Go.Proofs.Ytgjahkebhlphgaa
