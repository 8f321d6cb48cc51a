/- Rows that rise. -/
import Derived.Test.YtjebbkpbaglooaaDs
namespace Go.Proofs.Ytjebbkpbaglooaa
set_option linter.unusedSimpArgs false
set_option linter.unusedVariables false
theorem inc_ext {a b : List Int} (ha : a.Pairwise (· < ·)) (hb : b.Pairwise (· < ·)) (h : ∀ x, x ∈ a ↔ x ∈ b) : a = b := by
  have h1 := inc_sub ha hb (fun x hx => (h x).1 hx)
  have h2 := inc_sub hb ha (fun x hx => (h x).2 hx)
  exact h1.eq_of_length (Nat.le_antisymm h1.length_le h2.length_le)
end Go.Proofs.Ytjebbkpbaglooaa
