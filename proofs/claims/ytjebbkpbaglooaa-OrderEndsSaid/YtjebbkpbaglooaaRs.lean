/- Rows that rise. -/
import Derived.Test.YtjebbkpbaglooaaDs
namespace Go.Proofs.Ytjebbkpbaglooaa
set_option linter.unusedSimpArgs false
set_option linter.unusedVariables false
theorem inc_ext {a b : List Int} (ha : a.Pairwise (· < ·)) (hb : b.Pairwise (· < ·)) (h : ∀ x, x ∈ a ↔ x ∈ b) : a = b := by
  have h1 := inc_sub ha hb (fun x hx => (h x).1 hx)
  have h2 := inc_sub hb ha (fun x hx => (h x).2 hx)
  exact h1.eq_of_length (Nat.le_antisymm h1.length_le h2.length_le)
theorem inc_at {o : List Int} (h : o.Pairwise (· < ·)) {i j : Nat} (hij : i < j) (hj : j < o.length) : o.getD i 0 < o.getD j 0 := by
  have := List.pairwise_iff_getElem.1 h i j (by omega) hj hij
  rw [List.getD_eq_getElem?_getD, List.getD_eq_getElem?_getD, List.getElem?_eq_getElem hj, List.getElem?_eq_getElem (by omega)]
  exact this
end Go.Proofs.Ytjebbkpbaglooaa
