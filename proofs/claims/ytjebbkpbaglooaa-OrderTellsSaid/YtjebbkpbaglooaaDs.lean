/- Two fronts. -/
import Derived.Test.YtjebbkpbaglooaaBf
namespace Go.Proofs.Ytjebbkpbaglooaa
set_option linter.unusedSimpArgs false
set_option linter.unusedVariables false
def Mrr (nb nc : Int → List Int) (n : Nat) : Prop := ∀ u v : Int, 0 ≤ u → u < n → 0 ≤ v → v < n → (v ∈ nb u ↔ u ∈ nc v)
theorem Mrr.symm {nb nc : Int → List Int} {n : Nat} (h : Mrr nb nc n) : Mrr nc nb n := fun u v a b c d => (h v u c d a b).symm
theorem rows_mirror {r : Rw} (h : r.ok) {v w : Nat} (hv : v + 1 < r.off.length) (hw : w + 1 < r.roff.length) : (w : Int) ∈ rowI r.off r.to v ↔ (v : Int) ∈ rowI r.roff r.rev w := by
  constructor
  · intro h2; exact h.mir v hv w h2
  · intro h2
    obtain ⟨k, k1, k2, k3⟩ := (h.b.mem hw).1 h2
    rw [rows_in h hw] at h2
    obtain ⟨j, hj, e⟩ := List.mem_map.1 h2
    have hj2 := List.mem_filter.1 hj
    have hj3 : j < r.to.length := by simpa using hj2.1
    have hjw : gi r.to j = w := by simpa using hj2.2
    obtain ⟨a1, a2, a3⟩ := h.f.sp hj3
    have : srcI r.off j = v := by omega
    rw [this] at a1 a2 a3
    exact (h.f.mem hv).2 ⟨j, a2, a3, hjw⟩
end Go.Proofs.Ytjebbkpbaglooaa
