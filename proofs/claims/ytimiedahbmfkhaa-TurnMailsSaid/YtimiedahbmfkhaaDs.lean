/- Two fronts. -/
import Derived.Test.YtimiedahbmfkhaaBf
namespace Go.Proofs.Ytimiedahbmfkhaa
set_option linter.unusedSimpArgs false
set_option linter.unusedVariables false
def Mrr (nb nc : Int → List Int) (n : Nat) : Prop := ∀ u v : Int, 0 ≤ u → u < n → 0 ≤ v → v < n → (v ∈ nb u ↔ u ∈ nc v)
theorem Mrr.symm {nb nc : Int → List Int} {n : Nat} (h : Mrr nb nc n) : Mrr nc nb n := fun u v a b c d => (h v u c d a b).symm
end Go.Proofs.Ytimiedahbmfkhaa
