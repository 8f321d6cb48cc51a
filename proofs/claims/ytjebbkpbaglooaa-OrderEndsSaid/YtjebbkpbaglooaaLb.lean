/- A law's arguments out of its rows, with the form's own reach: each row takes at most 2^47 bytes. -/
import Derived.Test.YtjebbkpbaglooaaLa
import Derived.SizedLaws
namespace Go.Proofs.Ytjebbkpbaglooaa
set_option linter.unusedSimpArgs false
set_option linter.unusedVariables false
open Go.RowKit Go.WideShapes Go.ChangeShapes
mutual
def FitB : Ty → AV → Prop
  | .int k, v => ∃ n, v = .int k n ∧ (Lit.int k n).wf = true
  | .bool, v => ∃ b, v = .bool b
  | .str, v => ∃ s, v = .str s ∧ s.length ≤ reachBytes
  | .sl sz e, v => ∃ rows : List (List AV), v = .sl sz rows.flatten ∧ rows.length ≤ reachBytes ∧ ∀ r ∈ rows, FitLB e r
def FitLB : List Ty → List AV → Prop
  | [], vs => vs = []
  | t :: ts, vs => ∃ v us, vs = v :: us ∧ FitB t v ∧ FitLB ts us
end
mutual
theorem Fit_okcB : ∀ {t : Ty} {v : AV}, FitB t v → v.okc = true
  | .int k, v, h => by obtain ⟨n, rfl, _⟩ := h; rfl
  | .bool, v, h => by obtain ⟨n, rfl⟩ := h; rfl
  | .str, v, h => by obtain ⟨n, rfl, _⟩ := h; rfl
  | .sl sz e, v, h => by obtain ⟨n, rfl, _⟩ := h; rfl
end
section
variable {P : Program} {W : World} {m : Mem} {H : Type} {enc : TypeId × Value → H} {sp : Nat → Bool}
end
end Go.Proofs.Ytjebbkpbaglooaa
