/- Layer 4: RowsBack, RowsTurned. -/
import Derived.Test.YtmeakgiojhoofaaGe
namespace Go.Proofs.Ytmeakgiojhoofaa
set_option linter.unusedSimpArgs false
set_option linter.unusedVariables false
set_option maxHeartbeats 4000000
set_option maxRecDepth 100000
theorem okR_mk {n : Nat} {E : List Ed} (h : (mkR n E).ok) : okR (mkR n E) := by
  have := h.f.hi
  have := h.f.tl
  have := h.b.hi
  have := h.b.tl
  exact ⟨by omega, by omega, by omega, by omega⟩
def zR : Rw := ⟨[], [], [], []⟩
theorem zR_ok : okR zR := ⟨by decide, by decide, by decide, by decide⟩
end Go.Proofs.Ytmeakgiojhoofaa
