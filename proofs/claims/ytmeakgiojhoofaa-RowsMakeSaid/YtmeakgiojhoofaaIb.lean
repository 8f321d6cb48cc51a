/- Layer 4: what the document tells of rows. -/
import Derived.Test.YtmeakgiojhoofaaHu
import Derived.Test.YtmeakgiojhoofaaHz
namespace Go.Proofs.Ytmeakgiojhoofaa
set_option linter.unusedSimpArgs false
set_option linter.unusedVariables false
set_option maxHeartbeats 4000000
set_option maxRecDepth 100000
theorem ed_beq (a b : Ed) : (decide (a.1 = b.1) && decide (a.2 = b.2)) = decide (a = b) := by
  rw [← Bool.decide_and]; congr 1; exact propext Prod.ext_iff.symm
end Go.Proofs.Ytmeakgiojhoofaa
