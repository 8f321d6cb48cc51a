/- Layer 4: what the document tells of rows. -/
import Derived.Test.YtmckpijdjoifoaaHu
import Derived.Test.YtmckpijdjoifoaaHx
set_option linter.unusedSimpArgs false
set_option linter.unusedVariables false
namespace Go.Proofs.Ytmckpijdjoifoaa
set_option maxHeartbeats 4000000
set_option maxRecDepth 100000
theorem ed_beq (a b : Ed) : (decide (a.1 = b.1) && decide (a.2 = b.2)) = decide (a = b) := by
  rw [← Bool.decide_and]; congr 1; exact propext Prod.ext_iff.symm
end Go.Proofs.Ytmckpijdjoifoaa
