/- Graphs by definition: the normal one, one's own. -/
import Derived.Test.YtmckpijdjoifoaaGn
namespace Go.Proofs.Ytmckpijdjoifoaa
set_option linter.unusedSimpArgs false
set_option linter.unusedVariables false
set_option maxHeartbeats 4000000
set_option maxRecDepth 100000
theorem otx_run {l : List Txt} (hl : l.length ≤ 1000) : runP tab 1276 [.sl 1 (strs l)] [] = some (.vec 1 (strs l), []) := by
  refine runP_fn t1276 rfl ?_
  simp (config := { maxSteps := 1000000 }) (disch := omega) only [go_sem, ↓reduceIte, Nat.reduceEqDiff, reduceCtorEq, d1276, strs_length]
end Go.Proofs.Ytmckpijdjoifoaa
