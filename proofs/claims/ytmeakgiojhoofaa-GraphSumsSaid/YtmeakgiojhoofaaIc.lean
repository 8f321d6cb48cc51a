/- Layer 4: all ways; RowsTell. -/
import Derived.Test.YtmeakgiojhoofaaIb
namespace Go.Proofs.Ytmeakgiojhoofaa
set_option linter.unusedSimpArgs false
set_option linter.unusedVariables false
set_option maxHeartbeats 4000000
set_option maxRecDepth 100000
end Go.Proofs.Ytmeakgiojhoofaa
