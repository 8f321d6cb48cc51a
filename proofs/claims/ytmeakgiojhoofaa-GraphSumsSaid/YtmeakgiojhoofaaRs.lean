/- Rows that rise. -/
import Derived.Test.YtmeakgiojhoofaaDs
namespace Go.Proofs.Ytmeakgiojhoofaa
set_option linter.unusedSimpArgs false
set_option linter.unusedVariables false
end Go.Proofs.Ytmeakgiojhoofaa
