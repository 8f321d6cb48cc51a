import Derived.Test.YtfbfbennheeglaaAs
import Derived.Test.YtfbfbennheeglaaKz
namespace Go.Proofs.Ytfbfbennheeglaa
set_option linter.unusedSimpArgs false
set_option linter.unusedVariables false
open Go.Sort (SWO size_swp swp_get)
section
variable {α:Type} [Inhabited α] (lt:α→α→Bool)
variable {lt}
variable (lt)
variable {lt}
theorem srtd_uni {β:Type} {lt:β→β→Bool} (O:Ordr lt) {a b:List β} (ha:srtd lt a) (hb:srtd lt b) (h:a.Perm b):a=b:=
 h.eq_of_pairwise (fun x y _ _ h1 h2=>O.tri _ _ h2 h1) ha hb
end
end Go.Proofs.Ytfbfbennheeglaa
