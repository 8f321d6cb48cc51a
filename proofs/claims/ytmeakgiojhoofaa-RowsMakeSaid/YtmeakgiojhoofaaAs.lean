/- Rows in which each is ahead of the next; what is sorted, each once. -/
import Derived.Test.YtmeakgiojhoofaaRq
import Derived.Sort.AssemblyPlain
namespace Go.Proofs.Ytmeakgiojhoofaa
set_option linter.unusedSimpArgs false
set_option linter.unusedVariables false
open Go.Sort (SWO PermIn SortedIn)
structure Ordr {α : Type} (lt : α → α → Bool) : Prop where
  irr : ∀ x, lt x x = false
  tr : ∀ x y z, lt x y = true → lt y z = true → lt x z = true
  tri : ∀ x y, lt x y = false → lt y x = false → x = y
section
variable {α : Type} {lt : α → α → Bool}
def asc (lt : α → α → Bool) (l : List α) : Prop := l.Pairwise fun x y => lt x y = true
variable [Inhabited α] [DecidableEq α]
end
end Go.Proofs.Ytmeakgiojhoofaa
