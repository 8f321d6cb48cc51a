/- Every function that layer 16's laws reach is as the table says in which Combine and Whole are told aside. -/
import Derived.Test.YtpbdbhpneihopaaG16w
import Derived.Test.YtpbdbhpneihopaaYi
namespace Go.Proofs.Ytpbdbhpneihopaa
set_option linter.unusedSimpArgs false
set_option linter.unusedVariables false
theorem goodNP : Good Try.prog fid tabN := by
  refine goodN_of goodP (fun f h => ?_)
  rw [fid_one (n := 10) (by kernel_rfl) h]; exact e1124
theorem goodMP : Good Try.prog fid tabM := by
  refine goodM_of goodP goodNP need_is (fun f h => ?_)
  rw [fid_one (n := 34) (by kernel_rfl) h]; exact catch_is
end Go.Proofs.Ytpbdbhpneihopaa
