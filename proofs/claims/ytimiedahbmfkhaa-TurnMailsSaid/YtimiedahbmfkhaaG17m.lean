/- Every function that layer 17's laws reach is as the table with Combine told aside says. -/
import Derived.Test.YtimiedahbmfkhaaG17
import Derived.Test.YtimiedahbmfkhaaZs
namespace Go.Proofs.Ytimiedahbmfkhaa
theorem only {k f0 : Nat} (h : fidL.all (fun p => p.2 != k || p.1 == f0) = true) {f : Nat} (hf : fid f = some k) : f = f0 := by
  have := List.all_eq_true.1 h _ (fid_mem hf)
  simpa using this
theorem goodNP : Good Try.prog fid tabN := by
  refine goodN_of goodP (fun f h => ?_)
  rw [only (f0 := 23) (by kernel_rfl) h]; exact e1124
theorem goodMP : Good Try.prog fid tabM := goodM_of goodP goodNP
end Go.Proofs.Ytimiedahbmfkhaa
