/- Every function that layer 5's laws reach is as the table with Sorted told aside says. -/
import Derived.Test.YtmckpijdjoifoaaG05
import Derived.Test.YtmckpijdjoifoaaCb
set_option linter.unusedSimpArgs false
set_option linter.unusedVariables false
namespace Go.Proofs.Ytmckpijdjoifoaa
theorem only {k f0 : Nat} (h : fidL.all (fun p => p.2 != k || p.1 == f0) = true) {f : Nat} (hf : fid f = some k) : f = f0 := by
  have := List.all_eq_true.1 h _ (fid_mem hf)
  simpa using this
theorem goodNP : Good Try.prog fid tabN := by
  refine goodN_of goodP (fun f h => ?_) (fun f h => ?_) (fun f h => ?_) (fun f h => ?_)
  · rw [only (f0 := 32) (by kernel_rfl) h]; exact e1556
  · rw [only (f0 := 52) (by kernel_rfl) h]; exact e1562
  · rw [only (f0 := 54) (by kernel_rfl) h]; exact e1564
  · rw [only (f0 := 66) (by kernel_rfl) h]; exact e1569
theorem goodMP : Good Try.prog fid tabM := goodM_of goodP goodNP
end Go.Proofs.Ytmckpijdjoifoaa
