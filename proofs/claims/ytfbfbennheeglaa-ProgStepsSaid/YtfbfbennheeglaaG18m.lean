import Derived.Test.YtfbfbennheeglaaG18
import Derived.Test.YtfbfbennheeglaaAj
namespace Go.Proofs.Ytfbfbennheeglaa
theorem only {k f0:Nat} (h:fidL.all (fun p=>p.2 != k || p.1 == f0)=true) {f:Nat} (hf:fid f=some k):f=f0:=by
 have:=List.all_eq_true.1 h _ (fid_mem hf)
 simpa using this
theorem goodNP:Good Try.prog fid tabN:=by
 refine goodN_of goodP (fun f h=>?_) (fun f h=>?_)
 ·rw [only (f0:=58) (by kernel_rfl) h];exact e1725
 ·rw [only (f0:=42) (by kernel_rfl) h];exact e1720
theorem goodMP:Good Try.prog fid tabM:=goodM_of goodP goodNP
end Go.Proofs.Ytfbfbennheeglaa
