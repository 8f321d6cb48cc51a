import Derived.Test.YtmckpijdjoifoaaGreatG05z
import Derived.Test.YtmckpijdjoifoaaGreatCb
namespace Go.Proofs.YtmckpijdjoifoaaGreat
theorem only {k f0:Nat} (h:fidL.all (fun p=>p.2 != k || p.1 == f0)=true) {f:Nat} (hf:fid f=some k):f=f0:=by
 have:=List.all_eq_true.1 h _ (fid_mem hf)
 simpa using this
theorem goodNP:Good Tryz.prog fid tabN:=by
 refine goodN_of goodP (fun f h=>?_) (fun f h=>?_) (fun f h=>?_) (fun f h=>?_)
 ·rw [only (f0:=17) (by kernel_rfl) h];exact e1556
 ·rw [only (f0:=38) (by kernel_rfl) h];exact e1562
 ·rw [only (f0:=40) (by kernel_rfl) h];exact e1564
 ·rw [only (f0:=50) (by kernel_rfl) h];exact e1569
theorem goodMP:Good Tryz.prog fid tabM:=goodM_of goodP goodNP
end Go.Proofs.YtmckpijdjoifoaaGreat
