import Derived.Test.YtmckpijdjoifoaaGreatGn
namespace Go.Proofs.YtmckpijdjoifoaaGreat
set_option linter.unusedSimpArgs false
set_option linter.unusedVariables false
set_option maxHeartbeats 4000000
set_option maxRecDepth 100000
open Go.Sort (size_swp)
theorem gl_o (x y:Txt):runP tab 1580 [.str x,.str y] []=some (.bool (ltS x y),[]):=by
 have gn:∀ x:Txt,runP tab 1587 [.str x] []=some (.bool false,[]):=by
  intro x
  refine runP_fn t1587 rfl ?_
  simp (disch:=omega) only [go_sem,d1587]
 refine runP_fn t1580 rfl ?_
 simp (disch:=omega) only [go_sem,d1580,gn,bl_lt]
end Go.Proofs.YtmckpijdjoifoaaGreat
