import Derived.Test.YtgdfncnpcdafmaaKx
namespace Go.Proofs.Ytgdfncnpcdafmaa
set_option linter.unusedSimpArgs false
set_option linter.unusedVariables false
def swq (o:Option Nat) (h s:Nat) (l:List (Nat × Nat)) (st:St):Option St:=match o with
 | some id=>if id=h then swapAll l st else (swapSt st s h).bind (swapAll l)
 | none=>swapAll l st
theorem swapAll_q (s h:Nat) (l:List (Nat × Nat)) (st:St):swapAll ((s,h)::l) st=swq (lk st.env s).idof h s l st:=by
 show (swapSt st s h).bind (swapAll l)=_
 unfold swq
 cases hid:(lk st.env s).idof with
 | none=>simp only [swapSt,hid,Option.bind_some]
 | some id=>
  by_cases e:id=h
  ·simp only [swapSt,hid,e,if_true,Option.bind_some]
  ·simp only [e,if_false]
theorem swq_same (h s:Nat) (l:List (Nat × Nat)) (st:St):swq (some h) h s l st=swapAll l st:=by unfold swq;simp
theorem swq_diff {id h:Nat} (e:id≠h) (s:Nat) (l:List (Nat × Nat)) (st:St):swq (some id) h s l st=(swapSt st s h).bind (swapAll l):=by unfold swq;simp [e]
theorem swq_no (h s:Nat) (l:List (Nat × Nat)) (st:St):swq none h s l st=swapAll l st:=rfl
theorem swapAll_none (st:St):swapAll [] st=some st:=rfl
attribute [go_sem] swapAll_q swq_same swq_diff swq_no swapAll_none
end Go.Proofs.Ytgdfncnpcdafmaa
