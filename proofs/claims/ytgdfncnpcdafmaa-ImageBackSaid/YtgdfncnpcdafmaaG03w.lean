import Derived.Test.YtgdfncnpcdafmaaG03
import Derived.Test.YtgdfncnpcdafmaaJd
namespace Go.Proofs.Ytgdfncnpcdafmaa
set_option linter.unusedSimpArgs false
set_option linter.unusedVariables false
set_option maxRecDepth 1000000
def cSeqL:Code→Code
 | .seq a _=>a
 | _=>.skip
def cSeqR:Code→Code
 | .seq _ b=>b
 | _=>.skip
def cThn:Code→Code
 | .cond _ a _=>a
 | _=>.skip
def cId:Code→Nat
 | .region id _ _=>id
 | _=>0
def cOp (c:Code) (i:Nat):Oper:=match c with
 | .region _ ops _=>ops[i]?.getD default
 | _=>default
def cTy:Op→TypeId
 | .binOp _ t _ _ _=>t
 | _=>0
def cTz:Op→TypeId
 | .binOp _ _ _ _ t=>t
 | _=>0
theorem fid_one {k n:Nat} (h:(fidL.all fun p=>!(p.2 == k) || p.1 == n)=true) {f:Nat} (hf:fid f=some k):f=n:=by
 have:=List.all_eq_true.1 h (f,k) (fid_mem hf)
 simpa using this
theorem need_is:NeedIs Try.prog:=by
 intro f fn hf hfn
 have:=fid_one (n:=45) (by kernel_rfl) hf
 subst this
 have e:Try.prog.funcs[45]? = some Try.f45:=by kernel_rfl
 rw [e] at hfn
 injection hfn with hfn;subst hfn
 show lastPan (Try.f45.body.getD .skip)=true
 kernel_rfl
noncomputable abbrev cWR:Code:=Try.f28.body.getD .skip
noncomputable abbrev cBR:Code:=Try.f44.body.getD .skip
theorem catchR_is:Catch Try.prog fid 28 23 6 wA0 wR2 wR3 wR4 wR5 wB1 wB2 wRs:=by
 refine ⟨Try.f28,cSeqL cWR,cId (cSeqL (cSeqR cWR)),cOp (cSeqL (cSeqR cWR)) 0,cOp (cSeqL (cSeqR cWR)) 1,cSeqR (cSeqR cWR),44,Try.f44,cId (cSeqL cBR),cOp (cSeqL cBR) 0,cOp (cSeqL cBR) 1,cThn (cSeqR cBR),by kernel_rfl,by kernel_rfl,by kernel_rfl,by kernel_rfl,⟨by kernel_rfl,by kernel_rfl,fun _=>by kernel_rfl⟩,⟨by kernel_rfl,by kernel_rfl,fun _=>by kernel_rfl⟩,by kernel_rfl,⟨by kernel_rfl,by kernel_rfl,by kernel_rfl⟩,⟨by kernel_rfl,by kernel_rfl,by kernel_rfl⟩,by kernel_rfl,by kernel_rfl,by kernel_rfl,by kernel_rfl,by kernel_rfl,⟨by kernel_rfl,by kernel_rfl,by kernel_rfl⟩,?_,⟨by kernel_rfl,by kernel_rfl,fun _=>by kernel_rfl⟩⟩
 exact ⟨cTy (cOp (cSeqL cBR) 1).op,cTz (cOp (cSeqL cBR) 1).op,#[],by kernel_rfl,by kernel_rfl,by kernel_rfl,by kernel_rfl⟩
theorem goodMP:Good Try.prog fid tabM:=by
 refine goodM_of goodP need_is (fun f h=>?_)
 rw [fid_one (n:=28) (by kernel_rfl) h];exact catchR_is
end Go.Proofs.Ytgdfncnpcdafmaa
