import Derived.Test.YtfbfbennheeglaaAp
import Derived.Test.YtfbfbennheeglaaG18m
import Derived.Test.YtfbfbennheeglaaRq
import Derived.Test.YtfbfbennheeglaaRows
import Derived.WalkKit
import Derived.ProofKit
import Derived.OpenShut
import Derived.ShutString
import Derived.ChangeOld
import Derived.Below
namespace Go.Proofs.Ytfbfbennheeglaa.progSteps
open Go.ChangeShapes Go.WideShapes Go.ChangeAt Go.RowKit
set_option linter.unusedVariables false
theorem own:ownKnob Try.prog.godebug=none:=by kernel_rfl
theorem laidOut:laidOutB Try.prog=true:=by kernel_rfl
set_option maxRecDepth 100000 in
theorem lifted (os:Os) (started:os.Started) (H:Type) (enc:TypeId × Value→H):
  ReturnsInHanded {} Try.checked os 3 .any (Rows.progStepsSpec.pre6 enc Try.prog Try.f3 Rows.progStepsRow.domain false) (Rows.progStepsSpec.post enc Try.prog Try.f3 false true false false):=by
 refine returnsInHanded_of_change (C:=Try.checked) own started (by kernel_rfl) Try.func3
  (ChangeSpec.witness6 (enc:=enc) (C:=Try.checked) false ⟨#[],#[.agg #[.int .i64 0,.int .i64 0,.int .i64 0,.slice none 0 0,.int .i64 0,.int .i64 0],.agg #[.slice none 0 0,.slice none 0 0,.slice none 0 0,.slice none 0 0],.agg #[.int .i64 0,.int .i64 0,.int .i64 0,.int .i64 0],.int .i64 0,.int .i64 0],[]⟩ 8 (by kernel_rfl) (by kernel_rfl) (by kernel_rfl) (by kernel_rfl)) ?_
 intro W base args ds gs before hval0 hW hcnd _
 have hval:∀ (j:Nat) t v,Try.f3.params[j]? = some t→args[j]? = some v→Value.okWide Try.prog W .any base t v:=hval0
 have hW':=hW
 obtain ⟨p,q,hA0,hV,rfl,hfz,hnd⟩:=hW
 have hA:DataW.TrodAll enc Try.prog W 0 (fun _=>true) true Try.f3.params.toList args.toList ds p:=hA0
 rw [Try.params3] at hA hval
 obtain ⟨v0,vs0,d0,ds0,p0,q0,hargs,rfl,rfl,t0,r0⟩:=trodAll_cons hA
 obtain ⟨v1,vs1,d1,ds1,p1,q1,rfl,rfl,rfl,t1,r1⟩:=trodAll_cons r0
 obtain ⟨v2,vs2,d2,ds2,p2,q2,rfl,rfl,rfl,t2,r2⟩:=trodAll_cons r1
 obtain ⟨v3,vs3,d3,ds3,p3,q3,rfl,rfl,rfl,t3,r3⟩:=trodAll_cons r2
 obtain ⟨v4,vs4,d4,ds4,p4,q4,rfl,rfl,rfl,t4,r4⟩:=trodAll_cons r3
 obtain ⟨rfl,rfl,rfl⟩:=trodAll_nil r4
 obtain rfl:args=#[v0,v1,v2,v3,v4]:=by cases args;simp_all
 obtain ⟨rfl,rfl⟩:=trodVars_none hV
 have lt0:∀ x∈p0,x.block<W.heap.size:=by obtain ⟨m,hm⟩:=t0;exact DataW.trod_lt m _ _ _ hm
 obtain ⟨a0,h0,c0⟩:=open_st (fid:=fid) (n:=8) (ts:=[.int .i64,.int .i64,.int .i64,.sl 1 [.str],.int .i64,.int .i64]) Try.underlying24 (by kernel_rfl) (hval 0 24 v0 rfl rfl) t0
 have lt1:∀ x∈p1,x.block<W.heap.size:=by obtain ⟨m,hm⟩:=t1;exact DataW.trod_lt m _ _ _ hm
 obtain ⟨a1,h1,c1⟩:=open_st (fid:=fid) (n:=8) (ts:=[.sl 1 [.int .i64],.sl 1 [.int .i64],.sl 1 [.int .i64],.sl 1 [.int .i64]]) Try.underlying27 (by kernel_rfl) (hval 1 27 v1 rfl rfl) t1
 have lt2:∀ x∈p2,x.block<W.heap.size:=by obtain ⟨m,hm⟩:=t2;exact DataW.trod_lt m _ _ _ hm
 obtain ⟨a2,h2,c2⟩:=open_st (fid:=fid) (n:=8) (ts:=[.int .i64,.int .i64,.int .i64,.int .i64]) Try.underlying31 (by kernel_rfl) (hval 2 31 v2 rfl rfl) t2
 have lt3:∀ x∈p3,x.block<W.heap.size:=by obtain ⟨m,hm⟩:=t3;exact DataW.trod_lt m _ _ _ hm
 obtain ⟨a3,h3,c3⟩:=open_one (fid:=fid) (n:=8) (ty:=.int .i64) (t:=3) (by kernel_rfl) (by intro fs;rw [Try.underlying3];simp) (hval 3 3 v3 rfl rfl) t3
 have lt4:∀ x∈p4,x.block<W.heap.size:=by obtain ⟨m,hm⟩:=t4;exact DataW.trod_lt m _ _ _ hm
 obtain ⟨a4,h4,c4⟩:=open_one (fid:=fid) (n:=8) (ty:=.int .i64) (t:=3) (by kernel_rfl) (by intro fs;rw [Try.underlying3];simp) (hval 4 3 v4 rfl rfl) t4
 clear hA0 hval0
 have hrun:runP tabM 1705 [.agg a0,.agg a1,.agg a2,a3,a4] []=some (.bool true,[]):=(by obtain ⟨q,rfl,l1,l2⟩:=fit_qry h0;obtain ⟨r,rfl,hf⟩:=fit_rw h1;obtain ⟨x,rfl,hv,hd⟩:=fit_ml1 h2;obtain ⟨n,rfl,_⟩:=fit_int h3;obtain ⟨s,rfl,_⟩:=fit_int h4;exact steps_law l1 l2 hf hv hd)
 have hcl:CL (mem0 Try.prog fid W) [.agg a0,.agg a1,.agg a2,a3,a4] (fun i=>(#[v0,v1,v2,v3,v4]:Array Value)[i]?):=⟨⟨_,rfl,c0⟩,⟨⟨_,rfl,c1⟩,⟨⟨_,rfl,c2⟩,⟨⟨_,rfl,c3⟩,⟨⟨_,rfl,c4⟩,trivial⟩⟩⟩⟩⟩
 refine (law_calls goodMP (f:=3) (by rfl) hrun hcl rfl).mono fun e W' ⟨he,bel⟩=>?_
 subst he
 exact ⟨_,rfl,_,_,_,[],_,[],hW',trodAll_mk1 (shut_bool Try.underlying4 _),trodAll_cons_mk (Below.trod laidOut (by kernel_rfl) (of_decide_eq_true (by kernel_rfl)) t0 bel lt0) (trodAll_cons_mk (Below.trod laidOut (by kernel_rfl) (of_decide_eq_true (by kernel_rfl)) t1 bel lt1) (trodAll_cons_mk (Below.trod laidOut (by kernel_rfl) (of_decide_eq_true (by kernel_rfl)) t2 bel lt2) (trodAll_cons_mk (Below.trod laidOut (by kernel_rfl) (of_decide_eq_true (by kernel_rfl)) t3 bel lt3) (trodAll_cons_mk (Below.trod laidOut (by kernel_rfl) (of_decide_eq_true (by kernel_rfl)) t4 bel lt4) (trodAll_mk0))))),rfl,bel.frame _,fun h=>by cases h⟩
theorem over:Rows.progStepsRow.holds Try.pinned (OpenSpec.ofChange Rows.progStepsSpec):=
 OpenClaim.holds_of_wide 3 Try.f3 rfl rfl rfl rfl rfl rfl rfl ⟨rfl,rfl,rfl,rfl,rfl⟩ rfl rfl rfl rfl rfl (by kernel_rfl) Try.func3 (by kernel_rfl)
  (of_decide_eq_true (by kernel_rfl)) (by unfold Func.isWrapper;first | (rw [if_pos (by decide +kernel)];kernel_rfl) | (rw [if_neg (by decide +kernel)];exact ⟨rfl,rfl⟩))
  (fun os started H enc _=>lifted os started H enc)
theorem proved:Rows.ProgStepsSaid:=over
#print axioms proved
end Go.Proofs.Ytfbfbennheeglaa.progSteps
