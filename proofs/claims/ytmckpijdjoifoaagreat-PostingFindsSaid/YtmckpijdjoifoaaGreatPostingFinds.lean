import Derived.Test.YtmckpijdjoifoaaGreatCv
import Derived.Test.YtmckpijdjoifoaaGreatG05zm
import Derived.Test.YtmckpijdjoifoaaGreatRq
import Derived.Test.YtmckpijdjoifoaaGreatRows
import Derived.WalkKit
import Derived.ProofKit
import Derived.OpenShut
import Derived.ShutString
import Derived.ChangeOld
import Derived.Below
namespace Go.Proofs.YtmckpijdjoifoaaGreat.postingFinds
open Go.ChangeShapes Go.WideShapes Go.ChangeAt Go.RowKit
set_option linter.unusedVariables false
theorem own:ownKnob Tryz.prog.godebug=none:=by kernel_rfl
theorem laidOut:laidOutB Tryz.prog=true:=by kernel_rfl
set_option maxRecDepth 100000 in
theorem lifted (os:Os) (started:os.Started) (H:Type) (enc:TypeId × Value→H):
  ReturnsInHanded {} Tryz.checked os 3 .any (Rows.postingFindsSpec.pre6 enc Tryz.prog Tryz.f3 Rows.postingFindsRow.domain false) (Rows.postingFindsSpec.post enc Tryz.prog Tryz.f3 false true false false):=by
 refine returnsInHanded_of_change (C:=Tryz.checked) own started (by kernel_rfl) Tryz.func3
  (ChangeSpec.witness6 (enc:=enc) (C:=Tryz.checked) false ⟨#[],#[.agg #[.int .i64 0,.slice none 0 0,.slice none 0 0],.string (ByteArray.mk #[])],[]⟩ 8 (by kernel_rfl) (by kernel_rfl) (by kernel_rfl) (by kernel_rfl)) ?_
 intro W base args ds gs before hval0 hW hcnd _
 have hval:∀ (j:Nat) t v,Tryz.f3.params[j]? = some t→args[j]? = some v→Value.okWide Tryz.prog W .any base t v:=hval0
 have hW':=hW
 obtain ⟨p,q,hA0,hV,rfl,hfz,hnd⟩:=hW
 have hA:DataW.TrodAll enc Tryz.prog W 0 (fun _=>true) true Tryz.f3.params.toList args.toList ds p:=hA0
 rw [Tryz.params3] at hA hval
 obtain ⟨v0,vs0,d0,ds0,p0,q0,hargs,rfl,rfl,t0,r0⟩:=trodAll_cons hA
 obtain ⟨v1,vs1,d1,ds1,p1,q1,rfl,rfl,rfl,t1,r1⟩:=trodAll_cons r0
 obtain ⟨rfl,rfl,rfl⟩:=trodAll_nil r1
 obtain rfl:args=#[v0,v1]:=by cases args;simp_all
 obtain ⟨rfl,rfl⟩:=trodVars_none hV
 have lt0:∀ x∈p0,x.block<W.heap.size:=by obtain ⟨m,hm⟩:=t0;exact DataW.trod_lt m _ _ _ hm
 obtain ⟨a0,h0,c0⟩:=open_st (fid:=fid) (n:=8) (ts:=[.int .i64,.sl 2 [.int .i64,.int .i64],.sl 1 [.sl 1 [.str]]]) Tryz.underlying25 (by kernel_rfl) (hval 0 25 v0 rfl rfl) t0
 have lt1:∀ x∈p1,x.block<W.heap.size:=by obtain ⟨m,hm⟩:=t1;exact DataW.trod_lt m _ _ _ hm
 obtain ⟨a1,h1,c1⟩:=open_one (fid:=fid) (n:=8) (ty:=.str) (t:=9) (by kernel_rfl) (by intro fs;rw [Tryz.underlying9];simp) (hval 1 9 v1 rfl rfl) t1
 clear hA0 hval0
 have hrun:runP tabM 1551 [.agg a0,a1] []=some (.bool true,[]):=(by obtain ⟨g,rfl,hf,_⟩:=fit_gr h0;obtain ⟨s,rfl,a⟩:=fit_str h1;exact finds_law hf a)
 have hcl:CL (mem0 Tryz.prog fid W) [.agg a0,a1] (fun i=>(#[v0,v1]:Array Value)[i]?):=⟨⟨_,rfl,c0⟩,⟨⟨_,rfl,c1⟩,trivial⟩⟩
 refine (law_calls goodMP (f:=3) (by rfl) hrun hcl rfl).mono fun e W' ⟨he,bel⟩=>?_
 subst he
 exact ⟨_,rfl,_,_,_,[],_,[],hW',trodAll_mk1 (shut_bool Tryz.underlying4 _),trodAll_cons_mk (Below.trod laidOut (by kernel_rfl) (of_decide_eq_true (by kernel_rfl)) t0 bel lt0) (trodAll_cons_mk (Below.trod laidOut (by kernel_rfl) (of_decide_eq_true (by kernel_rfl)) t1 bel lt1) (trodAll_mk0)),rfl,bel.frame _,fun h=>by cases h⟩
theorem over:Rows.postingFindsRow.holds Tryz.pinned (OpenSpec.ofChange Rows.postingFindsSpec):=
 OpenClaim.holds_of_wide 3 Tryz.f3 rfl rfl rfl rfl rfl rfl rfl ⟨rfl,rfl,rfl,rfl,rfl⟩ rfl rfl rfl rfl rfl (by kernel_rfl) Tryz.func3 (by kernel_rfl)
  (of_decide_eq_true (by kernel_rfl)) (by unfold Func.isWrapper;first | (rw [if_pos (by decide +kernel)];kernel_rfl) | (rw [if_neg (by decide +kernel)];exact ⟨rfl,rfl⟩))
  (fun os started H enc _=>lifted os started H enc)
theorem proved:Rows.PostingFindsSaid:=over
#print axioms proved
end Go.Proofs.YtmckpijdjoifoaaGreat.postingFinds
