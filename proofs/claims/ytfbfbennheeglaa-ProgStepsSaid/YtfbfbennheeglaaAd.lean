import Derived.Test.YtfbfbennheeglaaAe
import Derived.Test.YtfbfbennheeglaaHy
import Derived.Test.YtfbfbennheeglaaIb
namespace Go.Proofs.Ytfbfbennheeglaa
set_option linter.unusedSimpArgs false
set_option linter.unusedVariables false
set_option maxHeartbeats 4000000
set_option maxRecDepth 100000
def rowX (r:Rw) (x:Ml):List Int:=if x.b=1 then rowI r.roff r.rev x.v.toNat else rowI r.off r.to x.v.toNat
def nxL (r:Rw) (x:Ml):List Ml:=(rowX r x).map fun w=>⟨x.s,x.b,w,x.d+1⟩
def nxO (r:Rw) (x:Ml):Prop:=(0≤x.b∧x.b≤1)∧(0≤x.v∧x.v<(r.off.length:Int) - 1)∧(0≤x.d∧x.d≤200)
instance (r:Rw) (x:Ml):Decidable (nxO r x):=by unfold nxO;infer_instance
noncomputable def nxT (q:Req) (r:Rw) (x:Ml):AV:=
 if chk r=true then (if nxO r x then (if q.qk=3∧q.radius≤x.d then .tup [.vec 4 [],.int .i64 0] else .tup [.vec 4 (mls (nxL r x)),.int .i64 0]) else .tup [.vec 4 [],.int .i64 1]) else .tup [.vec 4 [],.int .i64 40]
theorem rowX_len {r:Rw} (h:r.ok) {x:Ml} (hx:nxO r x):(rowX r x).length≤2000:=by
 obtain ⟨_,h2,_⟩:=hx
 unfold rowX
 split
 ·exact row_le' h (by have:=h.l;omega)
 ·exact row_le h (by omega)
theorem mls_snocX (l:List Ml) (a b c d:Int):mls l++[AV.int .i64 a,.int .i64 b,.int .i64 c,.int .i64 d]=mls (l++[⟨a,b,c,d⟩]):=by rw [←mls_app];rfl
def nxS (q:Req) (r:Rw) (s b v d:Int) (R:List Int) (i:Nat):St:=⟨[(5,.ref 2 0),(11,.own 4 4),(68,.own 1 3),(69,.int .i64 (R.length:Int)),(70,.int .i64 (i:Int))],[.row false (qryS q),.row false (rwS r),.row false [.int .i64 s,.int .i64 b,.int .i64 v,.int .i64 d],.row false (ints R),.row false (mls ((R.take i).map fun w=>(⟨s,b,w,d+1⟩:Ml)))],0,[(0,5,[5,11,68,69,70],[(5,2),(11,4),(68,3)])]⟩
theorem mapM_snoc (s b d:Int) (R:List Int) {i:Nat} (hi:i<R.length):(R.take (i+1)).map (fun w=>(⟨s,b,w,d⟩:Ml))=(R.take i).map (fun w=>(⟨s,b,w,d⟩:Ml))++[⟨s,b,R.getD i 0,d⟩]:=by
 rw [take_snoc 0 hi,List.map_append];rfl
theorem nx_step {q:Req} {r:Rw} {s b v d:Int} {R:List Int} {i:Nat} (hR:R.length≤2000) (hd:0≤d∧d≤200) (hi:i<R.length):Ev tab d1711_b0 (nxS q r s b v d R i) (fun x st=>x=.normal∧st=nxS q r s b v d R (i+1)):=by
 have L:=ints_length R
 have e1:=ints_rdc0 hi
 have lm:((R.take i).map fun w=>(⟨s,b,w,d+1⟩:Ml)).length=i:=by rw [List.length_map,List.length_take];omega
 unfold nxS
 rw [mapM_snoc _ _ _ _ hi]
 generalize (R.take i).map (fun w=>(⟨s,b,w,d+1⟩:Ml))=M at *
 have Lm:=mls_len M
 simp (disch:=omega) only [go_sem,d1711_b0,qryS,rwS,L,e1,Lm,lm,mls_snocX]
theorem nextQ_run {q:Req} {r:Rw} {x:Ml} (hr:okR r) (hv:I64 x.v) (hd:I64 x.d):runP tab 1711 [.agg (qryS q),.agg (rwS r),.agg (mlC x)] []=some (nxT q r x,[]):=by
 refine runP_fn t1711 rfl ?_
 have go:=out_run (v:=x.v) hr hv
 have gi:=in_run (v:=x.v) hr hv
 have gc:=hr.check
 unfold nxT
 simp only [rwS] at go gi gc
 by_cases hc:chk r=true
 case neg=>
  rw [if_neg hc]
  have hc':chk r=false:=by simpa using hc
  rw [hc'] at gc
  rw [told1,if_neg (fun h=>hc h.1)] at go gi
  by_cases hb:x.b=1
  ·simp (disch:=omega) only [go_sem,d1711,qryS,rwS,mlC,go,gi,gc,hb]
  ·simp (disch:=omega) only [go_sem,d1711,qryS,rwS,mlC,go,gi,gc,hb]
 rw [if_pos hc]
 rw [hc] at gc
 have ok:=chk_iff.1 hc
 have hl:=ok.l
 have hlo:=ok.f.lo
 have hhi:=ok.f.hi
 by_cases hp:0≤x.v∧x.v<(r.off.length:Int) - 1
 case neg=>
  rw [if_neg (fun h:nxO r x=>hp h.2.1)]
  rw [told1,if_neg (fun h=>hp ⟨h.2.1,by have:=h.2.2;omega⟩)] at go
  rw [told1,if_neg (fun h=>hp ⟨h.2.1,by have:=h.2.2;omega⟩)] at gi
  by_cases hb:x.b=1
  ·simp (disch:=omega) only [go_sem,d1711,qryS,rwS,mlC,go,gi,gc,hb]
  ·simp (disch:=omega) only [go_sem,d1711,qryS,rwS,mlC,go,gi,gc,hb]
 rw [told1,if_pos ⟨hc,hp.1,by omega⟩] at go
 rw [told1,if_pos ⟨hc,hp.1,by omega⟩] at gi
 have L1:=ints_length (rowI r.off r.to x.v.toNat)
 have L2:=ints_length (rowI r.roff r.rev x.v.toNat)
 by_cases h0:nxO r x
 case neg=>
  rw [if_neg h0]
  generalize rowI r.off r.to x.v.toNat=R1 at *
  generalize rowI r.roff r.rev x.v.toNat=R2 at *
  have hn:x.b<0∨1<x.b∨x.d<0∨200<x.d:=by unfold nxO at h0;omega
  by_cases hb:x.b=1
  ·by_cases h3:x.d<0
   ·simp (disch:=omega) only [go_sem,d1711,qryS,rwS,mlC,go,gi,gc,hb]
   ·simp (disch:=omega) only [go_sem,d1711,qryS,rwS,mlC,go,gi,gc,hb]
  ·by_cases h1:x.b<0
   ·simp (disch:=omega) only [go_sem,d1711,qryS,rwS,mlC,go,gi,gc,hb]
   ·by_cases h2:1<x.b
    ·simp (disch:=omega) only [go_sem,d1711,qryS,rwS,mlC,go,gi,gc,hb]
    ·by_cases h3:x.d<0
     ·simp (disch:=omega) only [go_sem,d1711,qryS,rwS,mlC,go,gi,gc,hb]
     ·simp (disch:=omega) only [go_sem,d1711,qryS,rwS,mlC,go,gi,gc,hb]
 rw [if_pos h0]
 have hlen:=rowX_len ok h0
 obtain ⟨hb01,hp2,hd2⟩:=h0
 by_cases hb:x.b=1
 ·have eR:nxL r x=(rowI r.roff r.rev x.v.toNat).map (fun w=>(⟨x.s,x.b,w,x.d+1⟩:Ml)):=by rw [nxL,rowX,if_pos hb]
  rw [rowX,if_pos hb] at hlen
  rw [eR]
  generalize rowI r.off r.to x.v.toNat=R1 at *
  generalize rowI r.roff r.rev x.v.toNat=R at *
  by_cases h3:q.qk=3∧q.radius≤x.d
  ·obtain ⟨h4,h5⟩:=h3
   simp (disch:=omega) only [go_sem,d1711,qryS,rwS,mlC,go,gi,gc,hb,h4,h5,and_self]
  rw [if_neg h3]
  by_cases h4:q.qk=3
  ·have h5:¬ q.radius≤x.d:=fun h=>h3 ⟨h4,h⟩
   simp (disch:=omega) only [go_sem,d1711,qryS,rwS,mlC,go,gi,gc,hb,h4,h5,L2]
   refine Ev_loop0 (fun i=>nxS { q with qk:=3 } r x.s 1 x.v x.d R i) R.length (by simp [nxS,qryS,rwS,mls]) (fun i hi=>nx_step hlen ⟨by omega,by omega⟩ hi) ?_
   rw [nxS,List.take_length]
   simp (disch:=omega) only [go_sem,d1711_b0,qryS,rwS,L2]
  ·simp (disch:=omega) only [go_sem,d1711,qryS,rwS,mlC,go,gi,gc,hb,h4,L2]
   refine Ev_loop0 (fun i=>nxS q r x.s 1 x.v x.d R i) R.length (by simp [nxS,qryS,rwS,mls]) (fun i hi=>nx_step hlen ⟨by omega,by omega⟩ hi) ?_
   rw [nxS,List.take_length]
   simp (disch:=omega) only [go_sem,d1711_b0,qryS,rwS,L2]
 ·have eR:nxL r x=(rowI r.off r.to x.v.toNat).map (fun w=>(⟨x.s,x.b,w,x.d+1⟩:Ml)):=by rw [nxL,rowX,if_neg hb]
  rw [rowX,if_neg hb] at hlen
  rw [eR]
  generalize rowI r.roff r.rev x.v.toNat=R1 at *
  generalize rowI r.off r.to x.v.toNat=R at *
  by_cases h3:q.qk=3∧q.radius≤x.d
  ·obtain ⟨h4,h5⟩:=h3
   simp (disch:=omega) only [go_sem,d1711,qryS,rwS,mlC,go,gi,gc,hb,h4,h5,and_self]
  rw [if_neg h3]
  by_cases h4:q.qk=3
  ·have h5:¬ q.radius≤x.d:=fun h=>h3 ⟨h4,h⟩
   simp (disch:=omega) only [go_sem,d1711,qryS,rwS,mlC,go,gi,gc,hb,h4,h5,L1]
   refine Ev_loop0 (fun i=>nxS { q with qk:=3 } r x.s x.b x.v x.d R i) R.length (by simp [nxS,qryS,rwS,mls]) (fun i hi=>nx_step hlen ⟨by omega,by omega⟩ hi) ?_
   rw [nxS,List.take_length]
   simp (disch:=omega) only [go_sem,d1711_b0,qryS,rwS,L1]
  ·simp (disch:=omega) only [go_sem,d1711,qryS,rwS,mlC,go,gi,gc,hb,h4,L1]
   refine Ev_loop0 (fun i=>nxS q r x.s x.b x.v x.d R i) R.length (by simp [nxS,qryS,rwS,mls]) (fun i hi=>nx_step hlen ⟨by omega,by omega⟩ hi) ?_
   rw [nxS,List.take_length]
   simp (disch:=omega) only [go_sem,d1711_b0,qryS,rwS,L1]
def rnA (q:Req) (r:Rw) (s b v d:Int) (R1 R:List Int) (i:Nat):St:=⟨[(5,.ref 2 0),(8,.ref 3 0),(9,.own 1 5),(13,.own 4 6),(14,.int .i64 (i:Int))],[.row false (qryS q),.row false (rwS r),.row false [.int .i64 s,.int .i64 b,.int .i64 v,.int .i64 d],.row false [.int .i64 s,.int .i64 b,.int .i64 v],.row false (ints R1),.row false (ints R),.row false (mls ((R.take i).map fun w=>(⟨s,b,w,d+1⟩:Ml)))],0,[(0,7,[5,8,9,13,14],[(5,2),(8,3),(9,5),(13,6)])]⟩
theorem rnA_step {q:Req} {r:Rw} {s b v d:Int} {R1 R:List Int} {i:Nat} (hR:R.length≤2000) (hd:0≤d∧d≤200) (hi:i<R.length):Ev tab d1712_b0 (rnA q r s b v d R1 R i) (fun x st=>x=.normal∧st=rnA q r s b v d R1 R (i+1)):=by
 have L:=ints_length R
 have e1:=ints_rdc0 hi
 have lm:((R.take i).map fun w=>(⟨s,b,w,d+1⟩:Ml)).length=i:=by rw [List.length_map,List.length_take];omega
 unfold rnA
 rw [mapM_snoc _ _ _ _ hi]
 generalize (R.take i).map (fun w=>(⟨s,b,w,d+1⟩:Ml))=M at *
 have Lm:=mls_len M
 simp (disch:=omega) only [go_sem,d1712_b0,qryS,rwS,L,e1,Lm,lm,mls_snocX]
def rnB (q:Req) (r:Rw) (s b v d:Int) (R1 R:List Int) (i:Nat):St:=⟨[(5,.ref 2 0),(8,.ref 3 0),(9,.own 1 4),(13,.own 4 5),(14,.int .i64 (i:Int))],[.row false (qryS q),.row false (rwS r),.row false [.int .i64 s,.int .i64 b,.int .i64 v,.int .i64 d],.row false [.int .i64 s,.int .i64 b,.int .i64 v],.row false (ints R),.row false (mls ((R.take i).map fun w=>(⟨s,b,w,d+1⟩:Ml)))],0,[(0,6,[5,8,9,13,14],[(5,2),(8,3),(9,4),(13,5)])]⟩
theorem rnB_step {q:Req} {r:Rw} {s b v d:Int} {R1 R:List Int} {i:Nat} (hR:R.length≤2000) (hd:0≤d∧d≤200) (hi:i<R.length):Ev tab d1712_b0 (rnB q r s b v d R1 R i) (fun x st=>x=.normal∧st=rnB q r s b v d R1 R (i+1)):=by
 have L:=ints_length R
 have e1:=ints_rdc0 hi
 have lm:((R.take i).map fun w=>(⟨s,b,w,d+1⟩:Ml)).length=i:=by rw [List.length_map,List.length_take];omega
 unfold rnB
 rw [mapM_snoc _ _ _ _ hi]
 generalize (R.take i).map (fun w=>(⟨s,b,w,d+1⟩:Ml))=M at *
 have Lm:=mls_len M
 simp (disch:=omega) only [go_sem,d1712_b0,qryS,rwS,L,e1,Lm,lm,mls_snocX]
theorem rnextQ_run {q:Req} {r:Rw} {x:Ml} (hr:okR r) (hv:I64 x.v) (hd:I64 x.d):runP tab 1712 [.agg (qryS q),.agg (rwS r),.agg (mlC x)] []=some (nxT q r x,[]):=by
 refine runP_fn t1712 rfl ?_
 have go:=rout_run (v:=x.v) hr hv
 have gi:=rinn_run (v:=x.v) hr hv
 have gc:=rcheck_run hr
 unfold nxT
 simp only [rwS] at go gi gc
 by_cases hc:chk r=true
 case neg=>
  rw [if_neg hc]
  have hc':chk r=false:=by simpa using hc
  rw [hc'] at gc
  simp (disch:=omega) only [go_sem,d1712,qryS,rwS,mlC,gc]
 rw [if_pos hc]
 rw [hc] at gc
 have ok:=chk_iff.1 hc
 have hl:=ok.l
 have hlo:=ok.f.lo
 have hhi:=ok.f.hi
 by_cases h0:nxO r x
 case neg=>
  rw [if_neg h0]
  by_cases h1:x.b<0
  ·simp (disch:=omega) only [go_sem,d1712,qryS,rwS,mlC,gc]
  by_cases h2:1<x.b
  ·simp (disch:=omega) only [go_sem,d1712,qryS,rwS,mlC,gc]
  by_cases h3:x.v<0
  ·simp (disch:=omega) only [go_sem,d1712,qryS,rwS,mlC,gc]
  by_cases h4:(r.off.length:Int) - 1≤x.v
  ·simp (disch:=omega) only [go_sem,d1712,qryS,rwS,mlC,gc]
  by_cases h5:x.d<0
  ·simp (disch:=omega) only [go_sem,d1712,qryS,rwS,mlC,gc]
  by_cases h6:200<x.d
  ·simp (disch:=omega) only [go_sem,d1712,qryS,rwS,mlC,gc]
  ·exact absurd ⟨⟨by omega,by omega⟩,⟨by omega,by omega⟩,by omega,by omega⟩ h0
 rw [if_pos h0]
 have hlen:=rowX_len ok h0
 obtain ⟨hb01,hp2,hd2⟩:=h0
 rw [told1,if_pos ⟨hc,hp2.1,by omega⟩] at go
 rw [told1,if_pos ⟨hc,hp2.1,by omega⟩] at gi
 have L1:=ints_length (rowI r.off r.to x.v.toNat)
 have L2:=ints_length (rowI r.roff r.rev x.v.toNat)
 have l1:(rowI r.off r.to x.v.toNat).length≤2000:=row_le ok (by omega)
 by_cases h3:q.qk=3∧q.radius≤x.d
 ·obtain ⟨h4,h5⟩:=h3
  simp (disch:=omega) only [go_sem,d1712,qryS,rwS,mlC,gc,h4,h5,and_self]
 rw [if_neg h3]
 by_cases hb:x.b=1
 ·have eR:nxL r x=(rowI r.roff r.rev x.v.toNat).map (fun w=>(⟨x.s,x.b,w,x.d+1⟩:Ml)):=by rw [nxL,rowX,if_pos hb]
  rw [rowX,if_pos hb] at hlen
  rw [eR]
  generalize rowI r.off r.to x.v.toNat=R1 at *
  generalize rowI r.roff r.rev x.v.toNat=R at *
  by_cases h4:q.qk=3
  ·have h5:¬ q.radius≤x.d:=fun h=>h3 ⟨h4,h⟩
   simp (disch:=omega) only [go_sem,d1712,qryS,rwS,mlC,go,gi,gc,hb,h4,h5,L2]
   refine Ev_loop0 (fun i=>rnA { q with qk:=3 } r x.s 1 x.v x.d R1 R i) R.length (by simp [rnA,qryS,rwS,mls]) (fun i hi=>rnA_step hlen ⟨by omega,by omega⟩ hi) ?_
   rw [rnA,List.take_length]
   simp (disch:=omega) only [go_sem,d1712_b0,qryS,rwS,L2]
  ·simp (disch:=omega) only [go_sem,d1712,qryS,rwS,mlC,go,gi,gc,hb,h4,L2]
   refine Ev_loop0 (fun i=>rnA q r x.s 1 x.v x.d R1 R i) R.length (by simp [rnA,qryS,rwS,mls]) (fun i hi=>rnA_step hlen ⟨by omega,by omega⟩ hi) ?_
   rw [rnA,List.take_length]
   simp (disch:=omega) only [go_sem,d1712_b0,qryS,rwS,L2]
 ·have eR:nxL r x=(rowI r.off r.to x.v.toNat).map (fun w=>(⟨x.s,x.b,w,x.d+1⟩:Ml)):=by rw [nxL,rowX,if_neg hb]
  rw [rowX,if_neg hb] at hlen
  rw [eR]
  generalize rowI r.off r.to x.v.toNat=R at *
  generalize rowI r.roff r.rev x.v.toNat=R1 at *
  by_cases h4:q.qk=3
  ·have h5:¬ q.radius≤x.d:=fun h=>h3 ⟨h4,h⟩
   simp (disch:=omega) only [go_sem,d1712,qryS,rwS,mlC,go,gi,gc,hb,h4,h5,L1]
   refine Ev_loop0 (fun i=>rnB { q with qk:=3 } r x.s x.b x.v x.d R1 R i) R.length (by simp [rnB,qryS,rwS,mls]) (fun i hi=>rnB_step hlen ⟨by omega,by omega⟩ hi) ?_
   rw [rnB,List.take_length]
   simp (disch:=omega) only [go_sem,d1712_b0,qryS,rwS,L1]
  ·simp (disch:=omega) only [go_sem,d1712,qryS,rwS,mlC,go,gi,gc,hb,h4,L1]
   refine Ev_loop0 (fun i=>rnB q r x.s x.b x.v x.d R1 R i) R.length (by simp [rnB,qryS,rwS,mls]) (fun i hi=>rnB_step hlen ⟨by omega,by omega⟩ hi) ?_
   rw [rnB,List.take_length]
   simp (disch:=omega) only [go_sem,d1712_b0,qryS,rwS,L1]
end Go.Proofs.Ytfbfbennheeglaa
