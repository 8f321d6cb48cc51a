import Derived.Test.YtfbfbennheeglaaHx
namespace Go.Proofs.Ytfbfbennheeglaa
set_option linter.unusedSimpArgs false
set_option linter.unusedVariables false
set_option maxHeartbeats 4000000
set_option maxRecDepth 100000
theorem rrow_run {off to:List Int} (H:Lay off to) {v:Nat} (hv:v+1<off.length):runP tab 1206 [.sl 1 (ints off),.sl 1 (ints to),.int .i64 (v:Int)] []=some (.vec 1 (ints (rowI off to v)),[]):=by
 refine runP_fn t1206 rfl ?_
 have h2:=H.hi
 have h3:=H.tl
 have a1:=H.gn (v:=v) (by omega)
 have a2:=H.gn (v:=v+1) (by omega)
 have a3:=H.om (v:=v) (by omega)
 have a4:=H.ole (v:=v+1) (by omega)
 simp only [gi] at a1 a2
 have q2:((v:Int)+1).toNat=v+1:=by omega
 have gl:=owni_run (l:=List.take (oi off (v+1) - oi off v) (List.drop (oi off v) to)) (by rw [List.length_take,List.length_drop];omega)
 rw [rowI]
 simp (disch:=omega) only [go_sem,d1206,a1,a2,q2,gl]
theorem rin_run {l:List Int} {x:Int} (hl:l.length≤1000000):runP tab 1207 [.sl 1 (ints l),.int .i64 x] []=some (.bool (decide (x∈l)),[]):=by
 refine runP_fn t1207 rfl ?_
 simp (disch:=omega) only [go_sem,d1207]
 rcases first_ix' (fun i=>l.getD i 0≠x) l.length with h | ⟨m,h1,h2,h3⟩
 ·rw [decide_eq_false fun hx=>by obtain ⟨i,hi,e⟩:=memI.1 hx;exact h i hi e]
  refine Ev_loop0 (fun i=>⟨[(0,.sl 1 (ints l)),(1,.int .i64 x),(5,.int .i64 (i:Int))],[],0,[(0,0,[0,1,5],[])]⟩) l.length rfl (fun i hi=>?_) ?_
  ·have q:=h i hi
   simp (disch:=omega) only [go_sem,d1207_b0,q]
  ·simp (disch:=omega) only [go_sem,d1207_b0]
 ·have h3:l.getD m 0=x:=Classical.not_not.1 h3
  rw [decide_eq_true (memI.2 ⟨m,h1,h3⟩)]
  refine Ev_loop0 (fun i=>⟨[(0,.sl 1 (ints l)),(1,.int .i64 x),(5,.int .i64 (i:Int))],[],0,[(0,0,[0,1,5],[])]⟩) m rfl (fun i hi=>?_) ?_
  ·have q:=h2 i hi
   simp (disch:=omega) only [go_sem,d1207_b0,q]
  ·simp (disch:=omega) only [go_sem,d1207_b0,h3]
theorem rh_num {off to:List Int} (H:Lay off to) {v i:Nat} (hv:v+1<off.length) (hi:i<oi off (v+1) - oi off v) (hg:good off to v (oi off v+i)):
  Ev tab d1205_b2 ⟨[(0,.sl 1 (ints off)),(1,.sl 1 (ints to)),(6,.int .i64 ((v:Int)+1)),(7,.int .i64 ((oi off v+i:Nat):Int))],[],0,[(2,0,[0,1,6,7],[]),(1,0,[0,1,6],[]),(0,0,[0,1,5],[])]⟩ (fun x st=>x=.normal∧st=⟨[(0,.sl 1 (ints off)),(1,.sl 1 (ints to)),(6,.int .i64 ((v:Int)+1)),(7,.int .i64 ((oi off v+(i+1):Nat):Int))],[],0,[(2,0,[0,1,6,7],[]),(1,0,[0,1,6],[]),(0,0,[0,1,5],[])]⟩):=by
 have h2:=H.hi
 have h3:=H.tl
 have a1:=H.gn (v:=v) (by omega)
 have a2:=H.gn (v:=v+1) (by omega)
 have a4:=H.ole (v:=v+1) (by omega)
 obtain ⟨g1,g2,g3⟩:=hg
 simp only [gi] at a1 a2 g1 g2 g3
 have q2:((v:Int)+1).toNat=v+1:=by omega
 have q3:((v:Int)+1) - 1=(v:Int):=by omega
 have q5:((oi off v+(i+1):Nat):Int)=((oi off v+i:Nat):Int)+1:=by omega
 generalize hk:oi off v+i=k at *
 rw [q5]
 by_cases h0:oi off v<k
 ·have g4:=g3 h0
  have q4:(k:Int) - 1=((k - 1:Nat):Int):=by omega
  simp (disch:=omega) only [go_sem,d1205_b2,a1,a2,q2,q3,q4]
 ·simp (disch:=omega) only [go_sem,d1205_b2,a1,a2,q2,q3]
theorem rh_row {off to:List Int} (H:Lay off to) {v:Nat} (hv:v+1<off.length) (hg:goodV off to v):
  Ev tab d1205_b1 ⟨[(0,.sl 1 (ints off)),(1,.sl 1 (ints to)),(6,.int .i64 ((v:Int)+1))],[],0,[(1,0,[0,1,6],[]),(0,0,[0,1,5],[])]⟩ (fun x st=>x=.normal∧st=⟨[(0,.sl 1 (ints off)),(1,.sl 1 (ints to)),(6,.int .i64 (((v+1:Nat):Int)+1))],[],0,[(1,0,[0,1,6],[]),(0,0,[0,1,5],[])]⟩):=by
 have h2:=H.hi
 have h3:=H.tl
 have a1:=H.gn (v:=v) (by omega)
 have a2:=H.gn (v:=v+1) (by omega)
 have a3:=H.om (v:=v) (by omega)
 have a4:=H.ole (v:=v+1) (by omega)
 simp only [gi] at a1 a2
 have q2:((v:Int)+1).toNat=v+1:=by omega
 have q3:((v:Int)+1) - 1=(v:Int):=by omega
 simp (disch:=omega) only [go_sem,d1205_b1,a1,a2,q2,q3]
 refine Ev_loop0 (fun i=>⟨[(0,.sl 1 (ints off)),(1,.sl 1 (ints to)),(6,.int .i64 ((v:Int)+1)),(7,.int .i64 ((oi off v+i:Nat):Int))],[],0,[(2,0,[0,1,6,7],[]),(1,0,[0,1,6],[]),(0,0,[0,1,5],[])]⟩) (oi off (v+1) - oi off v) (by simp) (fun i hi=>rh_num H hv hi (hg i hi)) ?_
 have q4:oi off v+(oi off (v+1) - oi off v)=oi off (v+1):=by omega
 simp (disch:=omega) only [go_sem,d1205_b2,a1,a2,q2,q3,q4]
theorem rhalf_run {off to:List Int} (ho:off.length≤1000000) (ht:to.length≤1000000):runP tab 1205 [.sl 1 (ints off),.sl 1 (ints to)] []=some (.bool (halfB off to),[]):=by
 by_cases k1:2≤off.length
 case neg=>
  rw [half_no fun h=>k1 h.lo]
  refine runP_fn t1205 rfl ?_
  simp (disch:=omega) only [go_sem,d1205]
 by_cases k2:off.length≤201
 case neg=>
  rw [half_no fun h=>k2 h.hi]
  refine runP_fn t1205 rfl ?_
  simp (disch:=omega) only [go_sem,d1205]
 have e0:rdc (ints off) none=some (.int .i64 (off.getD 0 0)):=by
  have:=ints_rdc0 (l:=off) (i:=0) (by omega)
  rwa [List.drop_zero] at this
 by_cases k4:gi off 0=0
 case neg=>
  rw [half_no fun h=>k4 h.z]
  refine runP_fn t1205 rfl ?_
  simp only [gi] at k4
  simp (disch:=omega) only [go_sem,d1205,e0]
 have k4':=k4
 simp only [gi] at k4'
 have q1:(off.length:Int) - 1=((off.length - 1:Nat):Int):=by omega
 by_cases k5:gi off (off.length - 1)=to.length
 case neg=>
  rw [half_no fun h=>k5 h.e]
  refine runP_fn t1205 rfl ?_
  simp only [gi] at k5
  simp (disch:=omega) only [go_sem,d1205,e0,k4',q1]
 have k5':=k5
 simp only [gi] at k5'
 by_cases k3:to.length≤2000
 case neg=>
  rw [half_no fun h=>k3 h.tl]
  refine runP_fn t1205 rfl ?_
  simp (disch:=omega) only [go_sem,d1205,e0,k4',q1,k5']
 refine runP_fn t1205 rfl ?_
 simp (disch:=omega) only [go_sem,d1205,e0,k4',q1,k5']
 rcases first_ix' (fun v=>gi off v≤gi off (v+1)) (off.length - 1) with h | ⟨m,m1,m2,m3⟩
 ·refine Ev_loop0 (fun v=>⟨[(0,.sl 1 (ints off)),(1,.sl 1 (ints to)),(5,.int .i64 ((v:Int)+1))],[],0,[(0,0,[0,1,5],[])]⟩) (off.length - 1) rfl (fun v hv=>?_) ?_
  ·have q:=h v hv
   simp only [gi] at q
   have q2:((v:Int)+1).toNat=v+1:=by omega
   have q3:((v:Int)+1) - 1=(v:Int):=by omega
   simp (disch:=omega) only [go_sem,d1205_b0,q2,q3]
  ·simp (disch:=omega) only [go_sem,d1205_b0]
   have H:Lay off to:=⟨k1,k2,k3,k4,k5,fun v hv=>h v (by omega)⟩
   rcases first_ix' (fun v=>goodV off to v) (off.length - 1) with hg | ⟨v,hv,hb,hbad⟩
   ·rw [half_yes ⟨H.lo,H.hi,H.tl,H.z,H.e,H.mono,fun v hv k h1 h2=>by
     have:=hg v (by omega) (k - oi off v) (by omega)
     rw [show oi off v+(k - oi off v)=k by omega] at this
     exact this⟩]
    refine Ev_loop0 (fun v=>⟨[(0,.sl 1 (ints off)),(1,.sl 1 (ints to)),(6,.int .i64 ((v:Int)+1))],[],0,[(1,0,[0,1,6],[]),(0,0,[0,1,5],[])]⟩) (off.length - 1) rfl (fun v hv=>rh_row H (by omega) (hg v hv)) ?_
    simp (disch:=omega) only [go_sem,d1205_b1]
   ·rw [half_no fun h=>hbad fun i hi=>h.pl v (by omega) (oi off v+i) (by omega) (by omega)]
    refine Ev_loop0 (fun v=>⟨[(0,.sl 1 (ints off)),(1,.sl 1 (ints to)),(6,.int .i64 ((v:Int)+1))],[],0,[(1,0,[0,1,6],[]),(0,0,[0,1,5],[])]⟩) v rfl (fun u hu=>rh_row H (by omega) (hb u hu)) ?_
    have a1:=H.gn (v:=v) (by omega)
    have a2:=H.gn (v:=v+1) (by omega)
    have a3:=H.om (v:=v) (by omega)
    have a4:=H.ole (v:=v+1) (by omega)
    simp only [gi] at a1 a2
    have q2:((v:Int)+1).toNat=v+1:=by omega
    have q3:((v:Int)+1) - 1=(v:Int):=by omega
    simp (disch:=omega) only [go_sem,d1205_b1,a1,a2,q2,q3]
    rcases first_ix' (fun i=>good off to v (oi off v+i)) (oi off (v+1) - oi off v) with hgi | ⟨i,hi,hbi,hbadi⟩
    ·exact absurd hgi hbad
    refine Ev_loop0 (fun i=>⟨[(0,.sl 1 (ints off)),(1,.sl 1 (ints to)),(6,.int .i64 ((v:Int)+1)),(7,.int .i64 ((oi off v+i:Nat):Int))],[],0,[(2,0,[0,1,6,7],[]),(1,0,[0,1,6],[]),(0,0,[0,1,5],[])]⟩) i (by simp) (fun j hj=>rh_num H (by omega) (by omega) (hbi j hj)) ?_
    generalize hk:oi off v+i=k at *
    unfold good at hbadi
    simp only [gi] at hbadi
    by_cases g1:to.getD k 0<0
    ·simp (disch:=omega) only [go_sem,d1205_b2,a1,a2,q2,q3]
    ·by_cases g2:to.getD k 0<(off.length:Int) - 1
     ·have h0:oi off v<k:=by
       refine Classical.byContradiction fun h=>hbadi ⟨by omega,g2,fun h2=>absurd h2 h⟩
      have g4:¬ to.getD (k - 1) 0<to.getD k 0:=fun h=>hbadi ⟨by omega,g2,fun _=>h⟩
      have q4:(k:Int) - 1=((k - 1:Nat):Int):=by omega
      simp (disch:=omega) only [go_sem,d1205_b2,a1,a2,q2,q3,q4]
     ·simp (disch:=omega) only [go_sem,d1205_b2,a1,a2,q2,q3]
 ·rw [half_no fun h=>m3 (h.mono m (by omega))]
  refine Ev_loop0 (fun v=>⟨[(0,.sl 1 (ints off)),(1,.sl 1 (ints to)),(5,.int .i64 ((v:Int)+1))],[],0,[(0,0,[0,1,5],[])]⟩) m rfl (fun v hv=>?_) ?_
  ·have q:=m2 v hv
   simp only [gi] at q
   have q2:((v:Int)+1).toNat=v+1:=by omega
   have q3:((v:Int)+1) - 1=(v:Int):=by omega
   simp (disch:=omega) only [go_sem,d1205_b0,q2,q3]
  ·have q:=m3
   simp only [gi] at q
   have q2:((m:Int)+1).toNat=m+1:=by omega
   have q3:((m:Int)+1) - 1=(m:Int):=by omega
   simp (disch:=omega) only [go_sem,d1205_b0,q2,q3]
def mirV (r:Rw) (v:Nat):Prop:=∀ i,i<(rowI r.off r.to v).length→(v:Int)∈rowI r.roff r.rev ((rowI r.off r.to v).getD i 0).toNat
def rkS (r:Rw) (v:Nat):St:=⟨[(1,.ref 0 0),(3,.int .i64 (v:Int))],[.row false (rwS r)],0,[(0,1,[1,3],[(1,0)])]⟩
def rkI (r:Rw) (L:List Int) (v i:Nat):St:=⟨[(1,.ref 0 0),(3,.int .i64 (v:Int)),(4,.own 1 1),(5,.int .i64 (i:Int))],[.row false (rwS r),.row false (ints L)],0,[(1,2,[1,3,4,5],[(1,0),(4,1)]),(0,1,[1,3],[(1,0)])]⟩
theorem rc_num {r:Rw} (hl:r.off.length=r.roff.length) (f:half r.off r.to) (b:half r.roff r.rev) {L:List Int} {v i:Nat} (hv:v+1<r.off.length) (hL:L=rowI r.off r.to v) (hi:i<L.length) (hg:(v:Int)∈rowI r.roff r.rev (L.getD i 0).toNat):
  Ev tab d1194_b1 (rkI r L v i) (fun x st=>x=.normal∧st=rkI r L v (i+1)):=by
 have h3:=f.tl
 have h4:=b.tl
 have hLl:L.length≤2000:=by rw [hL,f.row_len hv];have:=f.ole hv;omega
 have hm:=f.row_pl hv (w:=L.getD i 0) (by rw [←hL];exact getD_memI hi)
 obtain ⟨w,hw⟩:∃ w:Nat,L.getD i 0=w:=⟨(L.getD i 0).toNat,by omega⟩
 rw [hw] at hm
 have g1:=rrow_run b.lay (v:=w) (by omega)
 have hrl:(rowI r.roff r.rev w).length≤2000:=by rw [b.row_len (by omega)];have:=b.ole (v:=w+1) (by omega);omega
 have g2:=rin_run (l:=rowI r.roff r.rev w) (x:=(v:Int)) (by omega)
 rw [hw,Int.toNat_natCast] at hg
 rw [decide_eq_true hg] at g2
 simp (disch:=omega) only [go_sem,d1194_b1,rkI,rwS,hw,g1,g2]
theorem rc_row {r:Rw} (hl:r.off.length=r.roff.length) (f:half r.off r.to) (b:half r.roff r.rev) {v:Nat} (hv:v+1<r.off.length) (hg:mirV r v):
  Ev tab d1194_b0 (rkS r v) (fun x st=>x=.normal∧st=rkS r (v+1)):=by
 have h2:=f.hi
 have h3:=f.tl
 have g1:=rrow_run f.lay hv
 have hLl:(rowI r.off r.to v).length≤2000:=by rw [f.row_len hv];have:=f.ole hv;omega
 simp (disch:=omega) only [go_sem,d1194_b0,rkS,rwS,g1]
 generalize hL:rowI r.off r.to v=L at *
 refine Ev_loop0 (rkI r L v) L.length (by simp [rkI,rwS]) (fun i hi=>rc_num hl f b hv hL.symm hi (by have:=hg i (by rw [hL];exact hi);rwa [hL] at this)) ?_
 simp (disch:=omega) only [go_sem,d1194_b1,rkI,rwS]
theorem mir_iff {r:Rw} (f:half r.off r.to):mir r↔∀ v,v<r.off.length - 1→mirV r v:=by
 constructor
 ·intro h v hv i hi
  exact h v (by omega) _ (getD_memI hi)
 ·intro h v hv w hw
  obtain ⟨i,hi,rfl⟩:=memI.1 hw
  exact h v (by omega) i hi
theorem rcheck_run {r:Rw} (hr:okR r):runP tab 1194 [.agg (rwS r)] []=some (.bool (chk r),[]):=by
 refine runP_fn t1194 rfl ?_
 have h1:=hr.a
 have h2:=hr.b
 have h3:=hr.c
 have h4:=hr.d
 have g1:=rhalf_run (off:=r.off) (to:=r.to) (by omega) (by omega)
 have g2:=rhalf_run (off:=r.roff) (to:=r.rev) (by omega) (by omega)
 by_cases hl:r.off.length=r.roff.length
 case neg=>
  rw [chk_no fun h=>hl h.l]
  have q:¬ ((r.off.length:Int)=r.roff.length):=by omega
  simp (disch:=omega) only [go_sem,d1194,rwS,q]
 have q:((r.off.length:Int)=r.roff.length):=by omega
 by_cases f:half r.off r.to
 case neg=>
  rw [chk_no fun h=>f h.f]
  rw [half_no f] at g1
  simp (disch:=omega) only [go_sem,d1194,rwS,q,g1]
 rw [half_yes f] at g1
 by_cases b:half r.roff r.rev
 case neg=>
  rw [chk_no fun h=>b h.b]
  rw [half_no b] at g2
  simp (disch:=omega) only [go_sem,d1194,rwS,q,g1,g2]
 rw [half_yes b] at g2
 by_cases m:r.to.length=r.rev.length
 case neg=>
  rw [chk_no fun h=>m h.m]
  have q':¬ ((r.to.length:Int)=r.rev.length):=by omega
  simp (disch:=omega) only [go_sem,d1194,rwS,q,g1,g2,q']
 have q':((r.to.length:Int)=r.rev.length):=by omega
 have flo:=f.lo
 simp (disch:=omega) only [go_sem,d1194,rwS,q,g1,g2,q']
 rcases first_ix' (fun v=>mirV r v) (r.off.length - 1) with h | ⟨v,v1,v2,v3⟩
 ·rw [chk_yes ⟨hl,f,b,m,(mir_iff f).2 h⟩]
  refine Ev_loop0 (rkS r) (r.off.length - 1) (by simp [rkS,rwS]) (fun v hv=>rc_row hl f b (by omega) (h v hv)) ?_
  simp (disch:=omega) only [go_sem,d1194_b0,rkS,rwS]
 ·rw [chk_no fun h=>v3 ((mir_iff f).1 h.mir v v1)]
  refine Ev_loop0 (rkS r) v (by simp [rkS,rwS]) (fun u hu=>rc_row hl f b (by omega) (v2 u hu)) ?_
  have hv:v+1<r.off.length:=by omega
  have f2:=f.hi
  have f3:=f.tl
  have g3:=rrow_run f.lay hv
  have hLl:(rowI r.off r.to v).length≤2000:=by rw [f.row_len hv];have:=f.ole hv;omega
  simp (disch:=omega) only [go_sem,d1194_b0,rkS,rwS,g3]
  unfold mirV at v3
  rcases first_ix' (fun i=>(v:Int)∈rowI r.roff r.rev ((rowI r.off r.to v).getD i 0).toNat) (rowI r.off r.to v).length with hgi | ⟨i,hi,hbi,hbadi⟩
  ·exact absurd hgi v3
  have hm:=f.row_pl hv (w:=(rowI r.off r.to v).getD i 0) (getD_memI hi)
  generalize hL:rowI r.off r.to v=L at *
  refine Ev_loop0 (rkI r L v) i (by simp [rkI,rwS]) (fun j hj=>rc_num hl f b hv hL.symm (by omega) (hbi j hj)) ?_
  obtain ⟨w,hw⟩:∃ w:Nat,L.getD i 0=w:=⟨(L.getD i 0).toNat,by omega⟩
  rw [hw] at hm hbadi
  have b3:=b.tl
  have g4:=rrow_run b.lay (v:=w) (by omega)
  have hrl:(rowI r.roff r.rev w).length≤2000:=by rw [b.row_len (by omega)];have:=b.ole (v:=w+1) (by omega);omega
  have g5:=rin_run (l:=rowI r.roff r.rev w) (x:=(v:Int)) (by omega)
  rw [Int.toNat_natCast] at hbadi
  rw [decide_eq_false hbadi] at g5
  simp (disch:=omega) only [go_sem,d1194_b1,rkI,rwS,hw,g4,g5]
end Go.Proofs.Ytfbfbennheeglaa
