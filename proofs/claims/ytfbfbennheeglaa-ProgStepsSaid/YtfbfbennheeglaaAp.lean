import Derived.Test.YtfbfbennheeglaaAo
import Derived.Test.YtfbfbennheeglaaAd
import Derived.Test.YtfbfbennheeglaaAo
namespace Go.Proofs.Ytfbfbennheeglaa
set_option linter.unusedSimpArgs false
set_option linter.unusedVariables false
set_option maxHeartbeats 4000000
set_option maxRecDepth 100000
theorem nxT_form {q:Req} {r:Rw} {x:Ml} (hr:okR r):∃ l n,nxT q r x=.tup [.vec 4 (mls l),.int .i64 n]∧l.length≤2000:=by
 unfold nxT
 by_cases hc:chk r=true
 ·rw [if_pos hc]
  by_cases ho:nxO r x
  ·rw [if_pos ho]
   by_cases h3:q.qk=3∧q.radius≤x.d
   ·rw [if_pos h3];exact ⟨[],0,rfl,by simp⟩
   ·rw [if_neg h3];exact ⟨nxL r x,0,rfl,by unfold nxL;rw [List.length_map];exact rowX_len (chk_iff.1 hc) ho⟩
  ·rw [if_neg ho];exact ⟨[],1,rfl,by simp⟩
 ·rw [if_neg hc];exact ⟨[],40,rfl,by simp⟩
theorem steps_law {q:Req} {r:Rw} {x:Ml} {n slot:Int} (hl:q.words.length≤9223372036854775807) (ht:∀ w∈q.words,w.length≤9223372036854775807) (hf:rwFit r) (hv:I64 x.v) (hd:I64 x.d):runP tabM 1705 [.agg (qryS q),.agg (rwS r),.agg (mlC x),.int .i64 n,.int .i64 slot] []=some (.bool true,[]):=by
 refine runP_fn (show tabM 1705=_ from t1705) rfl ?_
 obtain ⟨b,gb,hb⟩:=big_run hl ht
 have gb:=up gb
 have gr:=up (bigR_run hf)
 have gp:=progs_run
 cases b
 case true=>
  unfold qryS at gb ⊢
  unfold rwS mlC
  simp (disch:=omega) only [go_sem,d1705,gb]
 cases hR:bigR r<;>rw [hR] at gr
 case true=>
  unfold qryS at gb ⊢
  unfold rwS at gr ⊢
  unfold mlC
  simp (disch:=omega) only [go_sem,d1705,gb,gr]
 have hr:=bigR_ok hR
 obtain ⟨hb1,hb2⟩:=hb rfl
 have ow:okWs q.words:=⟨by omega,fun w hw=>by have:=hb2 w hw;omega⟩
 have go:=up (rown_run hr)
 have n1:=up (nextQ_run (q:=q) (x:=x) hr hv hd)
 have n2:=up (rnextQ_run (q:=q) (x:=x) hr hv hd)
 obtain ⟨l,m,e,hl2⟩:=nxT_form (q:=q) (x:=x) hr
 rw [e] at n1 n2
 have c1:=up (pchk_run18 (n:=n) (r:=q) ow)
 have c2:=up (rpchk_run18 (n:=n) (r:=q) ow)
 have s1:=up (start_run (r:=q) (slot:=slot))
 have s2:=up (rstart_run (r:=q) (slot:=slot))
 have sl:=stL_len q slot
 have t1:=up (same16_run (a:=stQ q slot) (b:=stQ q slot) (by omega) (by omega))
 have t2:=up (same16_run (a:=l) (b:=l) (by omega) (by omega))
 have rs:=up (rsame_run hr hr)
 simp only [decide_true] at t1 t2 rs
 generalize stQ q slot=S at *
 have K1:=mls_len S
 have K2:=mls_len l
 have i1:=ints_length r.off
 have i2:=ints_length r.to
 have i3:=ints_length r.roff
 have i4:=ints_length r.rev
 have:=hr.a;have:=hr.b;have:=hr.c;have:=hr.d
 unfold qryS at gb n1 n2 c1 c2 s1 s2 ⊢
 unfold rwS at gr go n1 n2 rs ⊢
 unfold mlC at n1 n2 ⊢
 simp (disch:=omega) only [go_sem,d1705,gb,gr,go,n1,n2,c1,c2,s1,s2,t1,t2,rs,gp,K1,K2,i1,i2,i3,i4]
end Go.Proofs.Ytfbfbennheeglaa
