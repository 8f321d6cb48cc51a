import Derived.Test.YtfbfbennheeglaaAo
namespace Go.Proofs.Ytfbfbennheeglaa
set_option linter.unusedSimpArgs false
set_option linter.unusedVariables false
set_option maxHeartbeats 4000000
set_option maxRecDepth 100000
theorem more_law {q:Req} {n m slot:Int} (hl:q.words.length≤9223372036854775807) (ht:∀ w∈q.words,w.length≤9223372036854775807):runP tabM 1707 [.agg (qryS q),.int .i64 n,.int .i64 m,.int .i64 slot] []=some (.bool true,[]):=by
 refine runP_fn (show tabM 1707=_ from t1707) rfl ?_
 obtain ⟨b,gb,hb⟩:=big_run hl ht
 have gb:=up gb
 have gp:=progs_run
 cases b
 case true=>
  unfold qryS at gb ⊢
  simp (disch:=omega) only [go_sem,d1707,gb]
 by_cases h1:200<n
 ·unfold qryS at gb ⊢
  simp (disch:=omega) only [go_sem,d1707,gb,h1]
 by_cases h2:m<n
 ·unfold qryS at gb ⊢
  simp (disch:=omega) only [go_sem,d1707,gb,h1,h2]
 by_cases h3:200<m
 ·unfold qryS at gb ⊢
  simp (disch:=omega) only [go_sem,d1707,gb,h1,h2,h3]
 by_cases h4:slot<0
 ·unfold qryS at gb ⊢
  simp (disch:=omega) only [go_sem,d1707,gb,h1,h2,h3,h4]
 by_cases h5:1000<slot
 ·unfold qryS at gb ⊢
  simp (disch:=omega) only [go_sem,d1707,gb,h1,h2,h3,h4,h5]
 obtain ⟨hb1,hb2⟩:=hb rfl
 have ow:okWs q.words:=⟨by omega,fun w hw=>by have:=hb2 w hw;omega⟩
 have c1:=up (pchk_run18 (n:=n) (r:=q) ow)
 have c2:=up (pchk_run18 (n:=m) (r:=q) ow)
 have s1:=up (start_run (r:=q) (slot:=slot))
 by_cases hq:Q1 n q∨Q3 n q
 case neg=>
  rw [chkP_no hq] at c1
  unfold qryS at gb c1 ⊢
  simp (disch:=omega) only [go_sem,d1707,gb,h1,h2,h3,h4,h5,c1,gp]
 have hq2:Q1 m q∨Q3 m q:=by
  rcases hq with ⟨a,b,c⟩ | ⟨a,b,c⟩
  ·exact .inl ⟨a,by omega,by omega⟩
  ·exact .inr ⟨a,by omega,c⟩
 rw [chkP_yes hq] at c1
 rw [chkP_yes hq2] at c2
 have sl:=stL_len q slot
 have rm:=up (rmails_run (l:=stQ q slot) (by omega))
 have sp:1≤(stQ q slot).length∧okMs (stQ q slot)=true:=by
  have fit:(0≤q.frm∧q.frm<n):=by
   rcases hq with ⟨a,b,c⟩ | ⟨a,b,c⟩<;>exact b
  have ok:∀ b v,0≤b∧b≤1→0≤v∧v<n→okM ⟨slot,b,v,0⟩=true:=by
   intro b v hb hv
   have a1:0≤slot:=by omega
   have a2:slot≤1000:=by omega
   have a3:v≤199:=by omega
   show ((decide (0≤slot∧slot≤1000) && (decide (0≤b∧b≤1) && decide (0≤v∧v≤199))) && decide ((0:Int)≤0∧(0:Int)≤200))=true
   rw [decide_eq_true ⟨a1,a2⟩,decide_eq_true hb,decide_eq_true ⟨hv.1,a3⟩];rfl
  unfold stQ okMs
  by_cases k1:q.qk=1
  ·have fit2:(0≤q.to∧q.to<n):=by
    rcases hq with ⟨a,b,c⟩ | ⟨a,b,c⟩
    ·exact c
    ·omega
   rw [if_pos k1,List.all_cons,List.all_cons,ok 0 q.frm (by omega) fit,ok 1 q.to (by omega) fit2]
   exact ⟨by simp,rfl⟩
  ·have k2:q.qk=2∨q.qk=3:=by
    rcases hq with ⟨a,b,c⟩ | ⟨a,b,c⟩<;>omega
   rw [if_neg k1,if_pos k2,List.all_cons,ok 0 q.frm (by omega) fit]
   exact ⟨by simp,rfl⟩
 rw [sp.2] at rm
 have sp1:=sp.1
 generalize stQ q slot=S at *
 have K1:=mls_len S
 have Kd:S.length*4 / 4=S.length:=by omega
 unfold qryS at gb c1 c2 s1 ⊢
 simp (disch:=omega) only [go_sem,d1707,gb,h1,h2,h3,h4,h5,c1,c2,s1,rm,gp,K1,Kd]
end Go.Proofs.Ytfbfbennheeglaa
