import Derived.Test.YtfbfbennheeglaaAl
import Derived.Test.YtfbfbennheeglaaAj
import Derived.Test.YtfbfbennheeglaaNd
import Derived.Test.YtfbfbennheeglaaAe
import Derived.Test.YtfbfbennheeglaaIb
namespace Go.Proofs.Ytfbfbennheeglaa
set_option linter.unusedSimpArgs false
set_option linter.unusedVariables false
set_option maxHeartbeats 4000000
set_option maxRecDepth 100000
def bgS (r:Req) (i:Nat):St:=⟨[(1,.ref 0 0),(3,.int .i64 (i:Int))],[.row false (qryS r)],0,[(0,1,[1,3],[(1,0)])]⟩
theorem big_run {r:Req} (hl:r.words.length≤9223372036854775807) (ht:∀ w∈r.words,w.length≤9223372036854775807):∃ b,runP tab 1084 [.agg (qryS r)] []=some (.bool b,[])∧(b=false→r.words.length≤20∧∀ w∈r.words,w.length≤60):=by
 by_cases c:r.words.length≤20
 case neg=>
  refine ⟨true,runP_fn t1084 rfl ?_,fun h=>by cases h⟩
  simp (disch:=omega) only [go_sem,d1084,qryS]
  refine Ev_loop0 (bgS r) 0 rfl (fun i hi=>by omega) ?_
  unfold bgS qryS
  by_cases c0:0<r.words.length
  ·simp (disch:=omega) only [go_sem,d1084_b0]
  ·omega
 have stp:∀ i,i<r.words.length→(r.words.getD i []).length≤60→Ev tab d1084_b0 (bgS r i) (fun x st=>x=.normal∧st=bgS r (i+1)):=by
  intro i hi h
  unfold bgS qryS
  simp (disch:=omega) only [go_sem,d1084_b0,strs_rdc]
 rcases first_ix (fun i=>(r.words.getD i []).length≤60) r.words.length with h | ⟨m,h1,h2,h3⟩
 ·refine ⟨false,runP_fn t1084 rfl ?_,fun _=>⟨c,fun w hw=>?_⟩⟩
  ·simp (disch:=omega) only [go_sem,d1084,qryS]
   refine Ev_loop0 (bgS r) r.words.length rfl (fun i hi=>stp i hi (h i hi)) ?_
   unfold bgS qryS
   simp (disch:=omega) only [go_sem,d1084_b0]
  ·obtain ⟨i,hi,rfl⟩:=mem_getD (d:=[]) hw
   exact h i hi
 ·refine ⟨true,runP_fn t1084 rfl ?_,fun h=>by cases h⟩
  simp (disch:=omega) only [go_sem,d1084,qryS]
  refine Ev_loop0 (bgS r) m rfl (fun i hi=>stp i (by omega) (h2 i hi)) ?_
  have hm:=ht _ (getD_mem (d:=[]) h1)
  unfold bgS qryS
  simp (disch:=omega) only [go_sem,d1084_b0,strs_rdc]
theorem all_ix {p:Ml→Bool} (l:List Ml):(l.all p=true∧∀ i,i<l.length→p (l.getD i default)=true)∨(l.all p=false∧∃ m,m<l.length∧(∀ i,i<m→p (l.getD i default)=true)∧p (l.getD m default)=false):=by
 rcases first_ix (fun i=>p (l.getD i default)=true) l.length with h | ⟨m,h1,h2,h3⟩
 ·refine .inl ⟨?_,h⟩
  rw [List.all_eq_true]
  intro x hx
  obtain ⟨i,hi,rfl⟩:=mem_getD (d:=default) hx
  exact h i hi
 ·have h3:p (l.getD m default)=false:=by simpa using h3
  refine .inr ⟨?_,m,h1,h2,h3⟩
  rw [List.all_eq_false]
  exact ⟨_,getD_mem (d:=default) h1,by rw [h3];decide⟩
theorem clean_run {l:List Ml} (hl:l.length≤1000000) (hf:∀ x∈l,I64 x.d):runP tab 1717 [.sl 4 (mls l)] []=some (.bool (clB l),[]):=by
 refine runP_fn t1717 rfl ?_
 have L:=mls_len l
 have Ld:l.length*4 / 4=l.length:=by omega
 have hst:∀ i,i<l.length→decide (-1000000≤(l.getD i default).d∧(l.getD i default).d≤1000000)=true→Ev tab d1717_b0 ⟨[(0,.sl 4 (mls l)),(3,.int .i64 (i:Int))],[],0,[(0,0,[0,3],[])]⟩ (fun x st=>x=.normal∧st=⟨[(0,.sl 4 (mls l)),(3,.int .i64 ((i+1:Nat):Int))],[],0,[(0,0,[0,3],[])]⟩):=by
  intro i hi q
  obtain ⟨q1,q2⟩:=of_decide_eq_true q
  have e:=mls_d hi
  simp (disch:=omega) only [go_sem,d1717_b0,L,Ld,e]
 simp (disch:=omega) only [go_sem,d1717,L,Ld]
 unfold clB
 rcases all_ix (p:=fun x=>decide (-1000000≤x.d∧x.d≤1000000)) l with ⟨h,ha⟩ | ⟨h,m,m1,m2,m3⟩
 ·rw [h]
  refine Ev_loop0 (fun i=>⟨[(0,.sl 4 (mls l)),(3,.int .i64 (i:Int))],[],0,[(0,0,[0,3],[])]⟩) l.length rfl (fun i hi=>hst i hi (ha i hi)) ?_
  simp (disch:=omega) only [go_sem,d1717_b0,L,Ld]
 ·rw [h]
  refine Ev_loop0 (fun i=>⟨[(0,.sl 4 (mls l)),(3,.int .i64 (i:Int))],[],0,[(0,0,[0,3],[])]⟩) m rfl (fun i hi=>hst i (by omega) (m2 i hi)) ?_
  have q:=of_decide_eq_false m3
  have e:=mls_d m1
  have:=hf _ (getD_mem (d:=default) m1)
  by_cases c:(l.getD m default).d < -1000000
  ·simp (disch:=omega) only [go_sem,d1717_b0,L,Ld,e]
  ·simp (disch:=omega) only [go_sem,d1717_b0,L,Ld,e]
def far18 (P:List Po) (xs ms:List Ml):Bool:=bigP P || (decide (60<xs.length) || decide (60<ms.length))
theorem far18_run {sp:Nat} {P:List Po} {xs ms:List Ml} (hsp:sp=2∨P=[]) (hn:P.length≤9223372036854775807) (hw:∀ p∈P,p.1.length≤9223372036854775807) (hr:∀ p∈P,p.2.length≤9223372036854775807) (hl:xs.length≤9223372036854775807) (hm:ms.length≤9223372036854775807):runP tab 1716 [.sl sp (poS P),.sl 4 (mls xs),.sl 4 (mls ms)] []=some (.bool (far18 P xs ms),[]):=by
 refine runP_fn t1716 rfl ?_
 have L:=mls_len xs
 have Ld:xs.length*4 / 4=xs.length:=by omega
 have M:=mls_len ms
 have Md:ms.length*4 / 4=ms.length:=by omega
 have gb:runP tab 1595 [.sl sp (poS P)] []=some (.bool (bigP P),[]):=by
  rcases hsp with rfl | rfl
  ·exact bigP_run hn hw hr
  ·refine runP_fn t1595 rfl ?_
   simp (disch:=omega) only [go_sem,d1595,poS,List.length_nil]
   refine Ev_stop ?_
   simp (disch:=omega) only [go_sem,d1595_b0,poS,List.length_nil]
   rfl
 unfold far18
 cases hb:bigP P<;>rw [hb] at gb
 ·by_cases h1:60<xs.length
  ·rw [decide_eq_true h1]
   simp (disch:=omega) only [go_sem,d1716,gb,L,Ld,Bool.false_or,Bool.true_or]
  ·rw [decide_eq_false h1]
   by_cases h2:60<ms.length
   ·rw [decide_eq_true h2]
    simp (disch:=omega) only [go_sem,d1716,gb,L,Ld,M,Md,Bool.false_or]
   ·rw [decide_eq_false h2]
    simp (disch:=omega) only [go_sem,d1716,gb,L,Ld,M,Md,Bool.false_or]
 ·simp (disch:=omega) only [go_sem,d1716,gb,Bool.true_or]
theorem done1_run {q:Req} {sp sm:Nat} {P:List Po} {xs ms:List Ml} (hq:q.qk=1) (hsm:sm=4∨ms=[]) (hl:xs.length≤60000) (hm:ms.length≤60000) (hc:clB xs=true):runP tabM 1718 [.agg (qryS q),.sl sp (poS P),.sl 4 (mls xs),.sl sm (mls ms)] []=some (farT xs ms,[]):=by
 refine runP_fn (show tabM 1718=_ from t1718) rfl ?_
 have g:=farM_run hsm hl hm hc
 unfold farT at g ⊢
 cases h:mnL (smL xs) with
 |some d=>
  rw [h] at g
  simp only [ansA,prs_nil18] at g ⊢
  simp (disch:=omega) only [go_sem,d1718,qryS,hq,g]
 |none=>
  rw [h] at g
  simp only [ansA,prs_nil18] at g ⊢
  generalize (!hasB ms 0 || !hasB ms 1)=b at *
  simp (disch:=omega) only [go_sem,d1718,qryS,hq,g]
theorem done2_run {q:Req} {sp:Nat} {P:List Po} {xs ms:List Ml} (hq:q.qk=2) (hl:xs.length≤60000) (hm:ms.length≤60000):runP tabM 1718 [.agg (qryS q),.sl sp (poS P),.sl 4 (mls xs),.sl 4 (mls ms)] []=some (rcT q.to xs ms,[]):=by
 refine runP_fn (show tabM 1718=_ from t1718) rfl ?_
 have g:=up (reached_run (to:=q.to) (xs:=xs) (ms:=ms) (by omega) (by omega))
 unfold rcT at g ⊢
 by_cases h:atB xs q.to=true
 ·rw [if_pos h] at g ⊢
  simp only [ansA,prs_nil18] at g ⊢
  simp (disch:=omega) only [go_sem,d1718,qryS,hq,g]
 ·rw [if_neg h] at g ⊢
  simp only [ansA,prs_nil18] at g ⊢
  generalize decide (ms=[])=b at *
  simp (disch:=omega) only [go_sem,d1718,qryS,hq,g]
theorem done3_run {q:Req} {P:List Po} {xs ms:List Ml} (hq:q.qk=3) (hP:okP P) (hw:q.words.length≤1000) (hl:xs.length≤60000) (hm:ms.length≤60000):runP tabM 1718 [.agg (qryS q),.sl 2 (poS P),.sl 4 (mls xs),.sl 4 (mls ms)] []=some (neT q P xs ms,[]):=by
 refine runP_fn (show tabM 1718=_ from t1718) rfl ?_
 have g:=up (pnear_run (q:=q) (xs:=xs) (ms:=ms) hP hw hl hm)
 simp only [qryS,hq] at g
 unfold neT at g ⊢
 by_cases h:ms=[]
 ·rw [if_pos h] at g ⊢
  simp only [ansA] at g ⊢
  generalize decide (0<(frL P q xs).length)=b at *
  generalize frL P q xs=F at *
  have LF:=prs_len F
  simp (disch:=omega) only [go_sem,d1718,qryS,hq,g]
 ·rw [if_neg h] at g ⊢
  simp only [ansA,prs_nil18] at g ⊢
  simp (disch:=omega) only [go_sem,d1718,qryS,hq,g]
theorem done0_run {q:Req} {sp:Nat} {P:List Po} {xs ms:List Ml} (h1:¬ q.qk=1) (h2:¬ q.qk=2) (h3:¬ q.qk=3):runP tabM 1718 [.agg (qryS q),.sl sp (poS P),.sl 4 (mls xs),.sl 4 (mls ms)] []=some (.tup [ansA false 0 [],.bool true],[]):=by
 refine runP_fn (show tabM 1718=_ from t1718) rfl ?_
 simp (disch:=omega) only [go_sem,d1718,qryS,h1,h2,h3,ansA,prs_nil18]
theorem rdone1_run {q:Req} {P:List Po} {xs ms:List Ml} (hq:q.qk=1) (hl:xs.length≤60000) (hm:ms.length≤60000) (hc:clB xs=true):runP tab 1719 [.agg (qryS q),.sl 2 (poS P),.sl 4 (mls xs),.sl 4 (mls ms)] []=some (farT xs ms,[]):=by
 refine runP_fn t1719 rfl ?_
 have g:=ddist_run (xs:=xs) (ms:=ms) (by omega) (by omega) hc
 unfold dsT18 at g
 unfold farT
 cases h:mnL (smL xs) with
 |some d=>
  rw [h] at g
  simp only [ansA,prs_nil18] at g ⊢
  simp (disch:=omega) only [go_sem,d1719,qryS,hq,g]
 |none=>
  rw [h] at g
  simp only [ansA,prs_nil18] at g ⊢
  generalize (!hasB ms 0 || !hasB ms 1)=b at *
  simp (disch:=omega) only [go_sem,d1719,qryS,hq,g]
theorem rdone0_run {q:Req} {P:List Po} {xs ms:List Ml} (h1:¬ q.qk=1) (h2:¬ q.qk=2) (h3:¬ q.qk=3):runP tab 1719 [.agg (qryS q),.sl 2 (poS P),.sl 4 (mls xs),.sl 4 (mls ms)] []=some (.tup [ansA false 0 [],.bool true],[]):=by
 refine runP_fn t1719 rfl ?_
 simp (disch:=omega) only [go_sem,d1719,qryS,h1,h2,h3,ansA,prs_nil18]
def rneT (q:Req) (P:List Po) (xs ms:List Ml):AV:=if ms=[] then .tup [rneA q P xs,.bool true] else .tup [ansA false 0 [],.bool false]
theorem rdone3_run {q:Req} {P:List Po} {xs ms:List Ml} (hq:q.qk=3) (hP:okP P) (hw:q.words.length≤1000) (hl:xs.length≤60000) (hm:ms.length≤60000):runP tab 1719 [.agg (qryS q),.sl 2 (poS P),.sl 4 (mls xs),.sl 4 (mls ms)] []=some (rneT q P xs ms,[]):=by
 refine runP_fn t1719 rfl ?_
 have g:=rnear_run (q:=q) (xs:=xs) hP hw hl
 have M:=mls_len ms
 have Md:ms.length*4 / 4=ms.length:=by omega
 simp only [qryS,hq] at g
 unfold rneT
 by_cases h:ms=[]
 ·rw [if_pos h]
  subst h
  unfold rneA at g ⊢
  have hc:=rfst_cases (nearL P q.words xs) q.most
  generalize decide (0<(frL P q xs).length)=b at *
  rcases hc with ⟨e,_⟩ | e
  ·rw [e] at g ⊢
   simp (disch:=omega) only [go_sem,d1719,qryS,hq,g,mls_nil]
  ·rw [e] at g ⊢
   generalize fst1 (nearL P q.words xs) q.most=F at *
   have LF:=prs_len F
   simp (disch:=omega) only [go_sem,d1719,qryS,hq,g,mls_nil]
 ·have:0<ms.length:=List.length_pos_iff.2 h
  rw [if_neg h]
  simp (disch:=omega) only [go_sem,d1719,qryS,hq,M,Md,ansA,prs_nil18]
def rdS (q:Req) (xs ms:List Ml) (i:Nat):St:=⟨[(2,.sl 4 (mls xs)),(3,.sl 4 (mls ms)),(4,.ref 0 0),(8,.ref 1 0),(10,.int .i64 (i:Int))],[.row false (qryS q),.row false [.bool false,.int .i64 0,.nils]],0,[(0,2,[2,3,4,8,10],[(4,0),(8,1)])]⟩
theorem rdone2_run {q:Req} {P:List Po} {xs ms:List Ml} (hq:q.qk=2) (hl:xs.length≤60000) (hm:ms.length≤60000):runP tab 1719 [.agg (qryS q),.sl 2 (poS P),.sl 4 (mls xs),.sl 4 (mls ms)] []=some (rcT q.to xs ms,[]):=by
 refine runP_fn t1719 rfl ?_
 have L:=mls_len xs
 have Ld:xs.length*4 / 4=xs.length:=by omega
 have M:=mls_len ms
 have Md:ms.length*4 / 4=ms.length:=by omega
 have hst:∀ i,i<xs.length→decide ((xs.getD i default).b=0∧(xs.getD i default).v=q.to)=false→Ev tab d1719_b0 (rdS q xs ms i) (fun x st=>x=.normal∧st=rdS q xs ms (i+1)):=by
  intro i hi qq
  have qq:¬ ((xs.getD i default).b=0∧(xs.getD i default).v=q.to):=of_decide_eq_false qq
  have e:=mls_b hi
  have e2:=mls_v hi
  unfold rdS
  by_cases c:(xs.getD i default).b=0
  ·have c2:¬ (xs.getD i default).v=q.to:=fun h=>qq ⟨c,h⟩
   simp (disch:=omega) only [go_sem,d1719_b0,qryS,L,Ld,e,e2,c,c2]
  ·simp (disch:=omega) only [go_sem,d1719_b0,qryS,L,Ld,e,c]
 simp (disch:=omega) only [go_sem,d1719,qryS,hq,L,Ld]
 have e2:({ q with qk:=2 }:Req)=q:=by cases q;simp_all
 unfold rcT atB
 rcases any_ix (p:=fun x=>decide (x.b=0∧x.v=q.to)) xs with ⟨h,ha⟩ | ⟨h,m,m1,m2,m3⟩
 ·rw [h]
  refine Ev_loop0 (fun i=>rdS q xs ms i) xs.length (by simp [rdS,qryS,hq]) (fun i hi=>hst i hi (ha i hi)) ?_
  unfold rdS
  by_cases hm0:ms=[]
  ·subst hm0
   simp (disch:=omega) only [go_sem,d1719_b0,qryS,L,Ld,mls_nil,ansA,prs_nil18,Bool.false_eq_true]
  ·have:0<ms.length:=List.length_pos_iff.2 hm0
   rw [decide_eq_false hm0]
   simp (disch:=omega) only [go_sem,d1719_b0,qryS,L,Ld,M,Md,ansA,prs_nil18,Bool.false_eq_true]
 ·rw [h]
  refine Ev_loop0 (fun i=>rdS q xs ms i) m (by simp [rdS,qryS,hq]) (fun i hi=>hst i (by omega) (m2 i hi)) ?_
  obtain ⟨q1,q2⟩:(xs.getD m default).b=0∧(xs.getD m default).v=q.to:=of_decide_eq_true m3
  have e:=mls_b m1
  have e3:=mls_v m1
  unfold rdS
  simp (disch:=omega) only [go_sem,d1719_b0,qryS,L,Ld,e,e3,q1,q2,ansA,prs_nil18]
theorem hsame_run {a b:List Ed} (ha:a.length≤1000000) (hb:b.length≤1000000):runP tab 1439 [.sl 2 (prs a),.sl 2 (prs b)] []=some (.bool (decide (a=b)),[]):=by
 refine runP_fn t1439 rfl ?_
 by_cases hl:a.length=b.length
 ·simp (disch:=omega) only [go_sem,d1439]
  rcases eds_at a b hl with ⟨h1,h2⟩ | ⟨k,h0,h1,h2,h3⟩
  ·refine Ev_loop0 (fun i=>⟨[(0,.sl 2 (prs a)),(1,.sl 2 (prs b)),(5,.int .i64 (i:Int))],[],0,[(0,0,[0,1,5],[])]⟩) a.length rfl (fun i hi=>?_) ?_
   ·have e1:=prs_at (l:=a) hi
    have e2:=prs_at (l:=b) (i:=i) (by omega)
    have:=h1 i (by omega)
    rw [←this] at e2
    simp (disch:=omega) only [go_sem,d1439_b0,e1,e2,aeqL,aeq,encA,digA]
   ·simp (disch:=omega) only [go_sem,d1439_b0,h2]
  ·refine Ev_loop0 (fun i=>⟨[(0,.sl 2 (prs a)),(1,.sl 2 (prs b)),(5,.int .i64 (i:Int))],[],0,[(0,0,[0,1,5],[])]⟩) k rfl (fun i hi=>?_) ?_
   ·have e1:=prs_at (l:=a) (i:=i) (by omega)
    have e2:=prs_at (l:=b) (i:=i) (by omega)
    have:=h1 i (by omega)
    rw [←this] at e2
    simp (disch:=omega) only [go_sem,d1439_b0,e1,e2,aeqL,aeq,encA,digA]
   ·have e1:=prs_at (l:=a) (i:=k) (by omega)
    have e2:=prs_at (l:=b) (i:=k) (by omega)
    have hne:(decide ((a.getD k default).1=(b.getD k default).1) && decide ((a.getD k default).2=(b.getD k default).2))=false:=by rw [ed_beq,decide_eq_false h2]
    generalize a.getD k default=x at *
    generalize b.getD k default=y at *
    simp (disch:=omega) only [go_sem,d1439_b0,e1,e2,h3,aeqL,aeq,encA,digA,hne]
 ·have h:decide (a=b)=false:=by rw [decide_eq_false_iff_not];rintro rfl;exact hl rfl
  simp (disch:=omega) only [go_sem,d1439,h]
def ansS (f:Bool) (d:Int) (h:List Ed):AV:=.agg [.bool f,.int .i64 d,.sl 2 (prs h)]
theorem asame_run {f g:Bool} {d e:Int} {h k:List Ed} (hh:h.length≤1000000) (hk:k.length≤1000000):runP tab 1428 [ansS f d h,ansS g e k] []=some (.bool (decide (f=g∧d=e∧h=k)),[]):=by
 refine runP_fn t1428 rfl ?_
 have s:=hsame_run hh hk
 unfold ansS
 by_cases h1:f=g
 ·subst h1
  by_cases h2:d=e
  ·simp (disch:=omega) only [go_sem,d1428,s,h2,true_and,decide_true,beq_self_eq_true]
  ·have n:decide (d=e∧h=k)=false:=decide_eq_false fun q=>h2 q.1
   simp (disch:=omega) only [go_sem,d1428,s,h2,true_and,decide_true,decide_false,false_and,beq_self_eq_true,n]
 ·have n:decide (f=g∧d=e∧h=k)=false:=decide_eq_false fun q=>h1 q.1
  have n2:(f == g)=false:=by simpa using h1
  simp (disch:=omega) only [go_sem,d1428,s,n2,decide_false,n]
def QA:Req:=⟨0,0,1,2,5,[],0,0⟩
def QB:Req:=⟨0,0,3,2,0,[],0,0⟩
def LA:List Ml:=[⟨4,0,2,0⟩,⟨4,1,5,0⟩]
def LB:List Ml:=[⟨0,0,1,2⟩,⟨0,1,1,1⟩]
theorem progs_run:runP tabM 1713 [] []=some (.bool true,[]):=by
 refine runP_fn (show tabM 1713=_ from t1713) rfl ?_
 have g1:=up (start_run (r:=QA) (slot:=4))
 have g2:=up (start_run (r:=QB) (slot:=4))
 have s1:=up (same16_run (a:=LA) (b:=LA) (by decide) (by decide))
 have s2:=up (same16_run (a:=[⟨4,0,2,0⟩]) (b:=[⟨4,0,2,0⟩]) (by decide) (by decide))
 have c1:=up (pchk_run18 (n:=6) (r:=QA) ⟨by decide,by simp [QA]⟩)
 have c2:=up (pchk_run18 (n:=5) (r:=QA) ⟨by decide,by simp [QA]⟩)
 have f1:=done1_run (q:=QA) (sp:=1) (sm:=1) (P:=[]) (xs:=LB) (ms:=[]) rfl (.inr rfl) (by decide) (by decide) (by decide)
 have e1:chkI (chkB 6 QA)=0:=by decide
 have e2:chkI (chkB 5 QA)=180:=by decide
 have e3:stQ QA 4=LA:=by decide
 have e4:stQ QB 4=[⟨4,0,2,0⟩]:=by decide
 have e5:farT LB []=.tup [ansA true 3 [],.bool true]:=by
  have:mnL (smL LB)=some 3:=by decide
  unfold farT;rw [this]
 rw [e1] at c1;rw [e2] at c2;rw [e3] at g1;rw [e4] at g2;rw [e5] at f1
 simp only [decide_true] at s1 s2
 simp only [qryS,QA,QB,LA,LB,mls,mlC,poS,strs,ansA,prs,List.flatMap_cons,List.flatMap_nil,List.cons_append,List.nil_append,List.map_nil] at g1 g2 s1 s2 c1 c2 f1
 simp (disch:=omega) only [go_sem,d1713,g1,g2,s1,s2,c1,c2,f1]
def qryTy:List Ty:=[.int .i64,.int .i64,.int .i64,.sl 1 [.str],.int .i64,.int .i64]
theorem fit_qry {vs:List AV} (h:FitL qryTy vs):∃ r:Req,vs=qryS r∧r.words.length≤9223372036854775807∧∀ s∈r.words,s.length≤9223372036854775807:=by
 simp only [FitL,qryTy] at h
 obtain ⟨_,_,rfl,h3,_,_,rfl,h4,_,_,rfl,h5,_,_,rfl,h6,_,_,rfl,h7,_,_,rfl,h8,rfl⟩:=h
 obtain ⟨a3,rfl,b3⟩:=fit_int h3
 obtain ⟨a4,rfl,b4⟩:=fit_int h4
 obtain ⟨a5,rfl,b5⟩:=fit_int h5
 obtain ⟨a6,rfl,b6,c6⟩:=fit_strs h6
 obtain ⟨a7,rfl,b7⟩:=fit_int h7
 obtain ⟨a8,rfl,b8⟩:=fit_int h8
 exact ⟨⟨0,0,a3,a4,a5,a6,a7,a8⟩,rfl,b6,c6⟩
theorem fit_ml1 {vs:List AV} (h:FitL [.int .i64,.int .i64,.int .i64,.int .i64] vs):∃ x:Ml,vs=mlC x∧I64 x.v∧I64 x.d:=by
 simp only [FitL] at h
 obtain ⟨v,us,rfl,h5,v2,us2,rfl,h6,v3,us3,rfl,h7,v4,us4,rfl,h8,rfl⟩:=h
 obtain ⟨a,rfl,_⟩:=fit_int h5
 obtain ⟨b,rfl,_⟩:=fit_int h6
 obtain ⟨c,rfl,kc⟩:=fit_int h7
 obtain ⟨d,rfl,kd⟩:=fit_int h8
 exact ⟨⟨a,b,c,d⟩,rfl,kc,kd⟩
theorem fit_mls2 {v:AV} (h:Fit (.sl 4 [.int .i64,.int .i64,.int .i64,.int .i64]) v):∃ l:List Ml,v=.sl 4 (mls l)∧l.length≤9223372036854775807∧∀ x∈l,I64 x.d:=by
 obtain ⟨rows,rfl,hl,hr⟩:=h
 have:∃ l:List Ml,rows.flatten=mls l∧l.length=rows.length∧∀ x∈l,I64 x.d:=by
  clear hl
  induction rows with
  |nil=>exact ⟨[],rfl,rfl,by simp⟩
  |cons r rows ih=>
   obtain ⟨l,h1,h2,h3⟩:=ih (fun r hr'=>hr r (by simp [hr']))
   have h4:=hr r (by simp)
   obtain ⟨x,rfl,_,hx⟩:=fit_ml1 h4
   refine ⟨x::l,by simp [h1,mls_cons,mlC],by simp [h2],fun y hy=>?_⟩
   rcases List.mem_cons.1 hy with rfl | hy
   ·exact hx
   ·exact h3 y hy
 obtain ⟨l,h1,h2,h3⟩:=this
 exact ⟨l,by rw [h1],by rw [h2];unfold maxLen at hl;omega,h3⟩
theorem done_two {q:Req} {P:List Po} {xs ms:List Ml} (hP:okP P) (hw:q.words.length≤1000) (hl:xs.length≤60000) (hm:ms.length≤60000) (hc:clB xs=true):∃ f d h g X,h.length≤60000∧(X=.sl 2 (prs h)∨X=.vec 2 (prs h))∧runP tabM 1718 [.agg (qryS q),.sl 2 (poS P),.sl 4 (mls xs),.sl 4 (mls ms)] []=some (.tup [ansA f d h,.bool g],[])∧runP tab 1719 [.agg (qryS q),.sl 2 (poS P),.sl 4 (mls xs),.sl 4 (mls ms)] []=some (.tup [.agg [.bool f,.int .i64 d,X],.bool g],[]):=by
 by_cases h1:q.qk=1
 ·have a:=done1_run (q:=q) (sp:=2) (P:=P) h1 (.inl rfl) hl hm hc
  have b:=rdone1_run (q:=q) (P:=P) h1 hl hm hc
  unfold farT at a b
  cases hM:mnL (smL xs) with
  |none=>simp only [hM] at a b;exact ⟨false,0,[],_,.vec 2 (prs []),by simp,.inr rfl,a,b⟩
  |some d=>simp only [hM] at a b;exact ⟨true,d,[],_,.vec 2 (prs []),by simp,.inr rfl,a,b⟩
 by_cases h2:q.qk=2
 ·have a:=done2_run (q:=q) (sp:=2) (P:=P) h2 hl hm
  have b:=rdone2_run (q:=q) (P:=P) h2 hl hm
  unfold rcT at a b
  by_cases c:atB xs q.to=true
  ·rw [if_pos c] at a b;exact ⟨true,0,[],_,.vec 2 (prs []),by simp,.inr rfl,a,b⟩
  ·rw [if_neg c] at a b;exact ⟨false,0,[],_,.vec 2 (prs []),by simp,.inr rfl,a,b⟩
 by_cases h3:q.qk=3
 ·have a:=done3_run (q:=q) h3 hP hw hl hm
  have b:=rdone3_run (q:=q) h3 hP hw hl hm
  unfold neT at a
  unfold rneT at b
  by_cases c:ms=[]
  ·rw [if_pos c] at a b
   have k1:=fst1_len (nearL P q.words xs) q.most
   have k2:=nearL_len P q.words xs
   refine ⟨_,0,frL P q xs,true,rfst (nearL P q.words xs) q.most,by unfold frL;omega,?_,a,b⟩
   unfold frL
   rcases rfst_cases (nearL P q.words xs) q.most with ⟨e,e2⟩ | e
   ·rw [e,e2];exact .inr rfl
   ·exact .inl e
  ·rw [if_neg c] at a b;exact ⟨false,0,[],_,.vec 2 (prs []),by simp,.inr rfl,a,b⟩
 exact ⟨false,0,[],true,.vec 2 (prs []),by simp,.inr rfl,done0_run h1 h2 h3,rdone0_run h1 h2 h3⟩
theorem far18_no {P:List Po} {xs ms:List Ml} (h:far18 P xs ms=false):okP P∧xs.length≤60∧ms.length≤60:=by
 simp only [far18,Bool.or_eq_false_iff,decide_eq_false_iff_not] at h
 obtain ⟨h1,h2,h3⟩:=h
 exact ⟨bigP_okP h1,by omega,by omega⟩
theorem done_law {q:Req} {P:List Po} {xs ms:List Ml} (hl:q.words.length≤9223372036854775807) (ht:∀ w∈q.words,w.length≤9223372036854775807) (hn:P.length≤9223372036854775807) (hw:∀ p∈P,p.1.length≤9223372036854775807) (hr:∀ p∈P,p.2.length≤9223372036854775807) (hx:xs.length≤9223372036854775807) (hd:∀ x∈xs,I64 x.d) (hm:ms.length≤9223372036854775807):runP tabM 1706 [.agg (qryS q),.sl 2 (poS P),.sl 4 (mls xs),.sl 4 (mls ms)] []=some (.bool true,[]):=by
 refine runP_fn (show tabM 1706=_ from t1706) rfl ?_
 obtain ⟨b,gb,hb⟩:=big_run hl ht
 have gb:=up gb
 have gf:=up (far18_run (sp:=2) (.inl rfl) hn hw hr hx hm)
 have gp:=progs_run
 cases b
 case true=>
  unfold qryS at gb ⊢
  simp (disch:=omega) only [go_sem,d1706,gb]
 cases hf:far18 P xs ms<;>rw [hf] at gf
 case true=>
  unfold qryS at gb ⊢
  simp (disch:=omega) only [go_sem,d1706,gb,gf]
 obtain ⟨hP,hx6,hm6⟩:=far18_no hf
 obtain ⟨hb1,hb2⟩:=hb rfl
 have gc:=up (clean_run (l:=xs) (by omega) hd)
 cases hc:clB xs<;>rw [hc] at gc
 case false=>
  unfold qryS at gb ⊢
  simp (disch:=omega) only [go_sem,d1706,gb,gf,gc]
 obtain ⟨f,d,h,g,X,LH,hX,p1,p2⟩:=done_two hP (by omega:q.words.length≤1000) (by omega:xs.length≤60000) (by omega:ms.length≤60000) hc
 have p2:=up p2
 have sa:=up (asame_run (f:=f) (g:=f) (d:=d) (e:=d) (h:=h) (k:=h) (by omega) (by omega))
 rw [decide_eq_true ⟨rfl,rfl,rfl⟩] at sa
 have K:=prs_len h
 unfold ansS at sa
 unfold ansA at p1
 unfold qryS at gb p1 p2 ⊢
 rcases hX with rfl | rfl
 ·simp (disch:=omega) only [go_sem,d1706,gb,gf,gc,p1,p2,sa,gp,beq_self_eq_true,K]
 ·simp (disch:=omega) only [go_sem,d1706,gb,gf,gc,p1,p2,sa,gp,beq_self_eq_true,K]
end Go.Proofs.Ytfbfbennheeglaa
