import Derived.Test.YtgiofefdfcaibaaCf
import Derived.Test.YtgiofefdfcaibaaVm
namespace Go.Proofs.Ytgiofefdfcaibaa
set_option linter.unusedSimpArgs false
set_option linter.unusedVariables false
set_option maxHeartbeats 4000000
set_option maxRecDepth 100000
theorem nrm_rising (l:List Int):nrmL ltI l=rising l:=by
 refine inc_ext ?_ (rising_inc l) fun x=>by rw [nrm_mem ordrI,rising_mem]
 exact (nrm_asc ordrI l).imp fun h=>by simpa [ltI] using h
theorem qin_run {l:List Int} {x:Int} (hl:l.length≤1000000):runP tab 1020 [.sl 1 (ints l),.int .i64 x] []=some (.bool (decide (x∈l)),[]):=by
 refine runP_fn t1020 rfl ?_
 simp (disch:=omega) only [go_sem,d1020]
 rcases first_ix' (fun i=>l.getD i 0≠x) l.length with h | ⟨k,h1,h2,h3⟩
 ·rw [show decide (x∈l)=false by
   rw [decide_eq_false_iff_not,memI];rintro ⟨i,hi,e⟩;exact h i hi e]
  refine Ev_loop0 (fun i=>⟨[(0,.sl 1 (ints l)),(1,.int .i64 x),(5,.int .i64 (i:Int))],[],0,[(0,0,[0,1,5],[])]⟩) l.length rfl (fun i hi=>?_) ?_
  ·have:=h i (by omega)
   simp (disch:=omega) only [go_sem,d1020_b0]
  ·simp (disch:=omega) only [go_sem,d1020_b0]
 ·have h3:l.getD k 0=x:=by simpa using h3
  rw [show decide (x∈l)=true by rw [decide_eq_true_eq,memI];exact ⟨k,h1,h3⟩]
  refine Ev_loop0 (fun i=>⟨[(0,.sl 1 (ints l)),(1,.int .i64 x),(5,.int .i64 (i:Int))],[],0,[(0,0,[0,1,5],[])]⟩) k rfl (fun i hi=>?_) ?_
  ·have:=h2 i (by omega)
   simp (disch:=omega) only [go_sem,d1020_b0]
  ·simp (disch:=omega) only [go_sem,d1020_b0,h3]
theorem allF_mem {P:List Po} {x:Int}:∀ (ws:List Txt) (t:List Int),x∈ws.foldl (allF P) t↔x∈t∧∀ w∈ws,x∈findP P w
 | [],t=>by simp
 |w::ws,t=>by
  rw [List.foldl_cons,allF_mem ws,allF,bothL,nrm_mem ordrI,List.mem_filter]
  simp only [List.mem_cons,forall_eq_or_imp,decide_eq_true_eq]
  exact ⟨fun h=>⟨h.1.2,h.1.1,h.2⟩,fun h=>⟨⟨h.2.1,h.1⟩,h.2.2⟩⟩
theorem allP_mem {P:List Po} {x:Int} {ws:List Txt} (h:ws≠[]):x∈allP P ws↔∀ w∈ws,x∈findP P w:=by
 obtain ⟨w,r,rfl⟩:=List.exists_cons_of_ne_nil h
 rw [allP,allF_mem,nrm_mem ordrI]
 simp only [List.mem_cons,forall_eq_or_imp]
theorem allP_asc {P:List Po} (ws:List Txt):(allP P ws).Pairwise (·<·):=by
 cases ws with
 |nil=>exact .nil
 |cons w r=>
  rw [allP]
  rcases List.eq_nil_or_concat r with rfl | ⟨l,b,rfl⟩
  ·rw [List.foldl_nil,nrm_rising];exact rising_inc _
  ·rw [List.concat_eq_append,List.foldl_append,List.foldl_cons,List.foldl_nil,allF,bothL,nrm_rising]
   exact rising_inc _
theorem fit_pos {v:AV} (h:Fit (.sl 2 [.str,.sl 1 [.int .i64]]) v):∃ P:List Po,v=.sl 2 (poS P)∧P.length≤9223372036854775807∧(∀ p∈P,p.1.length≤9223372036854775807)∧∀ p∈P,p.2.length≤9223372036854775807:=by
 obtain ⟨rows,rfl,hl,hr⟩:=h
 have:∃ P:List Po,rows.flatten=poS P∧P.length=rows.length∧∀ p∈P,p.1.length≤9223372036854775807∧p.2.length≤9223372036854775807:=by
  clear hl
  induction rows with
  |nil=>exact ⟨[],rfl,rfl,by simp⟩
  |cons r rows ih=>
   obtain ⟨P,h1,h2,h3⟩:=ih (fun r hr'=>hr r (by simp [hr']))
   have h4:=hr r (by simp)
   simp only [FitL] at h4
   obtain ⟨v,us,rfl,h5,v2,us2,rfl,h6,rfl⟩:=h4
   obtain ⟨a,rfl,ha⟩:=fit_str h5
   obtain ⟨b,rfl,hb,_⟩:=fit_ints h6
   refine ⟨(a,b)::P,by simp [h1,poS],by simp [h2],fun p hp=>?_⟩
   rcases List.mem_cons.1 hp with rfl | hp
   ·exact ⟨ha,hb⟩
   ·exact h3 p hp
 obtain ⟨P,h1,h2,h3⟩:=this
 exact ⟨P,by rw [h1],by rw [h2];unfold maxLen at hl;omega,fun p hp=>(h3 p hp).1,fun p hp=>(h3 p hp).2⟩
def badP (p:Po):Bool:=decide (60<p.1.length) || decide (60<p.2.length)
def bigP (P:List Po):Bool:=(decide (P.length≤40) && P.any badP) || decide (40<P.length)
theorem bigP_ok {P:List Po} (h:bigP P=false):P.length≤40∧∀ p∈P,p.1.length≤60∧p.2.length≤60:=by
 simp only [bigP,Bool.or_eq_false_iff,decide_eq_false_iff_not] at h
 obtain ⟨h1,h2⟩:=h
 have hw:P.length≤40:=by omega
 rw [decide_eq_true hw,Bool.true_and,List.any_eq_false] at h1
 refine ⟨hw,fun p hp=>?_⟩
 have:=h1 p hp
 simp only [badP,Bool.or_eq_true,decide_eq_true_eq,not_or] at this
 omega
theorem bigP_okP {P:List Po} (h:bigP P=false):okP P:=by
 obtain ⟨h1,h2⟩:=bigP_ok h
 exact ⟨by omega,fun p hp=>by have:=(h2 p hp).2;omega⟩
theorem bigP_run {P:List Po} (hn:P.length≤9223372036854775807) (hw:∀ p∈P,p.1.length≤9223372036854775807) (hr:∀ p∈P,p.2.length≤9223372036854775807):runP tab 1595 [.sl 2 (poS P)] []=some (.bool (bigP P),[]):=by
 refine runP_fn t1595 rfl ?_
 have L:=poS_len P
 have Ld:P.length*2 / 2=P.length:=by omega
 simp (disch:=omega) only [go_sem,d1595,L,Ld]
 by_cases c:P.length≤40
 case neg=>
  rw [show bigP P=true by simp [bigP];omega]
  refine Ev_stop ?_
  simp (disch:=omega) only [go_sem,d1595_b0,L,Ld]
 have hst:∀ i,i<P.length→badP (P.getD i default)=false→Ev tab d1595_b0 ⟨[(0,.sl 2 (poS P)),(3,.int .i64 (i:Int))],[],0,[(0,0,[0,3],[])]⟩ (fun x st=>x=.normal∧st=⟨[(0,.sl 2 (poS P)),(3,.int .i64 ((i+1:Nat):Int))],[],0,[(0,0,[0,3],[])]⟩):=by
  intro i hi q
  simp only [badP,Bool.or_eq_false_iff,decide_eq_false_iff_not] at q
  obtain ⟨q1,q2⟩:=q
  have e1:=poS_at1 hi
  have e2:=poS_at2 hi
  have L2:=ints_length (P.getD i default).2
  simp (disch:=omega) only [go_sem,d1595_b0,L,Ld,e1,e2,L2]
 rcases first_ix' (fun i=>badP (P.getD i default)=false) P.length with h | ⟨m,m1,m2,m3⟩
 ·rw [show bigP P=false by
   simp only [bigP,Bool.or_eq_false_iff,decide_eq_false_iff_not]
   refine ⟨?_,by omega⟩
   rw [decide_eq_true c,Bool.true_and,List.any_eq_false]
   intro p hp
   obtain ⟨i,hi,rfl⟩:=mem_getD (d:=default) hp
   simpa using h i hi]
  refine Ev_loop0 (fun i=>⟨[(0,.sl 2 (poS P)),(3,.int .i64 (i:Int))],[],0,[(0,0,[0,3],[])]⟩) P.length rfl (fun i hi=>hst i hi (h i hi)) ?_
  simp (disch:=omega) only [go_sem,d1595_b0,L,Ld]
 ·have m3:badP (P.getD m default)=true:=by simpa using m3
  rw [show bigP P=true by
   simp only [bigP,Bool.or_eq_true,decide_eq_true_eq]
   left
   rw [decide_eq_true c,Bool.true_and,List.any_eq_true]
   exact ⟨_,getD_mem' m1,m3⟩]
  refine Ev_loop0 (fun i=>⟨[(0,.sl 2 (poS P)),(3,.int .i64 (i:Int))],[],0,[(0,0,[0,3],[])]⟩) m rfl (fun i hi=>hst i (by omega) (m2 i hi)) ?_
  have e1:=poS_at1 m1
  have e2:=poS_at2 m1
  have L2:=ints_length (P.getD m default).2
  have w1:=hw _ (getD_mem' m1)
  have w2:=hr _ (getD_mem' m1)
  by_cases q1:60<(P.getD m default).1.length
  ·simp (disch:=omega) only [go_sem,d1595_b0,L,Ld,e1,e2,L2]
  ·have q2:60<(P.getD m default).2.length:=by
    simp only [badP,Bool.or_eq_true,decide_eq_true_eq] at m3
    omega
   simp (disch:=omega) only [go_sem,d1595_b0,L,Ld,e1,e2,L2]
end Go.Proofs.Ytgiofefdfcaibaa
