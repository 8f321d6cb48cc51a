import Derived.Test.YtfbfbennheeglaaCf
import Derived.Test.YtfbfbennheeglaaVb
import Derived.Test.YtfbfbennheeglaaSb
import Derived.Laws.Bits64
import Derived.Laws.Bits64b
import Derived.Test.YtfbfbennheeglaaHy
import Derived.Test.YtfbfbennheeglaaIb
import Derived.Test.YtfbfbennheeglaaSi4
namespace Go.Proofs.Ytfbfbennheeglaa
set_option linter.unusedSimpArgs false
set_option linter.unusedVariables false
set_option maxHeartbeats 4000000
set_option maxRecDepth 100000
theorem nrm_rising (l:List Int):nrmL ltI l=rising l:=by
 refine inc_ext ?_ (rising_inc l) fun x=>by rw [nrm_mem ordrI,rising_mem]
 exact (nrm_asc ordrI l).imp fun h=>by simpa [ltI] using h
theorem qin_run {l:List Int} {x:Int} (hl:l.length≤1000000):runP tab 1020 [.sl 1 (ints l),.int .i64 x] []=some (.bool (decide (x∈l)),[]):=by
 refine runP_fn t1020 rfl ?_
 simp (disch:=omega) only [go_sem,d1020]
 rcases first_ix' (fun i=>l.getD i 0≠x) l.length with h | ⟨k,h1,h2,h3⟩
 ·rw [show decide (x∈l)=false by
   rw [decide_eq_false_iff_not,memI];rintro ⟨i,hi,e⟩;exact h i hi e]
  refine Ev_loop0 (fun i=>⟨[(0,.sl 1 (ints l)),(1,.int .i64 x),(5,.int .i64 (i:Int))],[],0,[(0,0,[0,1,5],[])]⟩) l.length rfl (fun i hi=>?_) ?_
  ·have:=h i (by omega)
   simp (disch:=omega) only [go_sem,d1020_b0]
  ·simp (disch:=omega) only [go_sem,d1020_b0]
 ·have h3:l.getD k 0=x:=by simpa using h3
  rw [show decide (x∈l)=true by rw [decide_eq_true_eq,memI];exact ⟨k,h1,h3⟩]
  refine Ev_loop0 (fun i=>⟨[(0,.sl 1 (ints l)),(1,.int .i64 x),(5,.int .i64 (i:Int))],[],0,[(0,0,[0,1,5],[])]⟩) k rfl (fun i hi=>?_) ?_
  ·have:=h2 i (by omega)
   simp (disch:=omega) only [go_sem,d1020_b0]
  ·simp (disch:=omega) only [go_sem,d1020_b0,h3]
theorem rrs_snoc {l:List Int} {i:Nat} (h:i<l.length):rising (l.take (i+1))=ins (rising (l.take i)) (l.getD i 0):=by unfold rising;rw [take_snoc 0 h,List.foldl_append];rfl
theorem qrs_run {l:List Int} (hb:l.length≤1000000):runP tab 1021 [.sl 1 (ints l)] []=some (.vec 1 (ints (rising l)),[]):=by
 refine runP_fn t1021 rfl ?_
 simp (disch:=omega) only [go_sem,d1021]
 refine Ev_loop0 (fun i=>⟨[(0,.sl 1 (ints l)),(3,.own 1 0),(4,.int .i64 (i:Int))],[.row false (ints (rising (l.take i)))],0,[(0,1,[0,3,4],[(3,0)])]⟩) l.length (by simp [rising,ints]) (fun i hi=>?_) ?_
 ·have hl:=rising_len (l.take i)
  simp only [List.length_take] at hl
  rw [rrs_snoc hi]
  have a1:=lwb_le (rising (l.take i)) (l.getD i 0)
  have a2:=fun k=>lwb_before (o:=rising (l.take i)) (x:=l.getD i 0) (i:=k)
  have a3:=lwb_at (o:=rising (l.take i)) (x:=l.getD i 0)
  unfold ins
  generalize rising (l.take i)=o at *
  generalize hxx:l.getD i 0=x at *
  generalize hj:lwb o x=j at *
  simp (disch:=omega) only [go_sem,d1021_b0]
  refine Ev_loop0 (fun k=>⟨[(0,.sl 1 (ints l)),(3,.own 1 0),(4,.int .i64 (i:Int)),(5,.int .i64 (k:Int))],[.row false (ints o)],0,[(1,1,[0,3,4,5],[(3,0)]),(0,1,[0,3,4],[(3,0)])]⟩) j rfl (fun k hk=>?_) ?_
  ·have:=a2 k hk
   simp (disch:=omega) only [go_sem,d1021_b1,hxx]
  ·by_cases hjl:j<o.length
   ·have a3:=a3 hjl
    by_cases hx:o.getD j 0=x
    ·rw [if_pos ⟨hjl,hx⟩]
     simp (disch:=omega) only [go_sem,d1021_b1,hxx,hx]
    ·rw [if_neg (fun h=>hx h.2),show o.take j++x::o.drop j=o.take j++[x]++o.drop j by simp]
     simp (disch:=omega) only [go_sem,d1021_b1,hxx]
   ·rw [if_neg (fun h=>hjl h.1)]
    obtain rfl:j=o.length:=by omega
    simp (disch:=omega) only [go_sem,d1021_b1,hxx,List.drop_length,List.take_length]
 ·simp (disch:=omega) only [go_sem,d1021_b0,List.take_length]
theorem qfind_run {P:List Po} {w:Txt} (hP:P.length≤1000000) (hp:∀ p∈P,p.2.length≤1000000):runP tab 1600 [.sl 2 (poS P),.str w] []=some (.vec 1 (ints (findP P w)),[]):=by
 refine runP_fn t1600 rfl ?_
 have L:=poS_len P
 have Ld:P.length*2 / 2=P.length:=by omega
 simp (disch:=omega) only [go_sem,d1600,L,Ld]
 rcases first_ix' (fun i=>(P.getD i default).1≠w) P.length with h | ⟨m,m1,m2,m3⟩
 ·have e:findP P w=[]:=by
   unfold findP
   rw [List.find?_eq_none.2 fun p hp=>?_]
   obtain ⟨i,hi,rfl⟩:=mem_getD (d:=default) hp
   simpa using h i hi
  rw [e]
  refine Ev_loop0 (fun i=>⟨[(0,.sl 2 (poS P)),(1,.str w),(5,.int .i64 (i:Int))],[],0,[(0,0,[0,1,5],[])]⟩) P.length rfl (fun i hi=>?_) ?_
  ·have e1:=poS_at1 hi
   have q:((P.getD i default).1 == w)=false:=by simpa using h i hi
   simp (disch:=omega) only [go_sem,d1600_b0,L,Ld,e1,q]
  ·simp (disch:=omega) only [go_sem,d1600_b0,L,Ld]
   rfl
 ·have m3:(P.getD m default).1=w:=Classical.not_not.1 m3
  have e:=findP_at m1 m2 m3
  rw [e]
  refine Ev_loop0 (fun i=>⟨[(0,.sl 2 (poS P)),(1,.str w),(5,.int .i64 (i:Int))],[],0,[(0,0,[0,1,5],[])]⟩) m rfl (fun i hi=>?_) ?_
  ·have e1:=poS_at1 (P:=P) (i:=i) (by omega)
   have q:((P.getD i default).1 == w)=false:=by simpa using m2 i hi
   simp (disch:=omega) only [go_sem,d1600_b0,L,Ld,e1,q]
  ·have e1:=poS_at1 m1
   have e2:=poS_at2 m1
   have q:((P.getD m default).1 == w)=true:=by simpa using m3
   have gc:=owni_run (l:=(P.getD m default).2) (hp _ (getD_mem' m1))
   simp (disch:=omega) only [go_sem,d1600_b0,L,Ld,e1,e2,q,gc]
theorem bothL_eq (a b:List Int):rising (a.filter fun x=>decide (x∈b))=bothL a b:=by
 rw [bothL,nrm_rising]
 refine inc_ext (rising_inc _) (rising_inc _) fun x=>?_
 simp only [rising_mem,List.mem_filter,decide_eq_true_eq]
 exact And.comm
theorem qboth_run {a b:List Int} (ha:a.length≤1000000) (hb:b.length≤1000000):runP tab 1602 [.sl 1 (ints a),.sl 1 (ints b)] []=some (.vec 1 (ints (bothL a b)),[]):=by
 refine runP_fn t1602 rfl ?_
 have La:=ints_length a
 simp (disch:=omega) only [go_sem,d1602,La]
 refine Ev_loop0 (fun i=>⟨[(0,.sl 1 (ints a)),(1,.sl 1 (ints b)),(5,.own 1 0),(6,.int .i64 (i:Int))],[.row false (ints ((a.take i).filter fun x=>decide (x∈b)))],0,[(0,1,[0,1,5,6],[(5,0)])]⟩) a.length rfl (fun i hi=>?_) ?_
 ·have e1:=ints_rdc0 hi
  have g:=qin_run (l:=b) (x:=a.getD i 0) hb
  have et:a.take (i+1)=a.take i++[a.getD i 0]:=take_snoc 0 hi
  have Lf:=ints_length ((a.take i).filter fun x=>decide (x∈b))
  have Lfl:((a.take i).filter fun x=>decide (x∈b)).length≤1000000:=by
   have:=List.length_filter_le (fun x=>decide (x∈b)) (a.take i)
   rw [List.length_take] at this;omega
  rw [et,List.filter_append]
  by_cases hm:a.getD i 0∈b
  ·rw [decide_eq_true hm] at g
   rw [List.filter_cons_of_pos (p:=fun x=>decide (x∈b)) (decide_eq_true hm),List.filter_nil]
   simp (disch:=omega) only [go_sem,d1602_b0,La,e1,g,Lf]
  ·rw [decide_eq_false hm] at g
   rw [List.filter_cons_of_neg (p:=fun x=>decide (x∈b)) (by simpa using hm),List.filter_nil,List.append_nil]
   simp (disch:=omega) only [go_sem,d1602_b0,La,e1,g,Lf]
 ·rw [List.take_length]
  have hl:=List.length_filter_le (fun x=>decide (x∈b)) a
  have g:=qrs_run (l:=a.filter fun x=>decide (x∈b)) (by omega)
  rw [bothL_eq] at g
  simp (disch:=omega) only [go_sem,d1602_b0,La,g]
theorem qall_run {P:List Po} (hP:okP P) {ws:List Txt} (hw:ws.length≤100000):runP tab 1598 [.sl 2 (poS P),.sl 1 (strs ws)] []=some (.tup [.vec 1 (ints (allP P ws)),.int .i64 (if ws=[] then 1 else 0)],[]):=by
 refine runP_fn t1598 rfl ?_
 have L:=strs_length ws
 have hn:=hP.n
 have gf:∀ w,runP tab 1600 [.sl 2 (poS P),.str w] []=some (.vec 1 (ints (findP P w)),[]):=fun w=>qfind_run (by omega) (fun p hp=>by have:=hP.r p hp;omega)
 by_cases h0:ws=[]
 ·subst h0
  simp (disch:=omega) only [go_sem,d1598,strs];rfl
 ·obtain ⟨w,r,rfl⟩:=List.exists_cons_of_ne_nil h0
  have hp:0<(w::r).length:=List.length_pos_iff.2 h0
  have e0:=strs_rdc (l:=w::r) (i:=0) (by simp)
  simp only [List.drop_zero] at e0
  have hf:=findP_len hP ((w::r).getD 0 [])
  have gr:=qrs_run (l:=findP P ((w::r).getD 0 [])) (by omega)
  rw [←nrm_rising] at gr
  rw [if_neg h0]
  have hw0:(w::r).getD 0 []=w:=rfl
  rw [hw0] at e0 hf gr
  simp (disch:=omega) only [go_sem,d1598,L,e0,gf,gr]
  refine Ev_loop0 (fun i=>⟨[(0,.sl 2 (poS P)),(1,.sl 1 (strs (w::r))),(6,.own 1 1),(7,.int .i64 ((i:Int)+1))],[.row false (ints (findP P w)),.row false (ints ((r.take i).foldl (allF P) (nrmL ltI (findP P w))))],0,[(0,2,[0,1,6,7],[(6,1)])]⟩) r.length rfl (fun i hi=>?_) ?_
  ·have e1:=strs_rdc (l:=w::r) (i:=i+1) (by simp;omega)
   have e2:(w::r).getD (i+1) []=r.getD i []:=rfl
   have hl:(w::r).length=r.length+1:=rfl
   rw [e2] at e1
   have et:r.take (i+1)=r.take i++[r.getD i []]:=take_snoc [] hi
   rw [et,List.foldl_append,List.foldl_cons,List.foldl_nil]
   have ht:=allF_len hP (r.take i) _ (nrm_findP hP w)
   have hf2:=findP_len hP (r.getD i [])
   have gb:=qboth_run (a:=(r.take i).foldl (allF P) (nrmL ltI (findP P w))) (b:=findP P (r.getD i [])) (by omega) (by omega)
   have z:((i:Int)+1).toNat=i+1:=by omega
   simp (disch:=omega) only [go_sem,d1598_b0,L,hl,e1,z,gf,gb]
   rfl
  ·rw [List.take_length]
   have hl:(w::r).length=r.length+1:=rfl
   simp (disch:=omega) only [go_sem,d1598_b0,L,hl]
   rfl
theorem fit_pos {v:AV} (h:Fit (.sl 2 [.str,.sl 1 [.int .i64]]) v):∃ P:List Po,v=.sl 2 (poS P)∧P.length≤9223372036854775807∧(∀ p∈P,p.1.length≤9223372036854775807)∧∀ p∈P,p.2.length≤9223372036854775807:=by
 obtain ⟨rows,rfl,hl,hr⟩:=h
 have:∃ P:List Po,rows.flatten=poS P∧P.length=rows.length∧∀ p∈P,p.1.length≤9223372036854775807∧p.2.length≤9223372036854775807:=by
  clear hl
  induction rows with
  |nil=>exact ⟨[],rfl,rfl,by simp⟩
  |cons r rows ih=>
   obtain ⟨P,h1,h2,h3⟩:=ih (fun r hr'=>hr r (by simp [hr']))
   have h4:=hr r (by simp)
   simp only [FitL] at h4
   obtain ⟨v,us,rfl,h5,v2,us2,rfl,h6,rfl⟩:=h4
   obtain ⟨a,rfl,ha⟩:=fit_str h5
   obtain ⟨b,rfl,hb,_⟩:=fit_ints h6
   refine ⟨(a,b)::P,by simp [h1,poS],by simp [h2],fun p hp=>?_⟩
   rcases List.mem_cons.1 hp with rfl | hp
   ·exact ⟨ha,hb⟩
   ·exact h3 p hp
 obtain ⟨P,h1,h2,h3⟩:=this
 exact ⟨P,by rw [h1],by rw [h2];unfold maxLen at hl;omega,fun p hp=>(h3 p hp).1,fun p hp=>(h3 p hp).2⟩
def badP (p:Po):Bool:=decide (60<p.1.length) || decide (60<p.2.length)
def bigP (P:List Po):Bool:=(decide (P.length≤40) && P.any badP) || decide (40<P.length)
theorem bigP_ok {P:List Po} (h:bigP P=false):P.length≤40∧∀ p∈P,p.1.length≤60∧p.2.length≤60:=by
 simp only [bigP,Bool.or_eq_false_iff,decide_eq_false_iff_not] at h
 obtain ⟨h1,h2⟩:=h
 have hw:P.length≤40:=by omega
 rw [decide_eq_true hw,Bool.true_and,List.any_eq_false] at h1
 refine ⟨hw,fun p hp=>?_⟩
 have:=h1 p hp
 simp only [badP,Bool.or_eq_true,decide_eq_true_eq,not_or] at this
 omega
theorem bigP_okP {P:List Po} (h:bigP P=false):okP P:=by
 obtain ⟨h1,h2⟩:=bigP_ok h
 exact ⟨by omega,fun p hp=>by have:=(h2 p hp).2;omega⟩
theorem bigP_run {P:List Po} (hn:P.length≤9223372036854775807) (hw:∀ p∈P,p.1.length≤9223372036854775807) (hr:∀ p∈P,p.2.length≤9223372036854775807):runP tab 1595 [.sl 2 (poS P)] []=some (.bool (bigP P),[]):=by
 refine runP_fn t1595 rfl ?_
 have L:=poS_len P
 have Ld:P.length*2 / 2=P.length:=by omega
 simp (disch:=omega) only [go_sem,d1595,L,Ld]
 by_cases c:P.length≤40
 case neg=>
  rw [show bigP P=true by simp [bigP];omega]
  refine Ev_stop ?_
  simp (disch:=omega) only [go_sem,d1595_b0,L,Ld]
 have hst:∀ i,i<P.length→badP (P.getD i default)=false→Ev tab d1595_b0 ⟨[(0,.sl 2 (poS P)),(3,.int .i64 (i:Int))],[],0,[(0,0,[0,3],[])]⟩ (fun x st=>x=.normal∧st=⟨[(0,.sl 2 (poS P)),(3,.int .i64 ((i+1:Nat):Int))],[],0,[(0,0,[0,3],[])]⟩):=by
  intro i hi q
  simp only [badP,Bool.or_eq_false_iff,decide_eq_false_iff_not] at q
  obtain ⟨q1,q2⟩:=q
  have e1:=poS_at1 hi
  have e2:=poS_at2 hi
  have L2:=ints_length (P.getD i default).2
  simp (disch:=omega) only [go_sem,d1595_b0,L,Ld,e1,e2,L2]
 rcases first_ix' (fun i=>badP (P.getD i default)=false) P.length with h | ⟨m,m1,m2,m3⟩
 ·rw [show bigP P=false by
   simp only [bigP,Bool.or_eq_false_iff,decide_eq_false_iff_not]
   refine ⟨?_,by omega⟩
   rw [decide_eq_true c,Bool.true_and,List.any_eq_false]
   intro p hp
   obtain ⟨i,hi,rfl⟩:=mem_getD (d:=default) hp
   simpa using h i hi]
  refine Ev_loop0 (fun i=>⟨[(0,.sl 2 (poS P)),(3,.int .i64 (i:Int))],[],0,[(0,0,[0,3],[])]⟩) P.length rfl (fun i hi=>hst i hi (h i hi)) ?_
  simp (disch:=omega) only [go_sem,d1595_b0,L,Ld]
 ·have m3:badP (P.getD m default)=true:=by simpa using m3
  rw [show bigP P=true by
   simp only [bigP,Bool.or_eq_true,decide_eq_true_eq]
   left
   rw [decide_eq_true c,Bool.true_and,List.any_eq_true]
   exact ⟨_,getD_mem' m1,m3⟩]
  refine Ev_loop0 (fun i=>⟨[(0,.sl 2 (poS P)),(3,.int .i64 (i:Int))],[],0,[(0,0,[0,3],[])]⟩) m rfl (fun i hi=>hst i (by omega) (m2 i hi)) ?_
  have e1:=poS_at1 m1
  have e2:=poS_at2 m1
  have L2:=ints_length (P.getD m default).2
  have w1:=hw _ (getD_mem' m1)
  have w2:=hr _ (getD_mem' m1)
  by_cases q1:60<(P.getD m default).1.length
  ·simp (disch:=omega) only [go_sem,d1595_b0,L,Ld,e1,e2,L2]
  ·have q2:60<(P.getD m default).2.length:=by
    simp only [badP,Bool.or_eq_true,decide_eq_true_eq] at m3
    omega
   simp (disch:=omega) only [go_sem,d1595_b0,L,Ld,e1,e2,L2]
end Go.Proofs.Ytfbfbennheeglaa
