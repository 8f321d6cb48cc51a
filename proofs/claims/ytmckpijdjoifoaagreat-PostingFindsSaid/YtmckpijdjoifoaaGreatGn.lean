import Derived.Test.YtmckpijdjoifoaaGreatGa
import Derived.Test.YtmckpijdjoifoaaGreatSe4
import Derived.Test.YtmckpijdjoifoaaGreatSs4
import Derived.Test.YtmckpijdjoifoaaGreatHx
namespace Go.Proofs.YtmckpijdjoifoaaGreat
set_option linter.unusedSimpArgs false
set_option linter.unusedVariables false
set_option maxHeartbeats 4000000
set_option maxRecDepth 100000
open Classical in
noncomputable def ascB {α:Type} (lt:α→α→Bool) (l:List α):Bool:=decide (asc lt l)
theorem ascB_iff {α:Type} {lt:α→α→Bool} {l:List α}:ascB lt l=true↔asc lt l:=by simp [ascB]
section
variable {α:Type} {lt:α→α→Bool} [Inhabited α]
def adj (lt:α→α→Bool) (l:List α) (i:Nat):Prop:=lt (l.getD i default) (l.getD (i+1) default)=true
theorem asc_of_adj (O:Ordr lt):∀ {l:List α},(∀ i,i<l.length - 1→adj lt l i)→asc lt l
 | [],_=>.nil
 | [a],_=>by simp [asc]
 |a::b::l,h=>by
  have ih:=asc_of_adj O (l:=b::l) (fun i hi=>by have:=h (i+1) (by simp at hi ⊢;omega);simpa [adj] using this)
  have h0:=h 0 (by simp)
  simp only [adj,List.getD_cons_zero,List.getD_cons_succ] at h0
  refine List.pairwise_cons.2 ⟨fun c hc=>?_,ih⟩
  rcases List.mem_cons.1 hc with rfl | hc
  ·exact h0
  ·exact O.tr _ _ _ h0 ((List.pairwise_cons.1 ih).1 c hc)
theorem adj_of_asc {l:List α} (h:asc lt l) {i:Nat} (hi:i<l.length - 1):adj lt l i:=by
 have:=List.pairwise_iff_getElem.1 h i (i+1) (by omega) (by omega) (by omega)
 rw [adj,List.getD_eq_getElem?_getD,List.getD_eq_getElem?_getD,List.getElem?_eq_getElem (by omega),List.getElem?_eq_getElem (by omega)]
 exact this
theorem asc_ix (O:Ordr lt) (l:List α):((∀ i,i<l.length - 1→adj lt l i)∧ascB lt l=true)∨∃ m,m<l.length - 1∧(∀ i,i<m→adj lt l i)∧¬ adj lt l m∧ascB lt l=false:=by
 rcases first_ix' (fun i=>adj lt l i) (l.length - 1) with h | ⟨m,h1,h2,h3⟩
 ·exact .inl ⟨h,by simp [ascB,asc_of_adj O h]⟩
 ·exact .inr ⟨m,h1,h2,h3,by simp only [ascB,decide_eq_false_iff_not];exact fun h=>h3 (adj_of_asc h h1)⟩
end
theorem ord_ge (x y:Ed):decide (0≤ordE x y)=!ltE x y:=by
 rw [←ord_lt,←decide_not];congr 1;exact propext (by omega)
theorem cms_ge (x y:Txt):decide (0≤Go.Lib.compareBytes x y)=!ltS x y:=by
 rw [←cms_lt,←decide_not];congr 1;exact propext (by omega)
theorem risesE_run {l:List Ed} (hl:l.length≤1000000):runP tab 1215 [.sl 2 (prs l),.agg [.clo 1223 [] []]] []=some (.bool (ascB ltE l),[]):=by
 refine runP_fn t1215 rfl ?_
 simp (disch:=omega) only [go_sem,d1215]
 have hst:=fun (i:Nat) (hi:i<l.length - 1) (h:adj ltE l i)=>(show Ev tab d1215_b0 ⟨[(0,.sl 2 (prs l)),(3,.ref 0 0),(5,.int .i64 ((i:Int)+1))],[.row false [.clo 1223 [] []]],0,[(0,1,[0,3,5],[(3,0)])]⟩ (fun x st=>x=.normal∧st=⟨[(0,.sl 2 (prs l)),(3,.ref 0 0),(5,.int .i64 (((i+1:Nat):Int)+1))],[.row false [.clo 1223 [] []]],0,[(0,1,[0,3,5],[(3,0)])]⟩) from by
  have e1:=prs_at (l:=l) (i:=i) (by omega)
  have e2:=prs_at (l:=l) (i:=i+1) (by omega)
  rw [adj] at h
  simp (disch:=omega) only [go_sem,d1215_b0,Int.add_sub_cancel,tn1,e1,e2,gc_e,ord_ge,h])
 rcases asc_ix ordrE l with ⟨h,e⟩ | ⟨m,m1,m2,m3,e⟩
 ·rw [e]
  by_cases h0:l=[]
  ·subst h0
   refine Ev_stop ?_
   simp (disch:=omega) only [go_sem,d1215_b0]
  have hp:0<l.length:=List.length_pos_iff.2 h0
  refine Ev_loop0 (fun i=>⟨[(0,.sl 2 (prs l)),(3,.ref 0 0),(5,.int .i64 ((i:Int)+1))],[.row false [.clo 1223 [] []]],0,[(0,1,[0,3,5],[(3,0)])]⟩) (l.length - 1) (by simp) (fun i hi=>hst i hi (h i hi)) ?_
  simp (disch:=omega) only [go_sem,d1215_b0]
 ·rw [e]
  refine Ev_loop0 (fun i=>⟨[(0,.sl 2 (prs l)),(3,.ref 0 0),(5,.int .i64 ((i:Int)+1))],[.row false [.clo 1223 [] []]],0,[(0,1,[0,3,5],[(3,0)])]⟩) m (by simp) (fun i hi=>hst i (by omega) (m2 i hi)) ?_
  have e1:=prs_at (l:=l) (i:=m) (by omega)
  have e2:=prs_at (l:=l) (i:=m+1) (by omega)
  have h:ltE (l.getD m default) (l.getD (m+1) default)=false:=by simpa [adj] using m3
  simp (disch:=omega) only [go_sem,d1215_b0,Int.add_sub_cancel,tn1,e1,e2,gc_e,ord_ge,h]
theorem risesS_run {l:List Txt} (hl:l.length≤1000000):runP tab 1217 [.sl 1 (strs l),.agg [.clo 1224 [] []]] []=some (.bool (ascB ltS l),[]):=by
 refine runP_fn t1217 rfl ?_
 simp (disch:=omega) only [go_sem,d1217,strs_length]
 have hst:=fun (i:Nat) (hi:i<l.length - 1) (h:adj ltS l i)=>(show Ev tab d1217_b0 ⟨[(0,.sl 1 (strs l)),(3,.ref 0 0),(5,.int .i64 ((i:Int)+1))],[.row false [.clo 1224 [] []]],0,[(0,1,[0,3,5],[(3,0)])]⟩ (fun x st=>x=.normal∧st=⟨[(0,.sl 1 (strs l)),(3,.ref 0 0),(5,.int .i64 (((i+1:Nat):Int)+1))],[.row false [.clo 1224 [] []]],0,[(0,1,[0,3,5],[(3,0)])]⟩) from by
  have e1:=strs_rdc (l:=l) (i:=i) (by omega)
  have e2:=strs_rdc (l:=l) (i:=i+1) (by omega)
  rw [adj] at h
  change ltS (l.getD i []) (l.getD (i+1) [])=true at h
  simp (disch:=omega) only [go_sem,d1217_b0,strs_length,Int.add_sub_cancel,tn1,e1,e2,gc_s,cms_ge,h])
 rcases asc_ix ordrS l with ⟨h,e⟩ | ⟨m,m1,m2,m3,e⟩
 ·rw [e]
  by_cases h0:l=[]
  ·subst h0
   refine Ev_stop ?_
   simp (disch:=omega) only [go_sem,d1217_b0,strs_length]
  have hp:0<l.length:=List.length_pos_iff.2 h0
  refine Ev_loop0 (fun i=>⟨[(0,.sl 1 (strs l)),(3,.ref 0 0),(5,.int .i64 ((i:Int)+1))],[.row false [.clo 1224 [] []]],0,[(0,1,[0,3,5],[(3,0)])]⟩) (l.length - 1) (by simp) (fun i hi=>hst i hi (h i hi)) ?_
  simp (disch:=omega) only [go_sem,d1217_b0,strs_length]
 ·rw [e]
  refine Ev_loop0 (fun i=>⟨[(0,.sl 1 (strs l)),(3,.ref 0 0),(5,.int .i64 ((i:Int)+1))],[.row false [.clo 1224 [] []]],0,[(0,1,[0,3,5],[(3,0)])]⟩) m (by simp) (fun i hi=>hst i (by omega) (m2 i hi)) ?_
  have e1:=strs_rdc (l:=l) (i:=m) (by omega)
  have e2:=strs_rdc (l:=l) (i:=m+1) (by omega)
  have h:ltS (l.getD m []) (l.getD (m+1) [])=false:=by
   have h:=m3
   simp only [adj] at h
   change ¬ ltS (l.getD m []) (l.getD (m+1) [])=true at h
   simpa using h
  simp (disch:=omega) only [go_sem,d1217_b0,strs_length,Int.add_sub_cancel,tn1,e1,e2,gc_s,cms_ge,h]
open Classical in
noncomputable def wAsc (g:Gr):Bool:=decide (∀ i,i<g.W.length→asc ltS (g.w i))
theorem wAsc_yes {g:Gr} (h:∀ i,i<g.W.length→asc ltS (g.w i)):wAsc g=true:=by simp only [wAsc,decide_eq_true_eq];exact h
theorem wAsc_no {g:Gr} (h:¬ ∀ i,i<g.W.length→asc ltS (g.w i)):wAsc g=false:=by simp only [wAsc,decide_eq_false_iff_not];exact h
noncomputable def isB (g:Gr):Bool:=okB g && (ascB ltE g.E && wAsc g)
theorem isg_run {g:Gr} (hg:okG g):runP tab 1208 [.agg (gS g)] []=some (.bool (isB g),[]):=by
 refine runP_fn t1208 rfl ?_
 have gc:=gck_run hg
 have he:=hg.e
 have hw:=hg.w
 have gr:=risesE_run (l:=g.E) (by omega)
 have b1:=byends_mk
 have b2:=bytext_mk
 simp only [gS] at gc
 unfold isB
 cases c1:okB g with
 |false=>
  rw [c1] at gc
  rw [Bool.false_and]
  simp (disch:=omega) only [go_sem,d1208,gS,gc,gr,b1]
 |true=>
  rw [c1] at gc
  rw [Bool.true_and]
  cases c2:ascB ltE g.E with
  |false=>
   rw [c2] at gr
   rw [Bool.false_and]
   simp (disch:=omega) only [go_sem,d1208,gS,gc,gr,b1]
  |true=>
   rw [c2] at gr
   rw [Bool.true_and]
   simp (disch:=omega) only [go_sem,d1208,gS,gc,gr,b1]
   have hst:=fun (i:Nat) (hi:i<g.W.length) (h:asc ltS (g.w i))=>(show Ev tab d1208_b0 ⟨[(16,.sl 1 (wcs g.W)),(17,.int .i64 g.W.length),(18,.int .i64 (i:Int))],[.row false [.int .i64 g.n,.sl 2 (prs g.E),.sl 1 (wcs g.W)]],0,[(0,1,[16,17,18],[])]⟩ (fun x st=>x=.normal∧st=⟨[(16,.sl 1 (wcs g.W)),(17,.int .i64 g.W.length),(18,.int .i64 ((i+1:Nat):Int))],[.row false [.int .i64 g.n,.sl 2 (prs g.E),.sl 1 (wcs g.W)]],0,[(0,1,[16,17,18],[])]⟩) from by
    have e:=wcs_at hi
    have gs:=risesS_run (l:=g.w i) (by have:=hg.r i hi;omega)
    rw [ascB_iff.2 h] at gs
    have ew:g.w i=(g.W.getD i none).getD []:=rfl
    rw [ew] at gs
    cases hx:g.W.getD i none with
    |none=>
     rw [hx] at e gs
     simp only [Option.getD_none,strs,List.map_nil] at gs
     simp (disch:=omega) only [go_sem,d1208_b0,e,wc,b2,gs]
    |some l=>
     rw [hx] at e gs
     simp only [Option.getD_some] at gs
     simp (disch:=omega) only [go_sem,d1208_b0,e,wc,b2,gs,strs_noid'])
   rcases first_ix' (fun i=>asc ltS (g.w i)) g.W.length with h | ⟨m,m1,m2,m3⟩
   ·rw [wAsc_yes h]
    refine Ev_loop0 (fun i=>⟨[(16,.sl 1 (wcs g.W)),(17,.int .i64 g.W.length),(18,.int .i64 (i:Int))],[.row false [.int .i64 g.n,.sl 2 (prs g.E),.sl 1 (wcs g.W)]],0,[(0,1,[16,17,18],[])]⟩) g.W.length (by simp) (fun i hi=>hst i hi (h i hi)) ?_
    simp (disch:=omega) only [go_sem,d1208_b0]
   ·rw [wAsc_no fun h=>m3 (h m m1)]
    refine Ev_loop0 (fun i=>⟨[(16,.sl 1 (wcs g.W)),(17,.int .i64 g.W.length),(18,.int .i64 (i:Int))],[.row false [.int .i64 g.n,.sl 2 (prs g.E),.sl 1 (wcs g.W)]],0,[(0,1,[16,17,18],[])]⟩) m (by simp) (fun i hi=>hst i (by omega) (m2 i hi)) ?_
    have e:=wcs_at m1
    have gs:=risesS_run (l:=g.w m) (by have:=hg.r m m1;omega)
    rw [show ascB ltS (g.w m)=false by simp only [ascB,decide_eq_false_iff_not];exact m3] at gs
    have ew:g.w m=(g.W.getD m none).getD []:=rfl
    rw [ew] at gs m3
    cases hx:g.W.getD m none with
    |none=>rw [hx] at m3;exact absurd .nil m3
    |some l=>
     rw [hx] at e gs
     simp only [Option.getD_some] at gs
     simp (disch:=omega) only [go_sem,d1208_b0,e,wc,b2,gs,strs_noid']
theorem sfE_run {l:List Ed} (hl:l.length≤60000):runP tab 1284 [.own 2 0,.clo 1223 [] []] [.row false (prs l)]=some (.tup [],[.row false (prs (sorted ltE l))]):=by simpa using esf_run hl
theorem sfS_run {l:List Txt} (hl:l.length≤60000):runP tab 1282 [.own 1 0,.clo 1224 [] []] [.row false (strs l)]=some (.tup [],[.row false (strs (sorted ltS l))]):=by simpa using ssf_run hl
theorem clE_run {l:List Ed} (h:l.length≤1000000):runP tab 1283 [.sl 2 (prs l)] []=some (.vec 2 (prs l),[]):=by
 rw [runP_orc t1283]
 have h2:noinlL (prs l)=true:=prs_noinl' l
 have h3:noidL (prs l)=true:=prs_noid' l
 simp only [cloneG,true_or,h2,h3,true_and,prs_len,mul2_div,prs_okc]
 rw [if_pos (by constructor<;>first | trivial | omega)]
theorem clS_run {l:List Txt} (h:l.length≤1000000):runP tab 1104 [.sl 1 (strs l)] []=some (.vec 1 (strs l),[]):=by
 rw [runP_orc t1104]
 have h2:noinlL (strs l)=true:=strs_noinl' l
 have h3:noidL (strs l)=true:=strs_noid' l
 simp only [cloneG,true_or,h2,h3,true_and,strs_length,Nat.div_one,strs_okc]
 rw [if_pos (by constructor<;>first | trivial | omega)]
theorem onceE_run {l:List Ed} (hl:l.length≤60000):runP tab 1278 [.sl 2 (prs l),.agg [.clo 1223 [] []]] []=some (.vec 2 (prs (nrmL ltE l)),[]):=by
 refine runP_fn t1278 rfl ?_
 have g1:=clE_run (l:=l) (by omega)
 have g2:=sfE_run hl
 have sl:=sorted_len (lt:=ltE) l
 have en:nrmL ltE l=unq (sorted ltE l) (sorted ltE l).length:=by rw [nrmL,sl]
 simp (disch:=omega) only [go_sem,d1278,g1,g2]
 rw [en]
 generalize sorted ltE l=s at *
 refine Ev_loop0 (fun i=>⟨[(5,.own 2 1),(6,.own 2 2),(15,.own 2 1),(16,.int .i64 s.length),(17,.int .i64 (i:Int))],[.row false [.clo 1223 [] []],.row false (prs s),.row false (prs (unq s i))],0,[(0,3,[5,6,15,16,17],[(5,1),(6,2),(15,1)])]⟩) s.length (by simp [unq,prs]) (fun i hi=>?_) ?_
 ·have e1:=prs_at hi
  have ul:=unq_len s i
  by_cases h0:i=0
  ·subst h0
   rw [List.drop_zero] at e1
   have eu:unq s (0+1)=unq s 0++[s.getD 0 default]:=by simp [unq]
   simp (disch:=omega) only [go_sem,d1278_b0,e1,prs_snoc,eu,aeqL,aeq,encA,digA]
  ·have e2:=prs_at (l:=s) (i:=i - 1) (by omega)
   have q:(i:Int) - 1=((i - 1:Nat):Int):=by omega
   by_cases h1:s.getD i default=s.getD (i - 1) default
   ·have eu:unq s (i+1)=unq s i:=by rw [unq,if_neg (by rintro (h | h);exact h0 h;exact h h1)]
    rw [←h1] at e2
    simp (disch:=omega) only [go_sem,d1278_b0,e1,e2,q,eu,aeqL,aeq,encA,digA]
   ·have eu:unq s (i+1)=unq s i++[s.getD i default]:=by rw [unq,if_pos (.inr h1)]
    have hne:(decide ((s.getD i default).1=(s.getD (i - 1) default).1) && decide ((s.getD i default).2=(s.getD (i - 1) default).2))=false:=by rw [ed_beq,decide_eq_false h1]
    generalize s.getD i default=x at *
    generalize s.getD (i - 1) default=y at *
    simp (disch:=omega) only [go_sem,d1278_b0,e1,e2,q,eu,prs_snoc,aeqL,aeq,encA,digA,hne]
 ·simp (disch:=omega) only [go_sem,d1278_b0]
theorem strs_snoc (l:List Txt) (s:Txt):strs l++[.str s]=strs (l++[s]):=by simp [strs]
theorem onceS_run {l:List Txt} (hl:l.length≤60000):runP tab 1277 [.sl 1 (strs l),.agg [.clo 1224 [] []]] []=some (.vec 1 (strs (nrmL ltS l)),[]):=by
 refine runP_fn t1277 rfl ?_
 have g1:=clS_run (l:=l) (by omega)
 have g2:=sfS_run hl
 have sl:=sorted_len (lt:=ltS) l
 have en:nrmL ltS l=unq (sorted ltS l) (sorted ltS l).length:=by rw [nrmL,sl]
 simp (disch:=omega) only [go_sem,d1277,g1,g2,strs_length]
 rw [en]
 generalize sorted ltS l=s at *
 refine Ev_loop0 (fun i=>⟨[(5,.own 1 1),(6,.own 1 2),(15,.own 1 1),(16,.int .i64 s.length),(17,.int .i64 (i:Int))],[.row false [.clo 1224 [] []],.row false (strs s),.row false (strs (unq s i))],0,[(0,3,[5,6,15,16,17],[(5,1),(6,2),(15,1)])]⟩) s.length (by simp [unq,strs]) (fun i hi=>?_) ?_
 ·have e1:=strs_rdc hi
  have ul:=unq_len s i
  by_cases h0:i=0
  ·subst h0
   rw [List.drop_zero] at e1
   have eu:unq s (0+1)=unq s 0++[s.getD 0 []]:=by simp [unq];rfl
   simp (disch:=omega) only [go_sem,d1277_b0,e1,strs_length,strs_snoc,eu]
  ·have e2:=strs_rdc (l:=s) (i:=i - 1) (by omega)
   have q:(i:Int) - 1=((i - 1:Nat):Int):=by omega
   by_cases h1:s.getD i []=s.getD (i - 1) []
   ·have eu:unq s (i+1)=unq s i:=by rw [unq,if_neg (by rintro (h | h);exact h0 h;exact h h1)]
    rw [←h1] at e2
    simp (disch:=omega) only [go_sem,d1277_b0,e1,e2,q,eu,strs_length]
   ·have eu:unq s (i+1)=unq s i++[s.getD i []]:=by rw [unq,if_pos (.inr h1)];rfl
    have hne:(s.getD i [] == s.getD (i - 1) [])=false:=by simpa using h1
    generalize s.getD i []=x at *
    generalize s.getD (i - 1) []=y at *
    simp (disch:=omega) only [go_sem,d1277_b0,e1,e2,q,eu,strs_length,strs_snoc,hne]
 ·simp (disch:=omega) only [go_sem,d1277_b0,strs_length]
def nrmW (g:Gr):List (List Txt):=(List.range g.W.length).map fun i=>nrmL ltS (g.w i)
def doneW (g:Gr) (i:Nat):Wds:=(List.range g.W.length).map fun j=>if j<i then some (nrmL ltS (g.w j)) else none
theorem doneW_zero (g:Gr):doneW g 0=List.replicate g.W.length none:=by
 refine List.ext_getElem (by simp [doneW]) fun i h1 h2=>by simp [doneW]
theorem doneW_all (g:Gr):doneW g g.W.length=(nrmW g).map some:=by
 refine List.ext_getElem (by simp [doneW,nrmW]) fun i h1 h2=>?_
 simp only [doneW,nrmW,List.getElem_map,List.getElem_range]
 rw [if_pos (by simpa [doneW] using h1)]
theorem doneW_succ {g:Gr} {i:Nat} (h:i<g.W.length):(doneW g i).set i (some (nrmL ltS (g.w i)))=doneW g (i+1):=by
 refine List.ext_getElem (by simp [doneW]) fun j h1 h2=>?_
 rw [List.getElem_set]
 simp only [doneW,List.getElem_map,List.getElem_range]
 by_cases e:i=j
 ·subst e;rw [if_pos rfl,if_pos (by omega)]
 ·rw [if_neg e]
  by_cases h3:j<i
  ·rw [if_pos h3,if_pos (by omega)]
  ·rw [if_neg h3,if_neg (by omega)]
theorem doneW_len (g:Gr) (i:Nat):(doneW g i).length=g.W.length:=by simp [doneW]
def gV (n:Int) (E:List Ed) (W:Wds):List AV:=[.int .i64 n,.vec 2 (prs E),.vec 1 (wos W)]
def nrmA (g:Gr):AV:=if okB g=true then .tup [.agg (gV g.n (nrmL ltE g.E) ((nrmW g).map some)),.int .i64 0] else .tup [.agg (gV 0 [] []),.int .i64 20]
theorem okB_n {g:Gr} (h:okB g=true):1≤g.n∧g.n≤200∧g.E.length≤2000∧(g.W.length:Int)=g.n:=by
 simp only [okB,Bool.and_eq_true,decide_eq_true_eq] at h
 obtain ⟨⟨⟨h1,h2⟩,h3,h4⟩,_⟩:=h
 exact ⟨h1,h2,h3,h4⟩
theorem norm_run {g:Gr} (hg:okG g):runP tab 1265 [.agg (gS g)] []=some (nrmA g,[]):=by
 refine runP_fn t1265 rfl ?_
 have gc:=gck_run hg
 have he:=hg.e
 have hw:=hg.w
 have b1:=byends_mk
 have b2:=bytext_mk
 simp only [gS] at gc
 unfold nrmA
 cases c1:okB g with
 |false=>
  rw [c1] at gc
  rw [if_neg (by simp)]
  have gz:gV 0 [] []=[.int .i64 0,.vec 2 [],.vec 1 []]:=rfl
  simp (disch:=omega) only [go_sem,d1265,gS,gc,gz]
 |true=>
  rw [c1] at gc
  rw [if_pos rfl]
  obtain ⟨h1,h2,h3,h4⟩:=okB_n c1
  have go:=onceE_run (l:=g.E) (by omega)
  have q:g.n.toNat=g.W.length:=by omega
  simp (disch:=omega) only [go_sem,d1265,gS,gc,q,tile_nils,wos_nls]
  refine Ev_loop0 (fun i=>⟨[(1,.ref 0 0),(2,.ref 1 0),(4,.own 1 2),(15,.sl 1 (wcs g.W)),(16,.int .i64 g.W.length),(17,.int .i64 (i:Int))],[.row false [.int .i64 g.n,.sl 2 (prs g.E),.sl 1 (wcs g.W)],.row false [.int .i64 0,.nils,.nils],.row false (wos (doneW g i))],0,[(0,3,[1,2,4,15,16,17],[(1,0),(2,1),(4,2)])]⟩) g.W.length (by simp [doneW_zero]) (fun i hi=>?_) ?_
  ·have e:=wcs_at hi
   have dl:=doneW_len g i
   have ds:=doneW_succ hi
   have gs:=onceS_run (l:=g.w i) (by have:=hg.r i hi;omega)
   have ew:g.w i=(g.W.getD i none).getD []:=rfl
   rw [ew] at gs ds
   cases hx:g.W.getD i none with
   |none=>
    rw [hx] at e gs ds
    simp only [Option.getD_none,strs,List.map_nil] at gs ds
    generalize nrmL ltS []=z at *
    rw [show z.map AV.str=strs z from rfl] at gs
    simp (disch:=omega) only [go_sem,d1265_b0,e,wc,b2,gs,dl,wos_set,ds]
   |some l=>
    rw [hx] at e gs ds
    simp only [Option.getD_some] at gs ds
    generalize nrmL ltS l=z at *
    simp (disch:=omega) only [go_sem,d1265_b0,e,wc,b2,gs,dl,wos_set,ds]
  ·have ed:=doneW_all g
   rw [ed]
   generalize (nrmW g).map some=W at *
   generalize nrmL ltE g.E=E at *
   simp (disch:=omega) only [go_sem,d1265_b0,b1,go,gV]
def badR (l:List Txt):Bool:=decide (20<l.length) || l.any fun s=>decide (50<s.length)
def bigB (g:Gr):Bool:=(decide (g.W.length≤250) && (List.range g.W.length).any fun i=>badR (g.w i)) || decide (250<g.W.length∨(60<g.E.length∧g.E.length≤2000)∨2100<g.E.length)
structure gFit (g:Gr):Prop where
 n:I64 g.n
 e:g.E.length≤9223372036854775807
 w:g.W.length≤9223372036854775807
 r:∀ i,(g.w i).length≤9223372036854775807
theorem bigB_ok {g:Gr} (h:gFit g) (hb:bigB g=false):okG g:=by
 simp only [bigB,Bool.or_eq_false_iff,decide_eq_false_iff_not] at hb
 obtain ⟨h1,h2⟩:=hb
 have hw:g.W.length≤250:=by omega
 rw [decide_eq_true hw,Bool.true_and,List.any_eq_false] at h1
 have h3:∀ i,i<g.W.length→badR (g.w i)=false:=fun i hi=>by simpa using h1 i (by simpa using hi)
 refine ⟨h.n,by omega,hw,fun i hi=>?_,fun i hi s hs=>?_⟩
 ·have:=h3 i hi
  simp only [badR,Bool.or_eq_false_iff,decide_eq_false_iff_not] at this
  omega
 ·have:=h3 i hi
  simp only [badR,Bool.or_eq_false_iff,List.any_eq_false,decide_eq_true_eq] at this
  have:=this.2 s hs
  omega
def bgS (g:Gr) (i:Nat):St:=⟨[(1,.ref 0 0),(3,.int .i64 (i:Int))],[.row false [.int .i64 g.n,.sl 2 (prs g.E),.sl 1 (wcs g.W)]],0,[(0,1,[1,3],[(1,0)])]⟩
def bgI (g:Gr) (i k:Nat):St:=⟨[(1,.ref 0 0),(3,.int .i64 (i:Int)),(4,.int .i64 (k:Int))],[.row false [.int .i64 g.n,.sl 2 (prs g.E),.sl 1 (wcs g.W)]],0,[(1,1,[1,3,4],[(1,0)]),(0,1,[1,3],[(1,0)])]⟩
theorem bg_row {g:Gr} (hg:gFit g) {i:Nat} (hw:g.W.length≤250) (hi:i<g.W.length) (hr:badR (g.w i)=false):Ev tab d1263_b0 (bgS g i) (fun x st=>x=.normal∧st=bgS g (i+1)):=by
 have e:=wcs_at hi
 have ew:g.w i=(g.W.getD i none).getD []:=rfl
 rw [ew] at hr
 simp (disch:=omega) only [go_sem,d1263_b0,bgS]
 cases hx:g.W.getD i none with
 |none=>
  rw [hx] at e
  refine Ev_loop0 (bgI g i) 0 (by simp [bgI]) (fun k hk=>absurd hk (Nat.not_lt_zero _)) ?_
  simp (disch:=omega) only [go_sem,d1263_b1,bgI,e,wc]
 |some l=>
  rw [hx] at e hr
  simp only [Option.getD_some,badR,Bool.or_eq_false_iff,decide_eq_false_iff_not,List.any_eq_false,decide_eq_true_eq] at hr
  obtain ⟨r1,r2⟩:=hr
  refine Ev_loop0 (bgI g i) l.length (by simp [bgI]) (fun k hk=>?_) ?_
  ·have e2:=strs_rdc hk
   have:=r2 _ (getD_mem (d:=[]) hk)
   simp (disch:=omega) only [go_sem,d1263_b1,bgI,e,wc,strs_length,e2]
  ·simp (disch:=omega) only [go_sem,d1263_b1,bgI,e,wc,strs_length]
theorem bigG_run {g:Gr} (hg:gFit g):runP tab 1263 [.agg (gS g)] []=some (.bool (bigB g),[]):=by
 refine runP_fn t1263 rfl ?_
 have he:=hg.e
 have hw0:=hg.w
 simp (disch:=omega) only [go_sem,d1263,gS]
 by_cases hw:g.W.length≤250
 ·rcases first_ix' (fun i=>badR (g.w i)=false) g.W.length with h | ⟨m,m1,m2,m3⟩
  ·refine Ev_loop0 (bgS g) g.W.length (by simp [bgS]) (fun i hi=>bg_row hg hw hi (h i hi)) ?_
   have e:bigB g=decide ((60<g.E.length∧g.E.length≤2000)∨2100<g.E.length):=by
    unfold bigB
    rw [show ((List.range g.W.length).any fun i=>badR (g.w i))=false by rw [List.any_eq_false];intro i hi;simpa using h i (by simpa using hi)]
    rw [Bool.and_false,Bool.false_or];congr 1;exact propext (by omega)
   rw [e]
   by_cases a:60<g.E.length<;>by_cases b:g.E.length≤2000<;>by_cases c:2100<g.E.length <;>
    first
    | (exfalso;omega)
    | (rw [decide_eq_true (by omega)];simp (disch:=omega) only [go_sem,d1263_b0,bgS])
    | (rw [decide_eq_false (by omega)];simp (disch:=omega) only [go_sem,d1263_b0,bgS])
  ·have e:bigB g=true:=by
    unfold bigB
    rw [decide_eq_true hw,Bool.true_and,show ((List.range g.W.length).any fun i=>badR (g.w i))=true by rw [List.any_eq_true];exact ⟨m,by simpa using m1,by simpa using m3⟩,Bool.true_or]
   rw [e]
   refine Ev_loop0 (bgS g) m (by simp [bgS]) (fun i hi=>bg_row hg hw (by omega) (m2 i hi)) ?_
   have e:=wcs_at m1
   have ew:g.w m=(g.W.getD m none).getD []:=rfl
   have hl:=hg.r m
   rw [ew] at m3 hl
   simp (disch:=omega) only [go_sem,d1263_b0,bgS]
   cases hx:g.W.getD m none with
   |none=>rw [hx] at m3;exact absurd rfl m3
   |some l=>
    rw [hx] at e m3 hl
    simp only [Option.getD_some] at m3 hl
    by_cases h20:20<l.length
    ·refine Ev_loop0 (bgI g m) 0 (by simp [bgI]) (fun k hk=>absurd hk (Nat.not_lt_zero _)) ?_
     simp (disch:=omega) only [go_sem,d1263_b1,bgI,e,wc,strs_length]
    ·rcases first_ix' (fun k=>¬ 50<(l.getD k []).length) l.length with h | ⟨k,k1,k2,k3⟩
     ·exact absurd (by
       simp only [badR,Bool.or_eq_false_iff,decide_eq_false_iff_not,List.any_eq_false,decide_eq_true_eq]
       refine ⟨h20,fun s hs=>?_⟩
       obtain ⟨k,hk,rfl⟩:=mem_getD (d:=[]) hs
       exact h k hk) m3
     ·have k3:50<(l.getD k []).length:=Classical.not_not.1 k3
      refine Ev_loop0 (bgI g m) k (by simp [bgI]) (fun k' hk=>?_) ?_
      ·have e2:=strs_rdc (l:=l) (i:=k') (by omega)
       have:=k2 k' hk
       simp (disch:=omega) only [go_sem,d1263_b1,bgI,e,wc,strs_length,e2]
      ·have e2:=strs_rdc k1
       simp (disch:=omega) only [go_sem,d1263_b1,bgI,e,wc,strs_length,e2]
 ·have e:bigB g=true:=by
   unfold bigB
   rw [decide_eq_true (p:=250<g.W.length∨(60<g.E.length∧g.E.length≤2000)∨2100<g.E.length) (by omega),Bool.or_true]
  rw [e]
  refine Ev_loop0 (bgS g) 0 (by simp [bgS]) (fun k hk=>absurd hk (Nat.not_lt_zero _)) ?_
  simp (disch:=omega) only [go_sem,d1263_b0,bgS]
def grTy:List Ty:=[.int .i64,.sl 2 [.int .i64,.int .i64],.sl 1 [.sl 1 [.str]]]
theorem fit_eds {v:AV} (h:Fit (.sl 2 [.int .i64,.int .i64]) v):∃ l:List Ed,v=.sl 2 (prs l)∧l.length≤9223372036854775807:=by
 obtain ⟨rows,rfl,hl,hr⟩:=h
 have:∃ l:List Ed,rows.flatten=prs l∧l.length=rows.length:=by
  clear hl
  induction rows with
  |nil=>exact ⟨[],rfl,rfl⟩
  |cons r rows ih=>
   obtain ⟨l,h1,h2⟩:=ih (fun r hr'=>hr r (by simp [hr']))
   have h4:=hr r (by simp)
   simp only [FitL] at h4
   obtain ⟨v,us,rfl,h5,v2,us2,rfl,h6,rfl⟩:=h4
   obtain ⟨a,rfl,_⟩:=fit_int h5
   obtain ⟨b,rfl,_⟩:=fit_int h6
   exact ⟨(a,b)::l,by simp [h1,prs_cons],by simp [h2]⟩
 obtain ⟨l,h1,h2⟩:=this
 exact ⟨l,by rw [h1],by rw [h2];unfold maxLen at hl;omega⟩
theorem fit_wds {v:AV} (h:Fit (.sl 1 [.sl 1 [.str]]) v):∃ W:Wds,v=.sl 1 (wcs W)∧W.length≤9223372036854775807∧∀ x∈W,∃ l,x=some l∧l.length≤9223372036854775807:=by
 obtain ⟨rows,rfl,hl,hr⟩:=h
 have:∃ W:Wds,rows.flatten=wcs W∧W.length=rows.length∧∀ x∈W,∃ l,x=some l∧l.length≤9223372036854775807:=by
  clear hl
  induction rows with
  |nil=>exact ⟨[],rfl,rfl,by simp⟩
  |cons r rows ih=>
   obtain ⟨W,h1,h2,h3⟩:=ih (fun r hr'=>hr r (by simp [hr']))
   have h4:=hr r (by simp)
   simp only [FitL] at h4
   obtain ⟨v,us,rfl,h5,rfl⟩:=h4
   obtain ⟨l,rfl,hl,_⟩:=fit_strs h5
   refine ⟨some l::W,by simp [h1,wcs,wc],by simp [h2],fun x hx=>?_⟩
   rcases List.mem_cons.1 hx with rfl | hx
   ·exact ⟨l,rfl,hl⟩
   ·exact h3 x hx
 obtain ⟨W,h1,h2,h3⟩:=this
 exact ⟨W,by rw [h1],by rw [h2];unfold maxLen at hl;omega,h3⟩
theorem fit_gr {vs:List AV} (h:FitL grTy vs):∃ g:Gr,vs=gS g∧gFit g∧∀ x∈g.W,∃ l,x=some l:=by
 unfold grTy at h
 rw [FitL] at h
 obtain ⟨v1,us,rfl,h1,h⟩:=h
 rw [FitL] at h
 obtain ⟨v2,us,rfl,h2,h⟩:=h
 rw [FitL] at h
 obtain ⟨v3,us,rfl,h3,h⟩:=h
 rw [FitL] at h
 subst h
 obtain ⟨n,rfl,hn⟩:=fit_int h1
 obtain ⟨E,rfl,he⟩:=fit_eds h2
 obtain ⟨W,rfl,hw,hx⟩:=fit_wds h3
 refine ⟨⟨n,E,W⟩,rfl,⟨hn,he,hw,fun i=>?_⟩,fun x hm=>by obtain ⟨l,h,_⟩:=hx x hm;exact ⟨l,h⟩⟩
 show ((W.getD i none).getD []).length≤_
 by_cases hi:i<W.length
 ·obtain ⟨l,h,hl⟩:=hx _ (getD_mem (d:=none) hi)
  rw [h];exact hl
 ·rw [List.getD_eq_getElem?_getD,List.getElem?_eq_none (by omega)];simp
def nG (g:Gr):Gr:=⟨g.n,nrmL ltE g.E,(nrmW g).map some⟩
def zG:Gr:=⟨0,[],[]⟩
theorem nG_len (g:Gr):(nG g).W.length=g.W.length:=by simp [nG,nrmW]
theorem nG_w {g:Gr} {i:Nat} (h:i<g.W.length):(nG g).w i=nrmL ltS (g.w i):=by
 show (((nrmW g).map some).getD i none).getD []=_
 rw [List.getD_eq_getElem?_getD,List.getElem?_map,nrmW,List.getElem?_map,List.getElem?_range h];rfl
theorem nG_ok {g:Gr} (h:okG g):okG (nG g):=by
 refine ⟨h.n,?_,by rw [nG_len];exact h.w,fun i hi=>?_,fun i hi s hs=>?_⟩
 ·have:=nrm_len (lt:=ltE) g.E;have:=h.e;simp only [nG];omega
 ·rw [nG_len] at hi;rw [nG_w hi]
  have:=nrm_len (lt:=ltS) (g.w i);have:=h.r i hi;omega
 ·rw [nG_len] at hi;rw [nG_w hi,nrm_mem ordrS] at hs
  exact h.t i hi s hs
theorem zG_ok:okG zG:=⟨⟨by decide,by decide⟩,by simp [zG],by simp [zG],fun i hi=>absurd hi (Nat.not_lt_zero _),fun i hi=>absurd hi (Nat.not_lt_zero _)⟩
theorem okB_iff {g:Gr}:okB g=true↔(1≤g.n∧g.n≤200∧g.E.length≤2000∧(g.W.length:Int)=g.n)∧(∀ e∈g.E,endB g.n e=true)∧∀ i,i<g.W.length→(g.w i).length≤8∧∀ s∈g.w i,wordB s=true:=by
 simp only [okB,wrdB,Bool.and_eq_true,decide_eq_true_eq,List.all_eq_true,List.mem_range]
 constructor
 ·rintro ⟨⟨⟨a,b⟩,c,d⟩,e,f⟩;exact ⟨⟨a,b,c,d⟩,e,f⟩
 ·rintro ⟨⟨a,b,c,d⟩,e,f⟩;exact ⟨⟨⟨a,b⟩,c,d⟩,e,f⟩
theorem nG_okB {g:Gr} (h:okB g=true):okB (nG g)=true:=by
 obtain ⟨⟨a,b,c,d⟩,e,f⟩:=okB_iff.1 h
 refine okB_iff.2 ⟨⟨a,b,?_,by rw [nG_len];exact d⟩,fun x hx=>?_,fun i hi=>?_⟩
 ·have:=nrm_len (lt:=ltE) g.E;simp only [nG];omega
 ·exact e x ((nrm_mem ordrE _ _).1 hx)
 ·rw [nG_len] at hi;rw [nG_w hi]
  obtain ⟨f1,f2⟩:=f i hi
  have:=nrm_len (lt:=ltS) (g.w i)
  exact ⟨by omega,fun s hs=>f2 s ((nrm_mem ordrS _ _).1 hs)⟩
theorem nG_isB {g:Gr} (h:okB g=true):isB (nG g)=true:=by
 unfold isB
 rw [nG_okB h,show ascB ltE (nG g).E=true from ascB_iff.2 (nrm_asc ordrE g.E),wAsc_yes fun i hi=>by
  rw [nG_len] at hi;rw [nG_w hi];exact nrm_asc ordrS _]
 rfl
theorem zG_isB:isB zG=false:=by
 have:okB zG=false:=by decide
 rw [isB,this,Bool.false_and]
def tG (g:Gr):Gr:=if okB g=true then nG g else zG
theorem tG_ok {g:Gr} (h:okG g):okG (tG g):=by
 unfold tG;split
 ·exact nG_ok h
 ·exact zG_ok
theorem tG_isB (g:Gr):isB (tG g)=okB g:=by
 unfold tG
 cases h:okB g with
 |true=>rw [if_pos rfl,nG_isB h]
 |false=>rw [if_neg (by simp),zG_isB]
def codeA (g:Gr):Int:=if okB g=true then 0 else 20
theorem nrmA_eq (g:Gr):nrmA g=.tup [.agg (gV (tG g).n (tG g).E (tG g).W),.int .i64 (codeA g)]:=by
 unfold nrmA tG codeA
 by_cases h:okB g=true
 ·rw [if_pos h,if_pos h,if_pos h];rfl
 ·rw [if_neg h,if_neg h,if_neg h];rfl
theorem tG_W (g:Gr):∃ V:List (List Txt),(tG g).W=V.map some:=by
 unfold tG;split
 ·exact ⟨_,rfl⟩
 ·exact ⟨[],rfl⟩
def wi (W:Wds) (i:Nat):List Txt:=(W.getD i none).getD []
theorem gck_nil {n:Int} {W:Wds} (hg:okG ⟨n,[],W⟩):runP tab 1214 [.agg [.int .i64 n,.sl 1 [],.sl 1 (wcs W)]] []=some (.bool (okB ⟨n,[],W⟩),[]):=by
 refine runP_fn t1214 rfl ?_
 have hw:=hg.w
 have hr:∀ i,i<W.length→(wi W i).length≤20:=hg.r
 have ht:∀ i,i<W.length→∀ s∈wi W i,s.length≤4000:=hg.t
 have eo:okB ⟨n,[],W⟩=(decide ((1≤n∧n≤200)∧(W.length:Int)=n) && ((List.range W.length).all fun i=>wrdB (wi W i))):=by
  unfold okB
  simp only [List.length_nil,Nat.zero_le,true_and,List.all_nil,Bool.true_and];rfl
 rw [eo]
 by_cases c1:1≤n
 case neg=>
  rw [decide_eq_false (by omega),Bool.false_and]
  simp (disch:=omega) only [go_sem,d1214]
 by_cases c2:n≤200
 case neg=>
  rw [decide_eq_false (by omega),Bool.false_and]
  simp (disch:=omega) only [go_sem,d1214]
 by_cases c4:(W.length:Int)=n
 case neg=>
  rw [decide_eq_false (by omega),Bool.false_and]
  simp (disch:=omega) only [go_sem,d1214,c4]
 rw [decide_eq_true ⟨⟨c1,c2⟩,c4⟩,Bool.true_and]
 simp (disch:=omega) only [go_sem,d1214,c4]
 refine Ev_loop0 (fun i=>⟨[(1,.ref 0 0),(30,.sl 1 []),(31,.int .i64 0),(32,.int .i64 (i:Int))],[.row false [.int .i64 n,.sl 1 [],.sl 1 (wcs W)]],0,[(0,1,[1,30,31,32],[(1,0)])]⟩) 0 (by simp) (fun i hi=>absurd hi (Nat.not_lt_zero _)) ?_
 simp (disch:=omega) only [go_sem,d1214_b0]
 have hrow:=fun (i:Nat) (hi:i<W.length)=>(show rdc ((wcs W).drop i) none=some (wc (W.getD i none))∧runP tab 1221 [.sl 1 (strs (wi W i)),.clo 1222 [] []] []=some (.bool ((wi W i).all wordB),[])∧(wi W i).length≤20 from
  ⟨wcs_at hi,all_run (by have:=hr i hi;omega) (fun s hs=>by have:=ht i hi s hs;omega),hr i hi⟩)
 rcases first_ix' (fun i=>wrdB (wi W i)=true) W.length with hw' | ⟨m,m1,m2,m3⟩
 ·have eb:((List.range W.length).all fun i=>wrdB (wi W i))=true:=by
   rw [List.all_eq_true]
   intro i hi
   exact hw' i (by simpa using hi)
  rw [eb]
  refine Ev_loop0 (fun i=>⟨[(50,.sl 1 (wcs W)),(51,.int .i64 n),(52,.int .i64 (i:Int))],[.row false [.int .i64 n,.sl 1 [],.sl 1 (wcs W)]],0,[(1,1,[50,51,52],[]),(0,1,[1,30,31,32],[(1,0)])]⟩) W.length (by simp [c4]) (fun i hi=>?_) ?_
  ·obtain ⟨e,ga,hl⟩:=hrow i hi
   have q:=hw' i hi
   simp only [wrdB,Bool.and_eq_true,decide_eq_true_eq] at q
   rw [q.2] at ga
   have ew:wi W i=(W.getD i none).getD []:=rfl
   rw [ew] at ga q hl
   cases hx:W.getD i none with
   |none=>
    rw [hx] at e ga q
    simp only [Option.getD_none,strs,List.map_nil] at ga
    simp (disch:=omega) only [go_sem,d1214_b1,e,wc,ga]
   |some l=>
    rw [hx] at e ga q hl
    simp only [Option.getD_some] at ga q hl
    obtain ⟨q1,q2⟩:=q
    simp (disch:=omega) only [go_sem,d1214_b1,e,wc,strs_length,ga]
  ·simp (disch:=omega) only [go_sem,d1214_b1]
 ·have eb:((List.range W.length).all fun i=>wrdB (wi W i))=false:=by
   rw [List.all_eq_false]
   exact ⟨m,by simpa using m1,m3⟩
  rw [eb]
  refine Ev_loop0 (fun i=>⟨[(50,.sl 1 (wcs W)),(51,.int .i64 n),(52,.int .i64 (i:Int))],[.row false [.int .i64 n,.sl 1 [],.sl 1 (wcs W)]],0,[(1,1,[50,51,52],[]),(0,1,[1,30,31,32],[(1,0)])]⟩) m (by simp [c4]) (fun i hi=>?_) ?_
  ·obtain ⟨e,ga,hl⟩:=hrow i (by omega)
   have q:=m2 i hi
   simp only [wrdB,Bool.and_eq_true,decide_eq_true_eq] at q
   rw [q.2] at ga
   have ew:wi W i=(W.getD i none).getD []:=rfl
   rw [ew] at ga q hl
   cases hx:W.getD i none with
   |none=>
    rw [hx] at e ga q
    simp only [Option.getD_none,strs,List.map_nil] at ga
    simp (disch:=omega) only [go_sem,d1214_b1,e,wc,ga]
   |some l=>
    rw [hx] at e ga q hl
    simp only [Option.getD_some] at ga q hl
    obtain ⟨q1,q2⟩:=q
    simp (disch:=omega) only [go_sem,d1214_b1,e,wc,strs_length,ga]
  ·obtain ⟨e,ga,hl⟩:=hrow m m1
   have ew:wi W m=(W.getD m none).getD []:=rfl
   rw [ew] at ga m3 hl
   cases hx:W.getD m none with
   |none=>rw [hx] at m3;exact absurd rfl m3
   |some l=>
    rw [hx] at e ga m3 hl
    simp only [Option.getD_some] at ga m3 hl
    by_cases h8:l.length≤8
    ·have ha:l.all wordB=false:=by
      cases h:l.all wordB with
      |false=>rfl
      |true=>exact absurd (by simp [wrdB,h,h8]) m3
     rw [ha] at ga
     simp (disch:=omega) only [go_sem,d1214_b1,e,wc,strs_length,ga]
    ·simp (disch:=omega) only [go_sem,d1214_b1,e,wc,strs_length]
theorem bl_lt:∀ x y:Txt,Op.bytesLess x y=ltS x y
 | [],[]=>rfl
 | [],_::_=>rfl
 |_::_,[]=>rfl
 |a::x,b::y=>by
  have ih:=bl_lt x y
  have l1:=@UInt8.lt_iff_toNat_lt a b
  have l2:=@UInt8.lt_iff_toNat_lt b a
  by_cases h1:a<b
  ·have e:Go.Lib.compareBytes (a::x) (b::y) = -1:=by simp [Go.Lib.compareBytes,h1]
   simp [ltS,e,Op.bytesLess,h1]
  ·by_cases h2:b<a
   ·have e:Go.Lib.compareBytes (a::x) (b::y)=1:=by simp [Go.Lib.compareBytes,h1,h2]
    have n:(a == b)=false:=by rw [beq_eq_false_iff_ne];rintro rfl;exact h1 h2
    simp [ltS,e,Op.bytesLess,h1,n]
   ·have e:a=b:=UInt8.toNat_inj.1 (by rw [l1] at h1;rw [l2] at h2;omega)
    subst e
    have e:Go.Lib.compareBytes (a::x) (a::y)=Go.Lib.compareBytes x y:=by simp [Go.Lib.compareBytes,h1]
    simp only [ltS] at ih ⊢
    rw [e,←ih]
    simp [Op.bytesLess,h1]
end Go.Proofs.YtmckpijdjoifoaaGreat
