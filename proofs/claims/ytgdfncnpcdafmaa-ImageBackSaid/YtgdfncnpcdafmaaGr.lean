import Derived.Test.YtgdfncnpcdafmaaGh
namespace Go.Proofs.Ytgdfncnpcdafmaa
set_option linter.unusedSimpArgs false
set_option linter.unusedVariables false
set_option maxHeartbeats 4000000
set_option maxRecDepth 100000
theorem word2_run {s:Txt} (hs:s.length≤1000000):runP tab 1270 [.str s] []=some (.bool (wordB s),[]):=by
 refine runP_fn t1270 rfl ?_
 simp (disch:=omega) only [go_sem,d1270]
 unfold wordB
 have hst:=fun (i:Nat) (hi:i<s.length) (q:97≤(s.getD i 0).toNat∧(s.getD i 0).toNat≤122)=>(show Ev tab d1270_b0 ⟨[(0,.str s),(3,.int .i64 (i:Int))],[],0,[(0,0,[0,3],[])]⟩ (fun x st=>x=.normal∧st=⟨[(0,.str s),(3,.int .i64 ((i+1:Nat):Int))],[],0,[(0,0,[0,3],[])]⟩) from by
  have e:=txt_at hi
  obtain ⟨q1,q2⟩:=q
  simp (disch:=omega) only [go_sem,d1270_b0,e])
 rcases letters_at s with ⟨h,e⟩ | ⟨m,m1,m2,m3,e⟩
 ·rw [e,Bool.and_true]
  refine Ev_loop0 (fun i=>⟨[(0,.str s),(3,.int .i64 (i:Int))],[],0,[(0,0,[0,3],[])]⟩) s.length rfl (fun i hi=>hst i hi (h i hi)) ?_
  by_cases c1:1≤s.length
  ·by_cases c2:s.length≤12
   ·rw [decide_eq_true ⟨c1,c2⟩]
    simp (disch:=omega) only [go_sem,d1270_b0]
   ·rw [decide_eq_false (by omega)]
    simp (disch:=omega) only [go_sem,d1270_b0]
  ·rw [decide_eq_false (by omega)]
   simp (disch:=omega) only [go_sem,d1270_b0]
 ·rw [e,Bool.and_false]
  refine Ev_loop0 (fun i=>⟨[(0,.str s),(3,.int .i64 (i:Int))],[],0,[(0,0,[0,3],[])]⟩) m rfl (fun i hi=>hst i (by omega) (m2 i hi)) ?_
  have e:=txt_at m1
  by_cases h0:97≤(s.getD m 0).toNat
  ·have h3:¬ (s.getD m 0).toNat≤122:=fun h=>m3 ⟨h0,h⟩
   simp (disch:=omega) only [go_sem,d1270_b0,e]
  ·simp (disch:=omega) only [go_sem,d1270_b0,e]
theorem lessE_run {x y:Ed}:runP tab 1281 [.agg [.int .i64 x.1,.int .i64 x.2],.agg [.int .i64 y.1,.int .i64 y.2]] []=some (.bool (ltE x y),[]):=by
 refine runP_fn t1281 rfl ?_
 have e:ltE x y=decide (x.1<y.1∨x.1=y.1∧x.2<y.2):=rfl
 rw [e]
 by_cases h1:x.1<y.1
 ·rw [decide_eq_true (.inl h1)]
  simp (disch:=omega) only [go_sem,d1281]
 by_cases h2:x.1=y.1
 ·by_cases h3:x.2<y.2
  ·rw [decide_eq_true (.inr ⟨h2,h3⟩)]
   simp (disch:=omega) only [go_sem,d1281]
  ·rw [decide_eq_false (by omega)]
   simp (disch:=omega) only [go_sem,d1281]
 ·rw [decide_eq_false (by omega)]
  simp (disch:=omega) only [go_sem,d1281]
def k2S (g:Gr) (i:Nat):St:=⟨[(1,.ref 0 0),(3,.int .i64 (i:Int))],[.row false [.int .i64 g.n,.sl 2 (prs g.E),.sl 1 (wcs g.W)]],0,[(0,1,[1,3],[(1,0)])]⟩
def k2W (g:Gr) (i:Nat):St:=⟨[(1,.ref 0 0),(5,.int .i64 (i:Int))],[.row false [.int .i64 g.n,.sl 2 (prs g.E),.sl 1 (wcs g.W)]],0,[(1,1,[1,5],[(1,0)]),(0,1,[1,3],[(1,0)])]⟩
def k2I (g:Gr) (i k:Nat):St:=⟨[(1,.ref 0 0),(5,.int .i64 (i:Int)),(6,.int .i64 (k:Int))],[.row false [.int .i64 g.n,.sl 2 (prs g.E),.sl 1 (wcs g.W)]],0,[(2,1,[1,5,6],[(1,0)]),(1,1,[1,5],[(1,0)]),(0,1,[1,3],[(1,0)])]⟩
def k2Q (Q:AX→St→Prop) (g:Gr):Prop:=∀ e m,Q .ret ⟨(2,.bool false)::e,[.row false [.int .i64 g.n,.sl 2 (prs g.E),.sl 1 (wcs g.W)]],0,m⟩
theorem k2_row {g:Gr} (hg:okG g) (c4:(g.W.length:Int)=g.n) {i:Nat} (hi:i<g.W.length) {Q:AX→St→Prop} (hq:if wrdB (g.w i)=true then Q .normal (k2W g (i+1)) else k2Q Q g):Ev tab d1268_b1 (k2W g i) Q:=by
 have e:=wcs_at hi
 have hn:=hg.w
 have ew:g.w i=(g.W.getD i none).getD []:=rfl
 have ht:=hg.t i hi
 have hl:=hg.r i hi
 have hi':(i:Int)<g.n:=by omega
 rw [ew] at hq ht hl
 simp (disch:=omega) only [go_sem,d1268_b1,k2W,hi']
 cases hx:g.W.getD i none with
 | none=>
  rw [hx] at e hq
  rw [if_pos (by simp [wrdB])] at hq
  refine Ev_loop0 (k2I g i) 0 (by simp [k2I]) (fun k hk=>absurd hk (Nat.not_lt_zero _)) ?_
  simp (disch:=omega) only [go_sem,d1268_b2,k2I,e,wc]
  exact hq
 | some l=>
  rw [hx] at e ht hq hl
  simp only [Option.getD_some] at ht hl hq
  have hst:=fun (k:Nat) (hk:k<l.length) (q:wordB (l.getD k [])=true)=>(show Ev tab d1268_b2 (k2I g i k) (fun x st=>x=.normal∧st=k2I g i (k+1)) from by
   have e2:=strs_rdc hk
   have gw:=word2_run (s:=l.getD k []) (by have:=ht _ (getD_mem (d:=[]) hk);omega)
   rw [q] at gw
   simp (disch:=omega) only [go_sem,d1268_b2,k2I,e,wc,strs_length,e2,gw])
  rcases first_ix' (fun k=>wordB (l.getD k [])=true) l.length with h | ⟨m,m1,m2,m3⟩
  ·have ea:l.all wordB=true:=by
    rw [List.all_eq_true]
    intro x hx
    obtain ⟨k,hk,rfl⟩:=mem_getD (d:=[]) hx
    exact h k hk
   refine Ev_loop0 (k2I g i) l.length (by simp [k2I]) (fun k hk=>hst k hk (h k hk)) ?_
   by_cases h8:l.length≤8
   ·rw [if_pos (by simp only [wrdB,ea,h8,decide_true,Bool.true_and])] at hq
    simp (disch:=omega) only [go_sem,d1268_b2,k2I,e,wc,strs_length]
    exact hq
   ·rw [if_neg (by simp [wrdB,h8])] at hq
    simp (disch:=omega) only [go_sem,d1268_b2,k2I,e,wc,strs_length]
    exact hq _ _
  ·have ea:l.all wordB=false:=by
    rw [List.all_eq_false]
    exact ⟨_,getD_mem (d:=[]) m1,m3⟩
   rw [if_neg (by simp [wrdB,ea])] at hq
   refine Ev_loop0 (k2I g i) m (by simp [k2I]) (fun k hk=>hst k (by omega) (m2 k hk)) ?_
   have e2:=strs_rdc m1
   have gw:=word2_run (s:=l.getD m []) (by have:=ht _ (getD_mem (d:=[]) m1);omega)
   rw [show wordB (l.getD m [])=false by simpa using m3] at gw
   simp (disch:=omega) only [go_sem,d1268_b2,k2I,e,wc,strs_length,e2,gw]
   exact hq _ _
theorem gck2_run {g:Gr} (hg:okG g):runP tab 1268 [.agg (gS g)] []=some (.bool (okB g),[]):=by
 refine runP_fn t1268 rfl ?_
 obtain ⟨hn1,hn2⟩:=hg.n
 have he:=hg.e
 have hw:=hg.w
 by_cases c1:1≤g.n
 case neg=>
  rw [okB,decide_eq_false (by omega),Bool.false_and]
  simp (disch:=omega) only [go_sem,d1268,gS]
 by_cases c2:g.n≤200
 case neg=>
  rw [okB,decide_eq_false (by omega),Bool.false_and]
  simp (disch:=omega) only [go_sem,d1268,gS]
 by_cases c3:g.E.length≤2000
 case neg=>
  rw [okB,decide_eq_false (by omega),Bool.false_and]
  simp (disch:=omega) only [go_sem,d1268,gS]
 by_cases c4:(g.W.length:Int)=g.n
 case neg=>
  rw [okB,decide_eq_false (by omega),Bool.false_and]
  simp (disch:=omega) only [go_sem,d1268,gS,c4]
 rw [okB,decide_eq_true ⟨⟨c1,c2⟩,c3,c4⟩,Bool.true_and]
 simp (disch:=omega) only [go_sem,d1268,gS,c4]
 have hst:=fun (i:Nat) (hi:i<g.E.length) (h:endB g.n (g.E.getD i default)=true)=>(show Ev tab d1268_b0 (k2S g i) (fun x st=>x=.normal∧st=k2S g (i+1)) from by
  have e:=prs_at hi
  simp only [endB,Bool.and_eq_true,decide_eq_true_eq] at h
  obtain ⟨⟨q1,q2⟩,q3,q4⟩:=h
  generalize g.E.getD i default=x at *
  simp (disch:=omega) only [go_sem,d1268_b0,k2S,e])
 rcases first_ix' (fun i=>endB g.n (g.E.getD i default)=true) g.E.length with h | ⟨m,m1,m2,m3⟩
 ·have ea:g.E.all (endB g.n)=true:=by
   rw [List.all_eq_true]
   intro x hx
   obtain ⟨i,hi,rfl⟩:=mem_getD (d:=default) hx
   exact h i hi
  rw [ea,Bool.true_and]
  refine Ev_loop0 (k2S g) g.E.length (by simp [k2S]) (fun i hi=>hst i hi (h i hi)) ?_
  simp (disch:=omega) only [go_sem,d1268_b0,k2S]
  rcases first_ix' (fun i=>wrdB (g.w i)=true) g.W.length with hw' | ⟨m,m1,m2,m3⟩
  ·have eb:((List.range g.W.length).all fun i=>wrdB (g.w i))=true:=by
    rw [List.all_eq_true]
    intro i hi
    exact hw' i (by simpa using hi)
   rw [eb]
   refine Ev_loop0 (k2W g) g.W.length (by simp [k2W]) (fun i hi=>k2_row hg c4 hi (by rw [if_pos (hw' i hi)];exact ⟨rfl,rfl⟩)) ?_
   simp (disch:=omega) only [go_sem,d1268_b1,k2W,c4]
  ·have eb:((List.range g.W.length).all fun i=>wrdB (g.w i))=false:=by
    rw [List.all_eq_false]
    exact ⟨m,by simpa using m1,m3⟩
   rw [eb]
   refine Ev_loop0 (k2W g) m (by simp [k2W]) (fun i hi=>k2_row hg c4 (by omega) (by rw [if_pos (m2 i hi)];exact ⟨rfl,rfl⟩)) ?_
   refine k2_row hg c4 m1 ?_
   rw [if_neg m3]
   intro e k
   simp (disch:=omega) only [go_sem]
 ·have ea:g.E.all (endB g.n)=false:=by
   rw [List.all_eq_false]
   exact ⟨_,getD_mem (d:=default) m1,m3⟩
  rw [ea,Bool.false_and]
  refine Ev_loop0 (k2S g) m (by simp [k2S]) (fun i hi=>hst i (by omega) (m2 i hi)) ?_
  have e:=prs_at m1
  generalize g.E.getD m default=x at *
  have q:¬ ((0≤x.1∧x.1<g.n)∧0≤x.2∧x.2<g.n):=fun h=>m3 (by simp only [endB,Bool.and_eq_true,decide_eq_true_eq];exact h)
  by_cases c5:0≤x.1
  case neg=>simp (disch:=omega) only [go_sem,d1268_b0,k2S,e]
  by_cases c6:x.1<g.n
  case neg=>simp (disch:=omega) only [go_sem,d1268_b0,k2S,e]
  by_cases c7:0≤x.2
  case neg=>simp (disch:=omega) only [go_sem,d1268_b0,k2S,e]
  by_cases c8:x.2<g.n
  case neg=>simp (disch:=omega) only [go_sem,d1268_b0,k2S,e]
  exact absurd ⟨⟨c5,c6⟩,c7,c8⟩ q
def i2S (g:Gr) (i:Nat):St:=⟨[(1,.ref 0 0),(3,.int .i64 ((i:Int)+1))],[.row false [.int .i64 g.n,.sl 2 (prs g.E),.sl 1 (wcs g.W)]],0,[(0,1,[1,3],[(1,0)])]⟩
def i2W (g:Gr) (i:Nat):St:=⟨[(1,.ref 0 0),(4,.int .i64 (i:Int))],[.row false [.int .i64 g.n,.sl 2 (prs g.E),.sl 1 (wcs g.W)]],0,[(1,1,[1,4],[(1,0)]),(0,1,[1,3],[(1,0)])]⟩
def i2I (g:Gr) (i k:Nat):St:=⟨[(1,.ref 0 0),(4,.int .i64 (i:Int)),(5,.int .i64 ((k:Int)+1))],[.row false [.int .i64 g.n,.sl 2 (prs g.E),.sl 1 (wcs g.W)]],0,[(2,1,[1,4,5],[(1,0)]),(1,1,[1,4],[(1,0)]),(0,1,[1,3],[(1,0)])]⟩
theorem bl_lt:∀ x y:Txt,Op.bytesLess x y=ltS x y
 | [],[]=>rfl
 | [],_::_=>rfl
 | _::_,[]=>rfl
 | a::x,b::y=>by
  have ih:=bl_lt x y
  have l1:=@UInt8.lt_iff_toNat_lt a b
  have l2:=@UInt8.lt_iff_toNat_lt b a
  by_cases h1:a<b
  ·have e:Go.Lib.compareBytes (a::x) (b::y) = -1:=by simp [Go.Lib.compareBytes,h1]
   simp [ltS,e,Op.bytesLess,h1]
  ·by_cases h2:b<a
   ·have e:Go.Lib.compareBytes (a::x) (b::y)=1:=by simp [Go.Lib.compareBytes,h1,h2]
    have n:(a == b)=false:=by rw [beq_eq_false_iff_ne];rintro rfl;exact h1 h2
    simp [ltS,e,Op.bytesLess,h1,n]
   ·have e:a=b:=UInt8.toNat_inj.1 (by rw [l1] at h1;rw [l2] at h2;omega)
    subst e
    have e:Go.Lib.compareBytes (a::x) (a::y)=Go.Lib.compareBytes x y:=by simp [Go.Lib.compareBytes,h1]
    simp only [ltS] at ih ⊢
    rw [e,←ih]
    simp [Op.bytesLess,h1]
theorem i2_row {g:Gr} (hg:okG g) (c4:(g.W.length:Int)=g.n) {i:Nat} (hi:i<g.W.length) {Q:AX→St→Prop} (hq:if ascB ltS (g.w i)=true then Q .normal (i2W g (i+1)) else k2Q Q g):Ev tab d1269_b1 (i2W g i) Q:=by
 have e:=wcs_at hi
 have hn:=hg.w
 have ew:g.w i=(g.W.getD i none).getD []:=rfl
 have hl:=hg.r i hi
 have hi':(i:Int)<g.n:=by omega
 rw [ew] at hq hl
 simp (disch:=omega) only [go_sem,d1269_b1,i2W,hi']
 cases hx:g.W.getD i none with
 | none=>
  rw [hx] at e hq
  simp only [Option.getD_none] at hq
  rw [if_pos (ascB_iff.2 .nil)] at hq
  refine Ev_loop0 (i2I g i) 0 (by simp [i2I]) (fun k hk=>absurd hk (Nat.not_lt_zero _)) ?_
  simp (disch:=omega) only [go_sem,d1269_b2,i2I,e,wc]
  exact hq
 | some l=>
  rw [hx] at e hq hl
  simp only [Option.getD_some] at hl hq
  have hst:=fun (k:Nat) (hk:k<l.length - 1) (q:adj ltS l k)=>(show Ev tab d1269_b2 (i2I g i k) (fun x st=>x=.normal∧st=i2I g i (k+1)) from by
   have e1:=strs_rdc (l:=l) (i:=k) (by omega)
   have e2:=strs_rdc (l:=l) (i:=k+1) (by omega)
   rw [adj] at q
   change ltS (l.getD k []) (l.getD (k+1) [])=true at q
   simp (disch:=omega) only [go_sem,d1269_b2,i2I,e,wc,strs_length,Int.add_sub_cancel,tn1,e1,e2,bl_lt,q])
  rcases asc_ix ordrS l with ⟨h,ea⟩ | ⟨m,m1,m2,m3,ea⟩
  ·rw [if_pos ea] at hq
   by_cases h0:l=[]
   ·subst h0
    refine Ev_stop ?_
    simp (disch:=omega) only [go_sem,d1269_b2,i2I,e,wc,strs_length]
    exact hq
   have hp:0<l.length:=List.length_pos_iff.2 h0
   refine Ev_loop0 (i2I g i) (l.length - 1) (by simp [i2I]) (fun k hk=>hst k hk (h k hk)) ?_
   simp (disch:=omega) only [go_sem,d1269_b2,i2I,e,wc,strs_length]
   exact hq
  ·rw [if_neg (by rw [ea];simp)] at hq
   refine Ev_loop0 (i2I g i) m (by simp [i2I]) (fun k hk=>hst k (by omega) (m2 k hk)) ?_
   have e1:=strs_rdc (l:=l) (i:=m) (by omega)
   have e2:=strs_rdc (l:=l) (i:=m+1) (by omega)
   have q:ltS (l.getD m []) (l.getD (m+1) [])=false:=by
    have h:=m3
    simp only [adj] at h
    change ¬ ltS (l.getD m []) (l.getD (m+1) [])=true at h
    simpa using h
   simp (disch:=omega) only [go_sem,d1269_b2,i2I,e,wc,strs_length,Int.add_sub_cancel,tn1,e1,e2,bl_lt,q]
   exact hq _ _
theorem is2_run {g:Gr} (hg:okG g):runP tab 1269 [.agg (gS g)] []=some (.bool (isB g),[]):=by
 refine runP_fn t1269 rfl ?_
 have gc:=gck2_run hg
 have he:=hg.e
 have hw:=hg.w
 simp only [gS] at gc
 unfold isB
 cases c1:okB g with
 | false=>
  rw [c1] at gc
  rw [Bool.false_and]
  simp (disch:=omega) only [go_sem,d1269,gS,gc]
 | true=>
  rw [c1] at gc
  rw [Bool.true_and]
  obtain ⟨n1,n2,n3,n4⟩:=okB_n c1
  simp (disch:=omega) only [go_sem,d1269,gS,gc]
  have hst:=fun (i:Nat) (hi:i<g.E.length - 1) (h:adj ltE g.E i)=>(show Ev tab d1269_b0 (i2S g i) (fun x st=>x=.normal∧st=i2S g (i+1)) from by
   have e1:=prs_at (l:=g.E) (i:=i) (by omega)
   have e2:=prs_at (l:=g.E) (i:=i+1) (by omega)
   have gl:=lessE_run (x:=g.E.getD i default) (y:=g.E.getD (i+1) default)
   rw [adj] at h
   rw [h] at gl
   simp (disch:=omega) only [go_sem,d1269_b0,i2S,Int.add_sub_cancel,tn1,e1,e2,gl])
  rcases asc_ix ordrE g.E with ⟨h,ea⟩ | ⟨m,m1,m2,m3,ea⟩
  ·rw [ea,Bool.true_and]
   have hw2:∀ {Q:AX→St→Prop},(if wAsc g=true then (∀ e,Q (.exit 2) ⟨e,[.row false [.int .i64 g.n,.sl 2 (prs g.E),.sl 1 (wcs g.W)]],0,[(1,1,[1,4],[(1,0)]),(0,1,[1,3],[(1,0)])]⟩) else k2Q Q g)→Ev tab (.loop d1269_b1) (i2W g 0) Q:=fun {Q} hq=>by
    rcases first_ix' (fun i=>asc ltS (g.w i)) g.W.length with h | ⟨m,m1,m2,m3⟩
    ·rw [if_pos (wAsc_yes h)] at hq
     refine Ev_loop0 (i2W g) g.W.length rfl (fun i hi=>i2_row hg n4 hi (by rw [if_pos (ascB_iff.2 (h i hi))];exact ⟨rfl,rfl⟩)) ?_
     simp (disch:=omega) only [go_sem,d1269_b1,i2W,n4]
     exact hq _
    ·rw [if_neg (by rw [wAsc_no fun h=>m3 (h m m1)];simp)] at hq
     refine Ev_loop0 (i2W g) m rfl (fun i hi=>i2_row hg n4 (by omega) (by rw [if_pos (ascB_iff.2 (m2 i hi))];exact ⟨rfl,rfl⟩)) ?_
     refine i2_row hg n4 m1 ?_
     rw [if_neg (by rw [ascB_iff];exact m3)]
     intro e k
     simp (disch:=omega) only [go_sem]
     exact hq _ _
   by_cases h0:g.E=[]
   ·refine Ev_stop ?_
    have e0:prs g.E=[]:=by rw [h0];rfl
    rw [e0] at hw2
    simp (disch:=omega) only [go_sem,d1269_b0,e0,h0,List.length_nil]
    simp only [i2W,e0] at hw2
    refine hw2 ?_
    cases hq:wAsc g with
    | true=>
     rw [if_pos rfl]
     intro e
     simp (disch:=omega) only [go_sem]
    | false=>
     rw [if_neg (by simp)]
     intro e m
     simp (disch:=omega) only [go_sem]
   have hp:0<g.E.length:=List.length_pos_iff.2 h0
   refine Ev_loop0 (i2S g) (g.E.length - 1) (by simp [i2S]) (fun i hi=>hst i hi (h i hi)) ?_
   simp (disch:=omega) only [go_sem,d1269_b0,i2S]
   refine hw2 ?_
   cases hq:wAsc g with
   | true=>
    rw [if_pos rfl]
    intro e
    simp (disch:=omega) only [go_sem]
   | false=>
    rw [if_neg (by simp)]
    intro e m
    simp (disch:=omega) only [go_sem]
  ·rw [ea,Bool.false_and]
   refine Ev_loop0 (i2S g) m (by simp [i2S]) (fun i hi=>hst i (by omega) (m2 i hi)) ?_
   have e1:=prs_at (l:=g.E) (i:=m) (by omega)
   have e2:=prs_at (l:=g.E) (i:=m+1) (by omega)
   have gl:=lessE_run (x:=g.E.getD m default) (y:=g.E.getD (m+1) default)
   rw [show ltE (g.E.getD m default) (g.E.getD (m+1) default)=false by simpa [adj] using m3] at gl
   simp (disch:=omega) only [go_sem,d1269_b0,i2S,Int.add_sub_cancel,tn1,e1,e2,gl]
theorem otx_run {l:List Txt} (hl:l.length≤1000):runP tab 1276 [.sl 1 (strs l)] []=some (.vec 1 (strs l),[]):=by
 refine runP_fn t1276 rfl ?_
 simp (disch:=omega) only [go_sem,d1276,strs_length]
def fW (f:List Txt→List Txt) (g:Gr) (i:Nat):Wds:=(List.range i).map fun j=>some (f (g.w j))
theorem fW_succ (f:List Txt→List Txt) (g:Gr) (i:Nat):fW f g (i+1)=fW f g i++[some (f (g.w i))]:=by simp [fW,List.range_succ]
theorem fW_len (f:List Txt→List Txt) (g:Gr) (i:Nat):(fW f g i).length=i:=by simp [fW]
theorem wos_snoc (W:Wds) (l:List Txt):wos W++[.vec 1 (strs l)]=wos (W++[some l]):=by simp [wos,wo]
def oG (g:Gr):Gr:=⟨g.n,g.E,fW id g g.W.length⟩
theorem own_run {g:Gr} (hg:okG g):runP tab 1264 [.agg (gS g)] []=some (.agg (gV (oG g).n (oG g).E (oG g).W),[]):=by
 refine runP_fn t1264 rfl ?_
 have he:=hg.e
 have hw:=hg.w
 have q0:fW id g 0=[]:=rfl
 simp (disch:=omega) only [go_sem,d1264,gS]
 refine Ev_loop0 (fun i=>⟨[(1,.ref 0 0),(2,.ref 1 0),(3,.ref 2 0),(4,.int .i64 (i:Int))],[.row false [.int .i64 g.n,.sl 2 (prs g.E),.sl 1 (wcs g.W)],.row false [.int .i64 0,.nils,.nils],.row false [.int .i64 g.n,.vec 2 (prs g.E),.vec 1 (wos (fW id g i))],.dead],0,[(0,4,[1,2,3,4],[(1,0),(2,1),(3,2)])]⟩) g.W.length (by simp only [q0];rfl) (fun i hi=>?_) ?_
 ·have e:=wcs_at hi
  have gs:=otx_run (l:=g.w i) (by have:=hg.r i hi;omega)
  have es:=fW_succ id g i
  have el:=fW_len id g i
  have ew:g.w i=(g.W.getD i none).getD []:=rfl
  rw [es]
  simp only [id]
  rw [ew] at gs ⊢
  generalize fW id g i=W' at *
  cases hx:g.W.getD i none with
  | none=>
   rw [hx] at e gs
   simp only [Option.getD_none,strs0] at gs ⊢
   have ws:=wos_snoc W' []
   rw [strs0] at ws
   simp (disch:=omega) only [go_sem,d1264_b0,e,wc,gs,el,ws]
  | some l=>
   rw [hx] at e gs
   simp only [Option.getD_some] at gs ⊢
   simp (disch:=omega) only [go_sem,d1264_b0,e,wc,gs,el,wos_snoc,strs_noid']
 ·simp only [oG]
  generalize fW id g g.W.length=W' at *
  simp (disch:=omega) only [go_sem,d1264_b0,gV]
theorem prs_fst {l:List Ed} {i:Nat} (h:i<l.length):rdc (prs (l.drop i)) none=some (.int .i64 (l.getD i default).1):=by
 rw [List.drop_eq_getElem_cons h,prs_cons,List.getD_eq_getElem?_getD,List.getElem?_eq_getElem h];rfl
theorem prs_snd {l:List Ed} {i:Nat} (h:i<l.length):rdc (List.drop 1 (prs (l.drop i))) none=some (.int .i64 (l.getD i default).2):=by
 rw [List.drop_eq_getElem_cons h,prs_cons,List.getD_eq_getElem?_getD,List.getElem?_eq_getElem h];rfl
theorem oG_w {g:Gr} {i:Nat} (hi:i<g.W.length):(oG g).w i=g.w i:=by
 show (List.getD (fW id g g.W.length) i none).getD []=_
 rw [fW,List.getD_eq_getElem?_getD,List.getElem?_map,List.getElem?_range hi];rfl
theorem oG_len (g:Gr):(oG g).W.length=g.W.length:=fW_len id g _
theorem oG_wl (g:Gr):wl (oG g).W=wl g.W:=by
 refine getD_all [] (by rw [wl_len,wl_len,oG_len]) fun i hi=>?_
 rw [wl_len,oG_len] at hi
 rw [wl_at,wl_at]
 exact oG_w hi
theorem oG_ok {g:Gr} (h:okG g):okG (oG g):=⟨h.n,h.e,by rw [oG_len];exact h.w,fun i hi=>by rw [oG_len] at hi;rw [oG_w hi];exact h.r i hi,fun i hi=>by rw [oG_len] at hi;rw [oG_w hi];exact h.t i hi⟩
theorem oG_same (g:Gr):sameB g (oG g)=true:=by
 simp only [sameB,oG_wl,Bool.and_eq_true,decide_eq_true_eq]
 exact ⟨rfl,rfl,trivial⟩
theorem oG_okB (g:Gr):okB (oG g)=okB g:=by
 rw [Bool.eq_iff_iff,okB_iff,okB_iff]
 have e:∀ i,i<g.W.length→(oG g).w i=g.w i:=fun i hi=>oG_w hi
 have e1:(oG g).n=g.n:=rfl
 have e2:(oG g).E=g.E:=rfl
 rw [oG_len,e1,e2]
 constructor
 ·rintro ⟨a,b,c⟩;exact ⟨a,b,fun i hi=>by rw [←e i hi];exact c i hi⟩
 ·rintro ⟨a,b,c⟩;exact ⟨a,b,fun i hi=>by rw [e i hi];exact c i hi⟩
theorem oG_isB (g:Gr):isB (oG g)=isB g:=by
 have e:wAsc (oG g)=wAsc g:=by
  by_cases c:∀ i,i<g.W.length→asc ltS (g.w i)
  ·rw [wAsc_yes c,wAsc_yes fun i hi=>by rw [oG_len] at hi;rw [oG_w hi];exact c i hi]
  ·rw [wAsc_no c,wAsc_no fun h=>c fun i hi=>by rw [←oG_w hi];exact h i (by rw [oG_len];exact hi)]
 unfold isB
 rw [oG_okB,e];rfl
end Go.Proofs.Ytgdfncnpcdafmaa
