import Derived.Test.YtmckpijdjoifoaaGreatHx
import Derived.Test.YtmckpijdjoifoaaGreatSs
namespace Go.Proofs.YtmckpijdjoifoaaGreat
set_option linter.unusedSimpArgs false
set_option linter.unusedVariables false
set_option maxHeartbeats 4000000
set_option maxRecDepth 100000
theorem prs_snoc (l:List Ed) (a b:Int):prs l++[.int .i64 a,.int .i64 b]=prs (l++[(a,b)]):=by rw [←prs_app];rfl
theorem ed_beq (a b:Ed):(decide (a.1=b.1) && decide (a.2=b.2))=decide (a=b):=by
 rw [←Bool.decide_and];congr 1;exact propext Prod.ext_iff.symm
open Go.Sort (size_swp)
def ltE (a b:Ed):Bool:=decide (a.1<b.1∨(a.1=b.1∧a.2<b.2))
theorem ordrE:Ordr ltE:=by
 refine ⟨fun x=>by simp [ltE],fun x y z h1 h2=>?_,fun x y h1 h2=>?_⟩
 ·simp only [ltE,decide_eq_true_eq] at *;omega
 ·simp only [ltE,decide_eq_false_iff_not] at *
  refine Prod.ext ?_ ?_<;>omega
theorem ord_lt (x y:Ed):decide (ordE x y<0)=ltE x y:=by
 unfold ordE cmpI ltE
 by_cases h1:x.1<y.1
 ·simp [h1]
 ·by_cases h2:y.1<x.1
  ·have h3:¬ x.1=y.1:=by omega
   simp [h1,h2,h3]
  ·have h3:x.1=y.1:=by omega
   by_cases h4:x.2<y.2
   ·simp [h1,h2,h3,h4]
   ·by_cases h5:y.2<x.2<;>simp [h1,h2,h3,h4,h5]
theorem at_e {d:Array Ed} {i:Nat} (h:i<d.size):rdc (prs (d.toList.drop i)) (some 2)=some (.agg [.int .i64 d[i]!.1,.int .i64 d[i]!.2]):=by
 rw [prs_at (by simpa using h),arr_at h]
theorem prs_set2 (x:Ed):∀ (l:List Ed) (i:Nat),((prs l).set (i*2) (.int .i64 x.1)).set (i*2+1) (.int .i64 x.2)=prs (l.set i x)
 | [],i=>by simp [prs]
 |y::l,0=>by simp [prs_cons]
 |y::l,i+1=>by
  have ih:=prs_set2 x l i
  rw [prs_cons,List.set_cons_succ,prs_cons,show (i+1)*2=i*2+1+1 by omega,List.set_cons_succ,List.set_cons_succ,List.set_cons_succ,List.set_cons_succ,ih]
theorem swp_e {d:Array Ed} {i j:Nat}:((((prs d.toList).set (i*2) (.int .i64 d[j]!.1)).set (i*2+1) (.int .i64 d[j]!.2)).set (j*2) (.int .i64 d[i]!.1)).set (j*2+1) (.int .i64 d[i]!.2)=prs (Go.Sort.swp d i j).toList:=by
 rw [prs_set2,prs_set2,swp_list]
theorem gc_e (x y:Ed):runP tab 1223 [.agg [.int .i64 x.1,.int .i64 x.2],.agg [.int .i64 y.1,.int .i64 y.2]] []=some (.int .i64 (ordE x y),[]):=byends_run
def wc:Option (List Txt)→AV
 |none=>.nils
 |some l=>.sl 1 (strs l)
def wo:Option (List Txt)→AV
 |none=>.nils
 |some l=>.vec 1 (strs l)
abbrev Wds:=List (Option (List Txt))
def wcs (W:Wds):List AV:=W.map wc
def wos (W:Wds):List AV:=W.map wo
theorem wcs_len (W:Wds):(wcs W).length=W.length:=by simp [wcs]
theorem wos_len (W:Wds):(wos W).length=W.length:=by simp [wos]
theorem wcs_allL {p:AV→Bool} (h0:p .nils=true) (h1:∀ l,p (.sl 1 (strs l))=true) (h2:∀ l,allL p (strs l)=true):∀ W:Wds,allL p (wcs W)=true
 | []=>rfl
 |none::W=>by rw [show wcs (none::W)=.nils::wcs W from rfl,allL,wcs_allL h0 h1 h2 W];simp [AV.allv,h0]
 |some l::W=>by rw [show wcs (some l::W)=.sl 1 (strs l)::wcs W from rfl,allL,wcs_allL h0 h1 h2 W];simp [AV.allv,h1,h2]
theorem wos_allL {p:AV→Bool} (h0:p .nils=true) (h1:∀ l,p (.vec 1 (strs l))=true) (h2:∀ l,allL p (strs l)=true):∀ W:Wds,allL p (wos W)=true
 | []=>rfl
 |none::W=>by rw [show wos (none::W)=.nils::wos W from rfl,allL,wos_allL h0 h1 h2 W];simp [AV.allv,h0]
 |some l::W=>by rw [show wos (some l::W)=.vec 1 (strs l)::wos W from rfl,allL,wos_allL h0 h1 h2 W];simp [AV.allv,h1,h2]
theorem wcs_noid' (W:Wds):allL pnoid (wcs W)=true:=wcs_allL rfl (fun _=>rfl) (fun l=>strs_noid' l) W
theorem wos_noid' (W:Wds):allL pnoid (wos W)=true:=wos_allL rfl (fun _=>rfl) (fun l=>strs_noid' l) W
theorem wcs_noinl' (W:Wds):allL pnoinl (wcs W)=true:=wcs_allL rfl (fun _=>rfl) (fun l=>strs_noinl' l) W
theorem wos_noimm' (W:Wds):allL pnoimm (wos W)=true:=wos_allL rfl (fun _=>rfl) (fun l=>strs_noimm l) W
theorem wcs_idlt' (n:Nat) (W:Wds):allL (pidlt n) (wcs W)=true:=idltL_noid _ (wcs_noid' W)
theorem wos_idlt' (n:Nat) (W:Wds):allL (pidlt n) (wos W)=true:=idltL_noid _ (wos_noid' W)
theorem wcs_ren' (f:Nat→Nat) (W:Wds):mapL (ren1 f) (wcs W)=wcs W:=renL_noid _ (wcs_noid' W)
theorem wos_ren' (f:Nat→Nat) (W:Wds):mapL (ren1 f) (wos W)=wos W:=renL_noid _ (wos_noid' W)
theorem wcs_ids (W:Wds):idsL (wcs W)=[]:=noidL_ids _ (wcs_noid' W)
theorem wos_ids (W:Wds):idsL (wos W)=[]:=noidL_ids _ (wos_noid' W)
theorem wcs_frz':∀ W:Wds,mapL frz1 (wcs W)=wcs W
 | []=>rfl
 |none::W=>by rw [show wcs (none::W)=.nils::wcs W from rfl,mapL,wcs_frz' W];rfl
 |some l::W=>by rw [show wcs (some l::W)=.sl 1 (strs l)::wcs W from rfl,mapL,wcs_frz' W,AV.mapv,strs_frz'];rfl
theorem wos_frz':∀ W:Wds,mapL frz1 (wos W)=wcs W
 | []=>rfl
 |none::W=>by rw [show wos (none::W)=.nils::wos W from rfl,mapL,wos_frz' W];rfl
 |some l::W=>by rw [show wos (some l::W)=.vec 1 (strs l)::wos W from rfl,mapL,wos_frz' W,AV.mapv,strs_frz'];rfl
theorem wcs_okc:∀ W:Wds,(wcs W).all AV.okc=true
 | []=>rfl
 |none::W=>by rw [show wcs (none::W)=.nils::wcs W from rfl,List.all_cons,wcs_okc W];rfl
 |some l::W=>by rw [show wcs (some l::W)=.sl 1 (strs l)::wcs W from rfl,List.all_cons,wcs_okc W];rfl
theorem wos_okc:∀ W:Wds,(wos W).all AV.okc=true
 | []=>rfl
 |none::W=>by rw [show wos (none::W)=.nils::wos W from rfl,List.all_cons,wos_okc W];rfl
 |some l::W=>by rw [show wos (some l::W)=.vec 1 (strs l)::wos W from rfl,List.all_cons,wos_okc W];rfl
attribute [go_sem] wcs_len wos_len wcs_noid' wos_noid' wcs_noinl' wos_noimm' wcs_idlt' wos_idlt' wcs_ren' wos_ren' wcs_ids wos_ids wcs_frz' wos_frz' wcs_okc wos_okc
theorem wcs_at {W:Wds} {i:Nat} (h:i<W.length):rdc ((wcs W).drop i) none=some (wc (W.getD i none)):=by
 simp [rdc,wcs,List.head?_drop,List.getD_eq_getElem?_getD,h]
theorem wos_nls (n:Nat):nls n=wos (List.replicate n none):=by simp [nls,wos,wo]
theorem wos_set (W:Wds) (i:Nat) (l:List Txt):(wos W).set i (.vec 1 (strs l))=wos (W.set i (some l)):=by simp [wos,List.map_set,wo]
structure Gr where
 n:Int
 E:List Ed
 W:Wds
deriving Inhabited
def gS (g:Gr):List AV:=[.int .i64 g.n,.sl 2 (prs g.E),.sl 1 (wcs g.W)]
def Gr.w (g:Gr) (i:Nat):List Txt:=(g.W.getD i none).getD []
structure okG (g:Gr):Prop where
 n:I64 g.n
 e:g.E.length≤2100
 w:g.W.length≤250
 r:∀ i,i<g.W.length→(g.w i).length≤20
 t:∀ i,i<g.W.length→∀ s∈g.w i,s.length≤4000
def letter (b:UInt8):Bool:=decide (97≤b.toNat∧b.toNat≤122)
def wordB (s:Txt):Bool:=decide (1≤s.length∧s.length≤12) && s.all letter
theorem txt_at {s:Txt} {i:Nat} (h:i<s.length):s[i]? = some (s.getD i 0):=by
 rw [List.getD_eq_getElem?_getD,List.getElem?_eq_getElem h];rfl
theorem letters_at (s:Txt):(∀ i,i<s.length→97≤(s.getD i 0).toNat∧(s.getD i 0).toNat≤122)∧s.all letter=true∨∃ m,m<s.length∧(∀ i,i<m→97≤(s.getD i 0).toNat∧(s.getD i 0).toNat≤122)∧¬ (97≤(s.getD m 0).toNat∧(s.getD m 0).toNat≤122)∧s.all letter=false:=by
 rcases first_ix' (fun i=>97≤(s.getD i 0).toNat∧(s.getD i 0).toNat≤122) s.length with h | ⟨m,h1,h2,h3⟩
 ·refine .inl ⟨h,?_⟩
  rw [List.all_eq_true]
  intro x hx
  obtain ⟨i,hi,rfl⟩:=mem_getD (d:=0) hx
  simpa [letter] using h i hi
 ·refine .inr ⟨m,h1,h2,h3,?_⟩
  rw [List.all_eq_false]
  exact ⟨_,getD_mem (d:=0) h1,by simpa [letter] using h3⟩
theorem word_run {s:Txt} (hs:s.length≤1000000):runP tab 1222 [.str s] []=some (.bool (wordB s),[]):=by
 refine runP_fn t1222 rfl ?_
 unfold wordB
 by_cases h1:1≤s.length
 case neg=>
  rw [decide_eq_false (by omega),Bool.false_and]
  simp (disch:=omega) only [go_sem,d1222]
 by_cases h2:s.length≤12
 case neg=>
  rw [decide_eq_false (by omega),Bool.false_and]
  simp (disch:=omega) only [go_sem,d1222]
 rw [decide_eq_true ⟨h1,h2⟩,Bool.true_and]
 simp (disch:=omega) only [go_sem,d1222]
 rcases letters_at s with ⟨h,e⟩ | ⟨m,m1,m2,m3,e⟩
 ·rw [e]
  refine Ev_loop0 (fun i=>⟨[(0,.str s),(13,.int .i64 s.length),(14,.int .i64 (i:Int))],[],0,[(0,0,[0,13,14],[])]⟩) s.length rfl (fun i hi=>?_) ?_
  ·have q:=h i hi
   have e:=txt_at hi
   simp (disch:=omega) only [go_sem,d1222_b0,e]
  ·simp (disch:=omega) only [go_sem,d1222_b0]
 ·rw [e]
  refine Ev_loop0 (fun i=>⟨[(0,.str s),(13,.int .i64 s.length),(14,.int .i64 (i:Int))],[],0,[(0,0,[0,13,14],[])]⟩) m rfl (fun i hi=>?_) ?_
  ·have q:=m2 i hi
   have e:=txt_at (s:=s) (i:=i) (by omega)
   simp (disch:=omega) only [go_sem,d1222_b0,e]
  ·have e:=txt_at m1
   by_cases h0:97≤(s.getD m 0).toNat
   ·have h3:¬ (s.getD m 0).toNat≤122:=fun h=>m3 ⟨h0,h⟩
    simp (disch:=omega) only [go_sem,d1222_b0,e]
   ·simp (disch:=omega) only [go_sem,d1222_b0,e]
theorem all_run {l:List Txt} (hl:l.length≤1000000) (ht:∀ s∈l,s.length≤1000000):runP tab 1221 [.sl 1 (strs l),.clo 1222 [] []] []=some (.bool (l.all wordB),[]):=by
 refine runP_fn t1221 rfl ?_
 simp (disch:=omega) only [go_sem,d1221]
 rcases first_ix' (fun i=>wordB (l.getD i [])=true) l.length with h | ⟨m,h1,h2,h3⟩
 ·have e:l.all wordB=true:=by
   rw [List.all_eq_true]
   intro x hx
   obtain ⟨i,hi,rfl⟩:=mem_getD (d:=[]) hx
   exact h i hi
  rw [e]
  refine Ev_loop0 (fun i=>⟨[(1,.clo 1222 [] []),(7,.sl 1 (strs l)),(8,.int .i64 l.length),(9,.int .i64 (i:Int))],[],0,[(0,0,[1,7,8,9],[])]⟩) l.length rfl (fun i hi=>?_) ?_
  ·have q:=h i hi
   have e:=strs_rdc hi
   have g:=word_run (ht _ (getD_mem (d:=[]) hi))
   rw [q] at g
   simp (disch:=omega) only [go_sem,d1221_b0,e,g]
  ·simp (disch:=omega) only [go_sem,d1221_b0]
 ·have e:l.all wordB=false:=by
   rw [List.all_eq_false]
   exact ⟨_,getD_mem (d:=[]) h1,h3⟩
  rw [e]
  refine Ev_loop0 (fun i=>⟨[(1,.clo 1222 [] []),(7,.sl 1 (strs l)),(8,.int .i64 l.length),(9,.int .i64 (i:Int))],[],0,[(0,0,[1,7,8,9],[])]⟩) m rfl (fun i hi=>?_) ?_
  ·have q:=h2 i hi
   have e:=strs_rdc (l:=l) (i:=i) (by omega)
   have g:=word_run (ht _ (getD_mem (d:=[]) (show i<l.length by omega)))
   rw [q] at g
   simp (disch:=omega) only [go_sem,d1221_b0,e,g]
  ·have e:=strs_rdc h1
   have g:=word_run (ht _ (getD_mem (d:=[]) h1))
   rw [show wordB (l.getD m [])=false by simpa using h3] at g
   simp (disch:=omega) only [go_sem,d1221_b0,e,g]
theorem hasg_run {n v:Int} {e w:List AV} (he:noidL e=true) (hw:noidL w=true):runP tab 1220 [.agg [.int .i64 n,.sl 2 e,.sl 1 w],.int .i64 v] []=some (.bool (decide (0≤v∧v<n)),[]):=by
 refine runP_fn t1220 rfl ?_
 by_cases h1:0≤v
 ·by_cases h2:v<n
  ·rw [decide_eq_true ⟨h1,h2⟩]
   simp (disch:=omega) only [go_sem,d1220,he,hw]
  ·rw [decide_eq_false (by omega)]
   simp (disch:=omega) only [go_sem,d1220,he,hw]
 ·rw [decide_eq_false (by omega)]
  simp (disch:=omega) only [go_sem,d1220,he,hw]
def endB (n:Int) (e:Ed):Bool:=decide (0≤e.1∧e.1<n) && decide (0≤e.2∧e.2<n)
def wrdB (l:List Txt):Bool:=decide (l.length≤8) && l.all wordB
def okB (g:Gr):Bool:=decide ((1≤g.n∧g.n≤200)∧g.E.length≤2000∧(g.W.length:Int)=g.n) && (g.E.all (endB g.n) && (List.range g.W.length).all fun i=>wrdB (g.w i))
theorem gck_run {g:Gr} (hg:okG g):runP tab 1214 [.agg (gS g)] []=some (.bool (okB g),[]):=by
 refine runP_fn t1214 rfl ?_
 obtain ⟨hn1,hn2⟩:=hg.n
 have he:=hg.e
 have hw:=hg.w
 by_cases c1:1≤g.n
 case neg=>
  rw [okB,decide_eq_false (by omega),Bool.false_and]
  simp (disch:=omega) only [go_sem,d1214,gS]
 by_cases c2:g.n≤200
 case neg=>
  rw [okB,decide_eq_false (by omega),Bool.false_and]
  simp (disch:=omega) only [go_sem,d1214,gS]
 by_cases c3:g.E.length≤2000
 case neg=>
  rw [okB,decide_eq_false (by omega),Bool.false_and]
  simp (disch:=omega) only [go_sem,d1214,gS]
 by_cases c4:(g.W.length:Int)=g.n
 case neg=>
  rw [okB,decide_eq_false (by omega),Bool.false_and]
  simp (disch:=omega) only [go_sem,d1214,gS,c4]
 rw [okB,decide_eq_true ⟨⟨c1,c2⟩,c3,c4⟩,Bool.true_and]
 simp (disch:=omega) only [go_sem,d1214,gS,c4]
 have hst:=fun (i:Nat) (hi:i<g.E.length) (h:endB g.n (g.E.getD i default)=true)=>(show Ev tab d1214_b0 ⟨[(1,.ref 0 0),(30,.sl 2 (prs g.E)),(31,.int .i64 g.E.length),(32,.int .i64 (i:Int))],[.row false [.int .i64 g.n,.sl 2 (prs g.E),.sl 1 (wcs g.W)]],0,[(0,1,[1,30,31,32],[(1,0)])]⟩ (fun x st=>x=.normal∧st=⟨[(1,.ref 0 0),(30,.sl 2 (prs g.E)),(31,.int .i64 g.E.length),(32,.int .i64 ((i+1:Nat):Int))],[.row false [.int .i64 g.n,.sl 2 (prs g.E),.sl 1 (wcs g.W)]],0,[(0,1,[1,30,31,32],[(1,0)])]⟩) from by
  have e:=prs_at hi
  have g1:=hasg_run (n:=g.n) (v:=(g.E.getD i default).1) (prs_noid' g.E) (wcs_noid' g.W)
  have g2:=hasg_run (n:=g.n) (v:=(g.E.getD i default).2) (prs_noid' g.E) (wcs_noid' g.W)
  simp only [endB,Bool.and_eq_true] at h
  rw [h.1] at g1
  rw [h.2] at g2
  simp (disch:=omega) only [go_sem,d1214_b0,e,g1,g2])
 rcases first_ix' (fun i=>endB g.n (g.E.getD i default)=true) g.E.length with h | ⟨m,m1,m2,m3⟩
 ·have ea:g.E.all (endB g.n)=true:=by
   rw [List.all_eq_true]
   intro x hx
   obtain ⟨i,hi,rfl⟩:=mem_getD (d:=default) hx
   exact h i hi
  rw [ea,Bool.true_and]
  refine Ev_loop0 (fun i=>⟨[(1,.ref 0 0),(30,.sl 2 (prs g.E)),(31,.int .i64 g.E.length),(32,.int .i64 (i:Int))],[.row false [.int .i64 g.n,.sl 2 (prs g.E),.sl 1 (wcs g.W)]],0,[(0,1,[1,30,31,32],[(1,0)])]⟩) g.E.length (by simp) (fun i hi=>hst i hi (h i hi)) ?_
  simp (disch:=omega) only [go_sem,d1214_b0]
  have hrow:=fun (i:Nat) (hi:i<g.W.length)=>(show rdc ((wcs g.W).drop i) none=some (wc (g.W.getD i none))∧runP tab 1221 [.sl 1 (strs (g.w i)),.clo 1222 [] []] []=some (.bool ((g.w i).all wordB),[])∧(g.w i).length≤20 from
   ⟨wcs_at hi,all_run (by have:=hg.r i hi;omega) (fun s hs=>by have:=hg.t i hi s hs;omega),hg.r i hi⟩)
  rcases first_ix' (fun i=>wrdB (g.w i)=true) g.W.length with hw' | ⟨m,m1,m2,m3⟩
  ·have eb:((List.range g.W.length).all fun i=>wrdB (g.w i))=true:=by
    rw [List.all_eq_true]
    intro i hi
    exact hw' i (by simpa using hi)
   rw [eb]
   refine Ev_loop0 (fun i=>⟨[(50,.sl 1 (wcs g.W)),(51,.int .i64 g.n),(52,.int .i64 (i:Int))],[.row false [.int .i64 g.n,.sl 2 (prs g.E),.sl 1 (wcs g.W)]],0,[(1,1,[50,51,52],[]),(0,1,[1,30,31,32],[(1,0)])]⟩) g.W.length (by simp [c4]) (fun i hi=>?_) ?_
   ·obtain ⟨e,ga,hl⟩:=hrow i hi
    have q:=hw' i hi
    simp only [wrdB,Bool.and_eq_true,decide_eq_true_eq] at q
    rw [q.2] at ga
    have ew:g.w i=(g.W.getD i none).getD []:=rfl
    rw [ew] at ga q hl
    cases hx:g.W.getD i none with
    |none=>
     rw [hx] at e ga q
     simp only [Option.getD_none,strs,List.map_nil] at ga
     simp (disch:=omega) only [go_sem,d1214_b1,e,wc,ga]
    |some l=>
     rw [hx] at e ga q hl
     simp only [Option.getD_some] at ga q hl
     obtain ⟨q1,q2⟩:=q
     simp (disch:=omega) only [go_sem,d1214_b1,e,wc,strs_length,ga]
   ·simp (disch:=omega) only [go_sem,d1214_b1]
  ·have eb:((List.range g.W.length).all fun i=>wrdB (g.w i))=false:=by
    rw [List.all_eq_false]
    exact ⟨m,by simpa using m1,m3⟩
   rw [eb]
   refine Ev_loop0 (fun i=>⟨[(50,.sl 1 (wcs g.W)),(51,.int .i64 g.n),(52,.int .i64 (i:Int))],[.row false [.int .i64 g.n,.sl 2 (prs g.E),.sl 1 (wcs g.W)]],0,[(1,1,[50,51,52],[]),(0,1,[1,30,31,32],[(1,0)])]⟩) m (by simp [c4]) (fun i hi=>?_) ?_
   ·obtain ⟨e,ga,hl⟩:=hrow i (by omega)
    have q:=m2 i hi
    simp only [wrdB,Bool.and_eq_true,decide_eq_true_eq] at q
    rw [q.2] at ga
    have ew:g.w i=(g.W.getD i none).getD []:=rfl
    rw [ew] at ga q hl
    cases hx:g.W.getD i none with
    |none=>
     rw [hx] at e ga q
     simp only [Option.getD_none,strs,List.map_nil] at ga
     simp (disch:=omega) only [go_sem,d1214_b1,e,wc,ga]
    |some l=>
     rw [hx] at e ga q hl
     simp only [Option.getD_some] at ga q hl
     obtain ⟨q1,q2⟩:=q
     simp (disch:=omega) only [go_sem,d1214_b1,e,wc,strs_length,ga]
   ·obtain ⟨e,ga,hl⟩:=hrow m m1
    have ew:g.w m=(g.W.getD m none).getD []:=rfl
    rw [ew] at ga m3 hl
    cases hx:g.W.getD m none with
    |none=>rw [hx] at m3;exact absurd rfl m3
    |some l=>
     rw [hx] at e ga m3 hl
     simp only [Option.getD_some] at ga m3 hl
     by_cases h8:l.length≤8
     ·have ha:l.all wordB=false:=by
       cases h:l.all wordB with
       |false=>rfl
       |true=>exact absurd (by simp [wrdB,h,h8]) m3
      rw [ha] at ga
      simp (disch:=omega) only [go_sem,d1214_b1,e,wc,strs_length,ga]
     ·simp (disch:=omega) only [go_sem,d1214_b1,e,wc,strs_length]
 ·have ea:g.E.all (endB g.n)=false:=by
   rw [List.all_eq_false]
   exact ⟨_,getD_mem (d:=default) m1,m3⟩
  rw [ea,Bool.false_and]
  refine Ev_loop0 (fun i=>⟨[(1,.ref 0 0),(30,.sl 2 (prs g.E)),(31,.int .i64 g.E.length),(32,.int .i64 (i:Int))],[.row false [.int .i64 g.n,.sl 2 (prs g.E),.sl 1 (wcs g.W)]],0,[(0,1,[1,30,31,32],[(1,0)])]⟩) m (by simp) (fun i hi=>hst i (by omega) (m2 i hi)) ?_
  have e:=prs_at m1
  have g1:=hasg_run (n:=g.n) (v:=(g.E.getD m default).1) (prs_noid' g.E) (wcs_noid' g.W)
  have g2:=hasg_run (n:=g.n) (v:=(g.E.getD m default).2) (prs_noid' g.E) (wcs_noid' g.W)
  generalize g.E.getD m default=x at *
  by_cases h1:0≤x.1∧x.1<g.n
  ·have h2:¬ (0≤x.2∧x.2<g.n):=fun h2=>m3 (by simp [endB,h1,h2])
   rw [decide_eq_true h1] at g1
   rw [decide_eq_false h2] at g2
   simp (disch:=omega) only [go_sem,d1214_b0,e,g1,g2]
  ·rw [decide_eq_false h1] at g1
   simp (disch:=omega) only [go_sem,d1214_b0,e,g1]
end Go.Proofs.YtmckpijdjoifoaaGreat
