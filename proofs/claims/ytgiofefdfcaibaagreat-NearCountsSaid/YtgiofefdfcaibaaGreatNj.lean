import Derived.Test.YtgiofefdfcaibaaGreatNi
import Derived.Test.YtgiofefdfcaibaaGreatNd
namespace Go.Proofs.YtgiofefdfcaibaaGreat
set_option linter.unusedSimpArgs false
set_option linter.unusedVariables false
set_option maxHeartbeats 4000000
set_option maxRecDepth 100000
theorem hsame_run {a b:List Ed} (ha:a.length≤1000000) (hb:b.length≤1000000):runP tab 1439 [.sl 2 (prs a),.sl 2 (prs b)] []=some (.bool (decide (a=b)),[]):=by
 refine runP_fn t1439 rfl ?_
 by_cases hl:a.length=b.length
 ·simp (disch:=omega) only [go_sem,d1439]
  rcases eds_at a b hl with ⟨h1,h2⟩ | ⟨k,h0,h1,h2,h3⟩
  ·refine Ev_loop0 (fun i=>⟨[(0,.sl 2 (prs a)),(1,.sl 2 (prs b)),(5,.int .i64 (i:Int))],[],0,[(0,0,[0,1,5],[])]⟩) a.length rfl (fun i hi=>?_) ?_
   ·have e1:=prs_at (l:=a) hi
    have e2:=prs_at (l:=b) (i:=i) (by omega)
    have:=h1 i (by omega)
    rw [←this] at e2
    simp (disch:=omega) only [go_sem,d1439_b0,e1,e2,aeqL,aeq,encA,digA]
   ·simp (disch:=omega) only [go_sem,d1439_b0,h2]
  ·refine Ev_loop0 (fun i=>⟨[(0,.sl 2 (prs a)),(1,.sl 2 (prs b)),(5,.int .i64 (i:Int))],[],0,[(0,0,[0,1,5],[])]⟩) k rfl (fun i hi=>?_) ?_
   ·have e1:=prs_at (l:=a) (i:=i) (by omega)
    have e2:=prs_at (l:=b) (i:=i) (by omega)
    have:=h1 i (by omega)
    rw [←this] at e2
    simp (disch:=omega) only [go_sem,d1439_b0,e1,e2,aeqL,aeq,encA,digA]
   ·have e1:=prs_at (l:=a) (i:=k) (by omega)
    have e2:=prs_at (l:=b) (i:=k) (by omega)
    have hne:(decide ((a.getD k default).1=(b.getD k default).1) && decide ((a.getD k default).2=(b.getD k default).2))=false:=by rw [ed_beq,decide_eq_false h2]
    generalize a.getD k default=x at *
    generalize b.getD k default=y at *
    simp (disch:=omega) only [go_sem,d1439_b0,e1,e2,h3,aeqL,aeq,encA,digA,hne]
 ·have h:decide (a=b)=false:=by rw [decide_eq_false_iff_not];rintro rfl;exact hl rfl
  simp (disch:=omega) only [go_sem,d1439,h]
theorem ed_eq (x y:Ed):aeqL [.int .i64 x.1,.int .i64 x.2] [.int .i64 y.1,.int .i64 y.2]=some (decide (x=y)):=by
 obtain ⟨a,b⟩:=x
 obtain ⟨c,d⟩:=y
 simp only [aeqL,aeq,if_true,Option.bind_some,Option.map_some,Bool.and_true,Option.some.injEq]
 by_cases h1:a=c<;>by_cases h2:b=d<;>simp [h1,h2]
def farB (r:Rw) (P:List Po) (ws:List Txt):Bool:=(ws.any fun s=>decide (60<s.length)) || (bigR r || (decide (30<r.off.length) || (bigP P || decide (12<ws.length))))
structure Nr (r:Rw) (P:List Po) (ws:List Txt):Prop where
 ok:okR r
 o:r.off.length≤30
 p:okP P
 n:ws.length≤12
 w:∀ s∈ws,s.length≤60
 b:bigP P=false
theorem farB_no {r:Rw} {P:List Po} {ws:List Txt} (h:farB r P ws=false):Nr r P ws:=by
 simp only [farB,Bool.or_eq_false_iff,decide_eq_false_iff_not,List.any_eq_false,decide_eq_true_eq] at h
 obtain ⟨h1,h2,h3,h4,h5⟩:=h
 exact ⟨bigR_ok h2,by omega,bigP_okP h4,by omega,fun s hs=>by have:=h1 s hs;omega,h4⟩
structure Ft (r:Rw) (P:List Po) (ws:List Txt):Prop where
 r:rwFit r
 n:P.length≤9223372036854775807
 w:∀ p∈P,p.1.length≤9223372036854775807
 p:∀ p∈P,p.2.length≤9223372036854775807
 k:ws.length≤9223372036854775807
 t:∀ s∈ws,s.length≤9223372036854775807
theorem far_run {r:Rw} {P:List Po} {ws:List Txt} (h:Ft r P ws):runP tab 1686 [.agg (rwS r),.sl 2 (poS P),.sl 1 (strs ws)] []=some (.bool (farB r P ws),[]):=by
 refine runP_fn t1686 rfl ?_
 have gb:=bigR_run h.r
 have gp:=bigP_run h.n h.w h.p
 have L:=strs_length ws
 have hk:=h.k
 obtain ⟨r1,r2,r3,r4⟩:=h.r
 simp only [rwS] at gb
 simp (disch:=omega) only [go_sem,d1686,rwS,L]
 have hst:∀ i,i<ws.length→(ws.getD i []).length≤60→Ev tab d1686_b0 ⟨[(1,.sl 2 (poS P)),(2,.sl 1 (strs ws)),(3,.ref 0 0),(7,.int .i64 (i:Int))],[.row false (rwS r)],0,[(0,1,[1,2,3,7],[(3,0)])]⟩ (fun x st=>x=.normal∧st=⟨[(1,.sl 2 (poS P)),(2,.sl 1 (strs ws)),(3,.ref 0 0),(7,.int .i64 ((i+1:Nat):Int))],[.row false (rwS r)],0,[(0,1,[1,2,3,7],[(3,0)])]⟩):=by
  intro i hi q
  have e1:=strs_rdc hi
  simp (disch:=omega) only [go_sem,d1686_b0,rwS,L,e1]
 rcases first_ix' (fun i=>(ws.getD i []).length≤60) ws.length with hw | ⟨m,m1,m2,m3⟩
 ·have ha:(ws.any fun s=>decide (60<s.length))=false:=by
   rw [List.any_eq_false]
   intro s hs
   obtain ⟨i,hi,rfl⟩:=mem_getD (d:=[]) hs
   have:=hw i hi
   simp only [decide_eq_true_eq]
   omega
  refine Ev_loop0 (fun i=>⟨[(1,.sl 2 (poS P)),(2,.sl 1 (strs ws)),(3,.ref 0 0),(7,.int .i64 (i:Int))],[.row false (rwS r)],0,[(0,1,[1,2,3,7],[(3,0)])]⟩) ws.length (by simp [rwS]) (fun i hi=>hst i hi (hw i hi)) ?_
  unfold farB
  rw [ha]
  cases hb:bigR r with
  |true=>
   rw [hb] at gb
   simp (disch:=omega) only [go_sem,d1686_b0,rwS,L,gb]
  |false=>
   rw [hb] at gb
   by_cases h1:30<r.off.length
   ·rw [decide_eq_true h1]
    simp (disch:=omega) only [go_sem,d1686_b0,rwS,L,gb]
   rw [decide_eq_false h1]
   cases hp:bigP P with
   |true=>
    rw [hp] at gp
    simp (disch:=omega) only [go_sem,d1686_b0,rwS,L,gb,gp]
   |false=>
    rw [hp] at gp
    by_cases h2:12<ws.length
    ·rw [decide_eq_true h2]
     simp (disch:=omega) only [go_sem,d1686_b0,rwS,L,gb,gp]
    ·rw [decide_eq_false h2]
     simp (disch:=omega) only [go_sem,d1686_b0,rwS,L,gb,gp]
 ·have ha:(ws.any fun s=>decide (60<s.length))=true:=by
   rw [List.any_eq_true]
   exact ⟨_,getD_mem (d:=[]) m1,by simpa using m3⟩
  unfold farB
  rw [ha,Bool.true_or]
  refine Ev_loop0 (fun i=>⟨[(1,.sl 2 (poS P)),(2,.sl 1 (strs ws)),(3,.ref 0 0),(7,.int .i64 (i:Int))],[.row false (rwS r)],0,[(0,1,[1,2,3,7],[(3,0)])]⟩) m (by simp [rwS]) (fun i hi=>hst i (by omega) (m2 i hi)) ?_
  have e1:=strs_rdc m1
  have w1:=h.t _ (getD_mem (d:=[]) m1)
  have m3:¬ (ws.getD m []).length≤60:=m3
  simp (disch:=omega) only [go_sem,d1686_b0,rwS,L,e1]
def R9:Rw:=⟨[0,1,2,2],[1,2],[0,0,1,2],[0,1]⟩
def P9:List Po:=[([97],[0,2])]
def W9:List Txt:=[[97]]
theorem R9_ok:okR R9:=⟨by decide,by decide,by decide,by decide⟩
theorem R9_chk:chk R9=true:=chkK (by decide)
theorem E9_ok:okE 3 [(0,1),(1,2)]:=⟨by decide,by decide,by decide,fun i hi=>by
 match i,hi with
 |0,_=>decide
 |1,_=>decide,fun i hi=>by
 match i,hi with
 |0,_=>decide⟩
theorem P9_ok:okP P9:=⟨by decide,fun p hp=>by simp only [P9,List.mem_singleton] at hp;subst hp;decide⟩
theorem A9 (v:Int):v∈allP P9 W9↔v=0∨v=2:=by
 rw [allP_mem (by decide)]
 simp [W9,P9,findP]
theorem V9 (s:Nat) (b:Bool) (h:s<3) {L:List Int} (e:rounds (eds R9 b) ((List.replicate 3 (-1:Int)).set s 0) 3=L) {v:Int} (h1:0≤v) (h2:v<3):lev (nbr R9 b) s v=gi L v.toNat:=by
 have:=levs_by (chk_iff.1 R9_chk) b (s:=s) h
 rw [←levs_at (nb:=nbr R9 b) (s:=s) (n:=3) h1 h2,←e]
 exact congrArg (gi · v.toNat) this
theorem hits_are {r:Rw} {P:List Po} {s rad:Int} {ws:List Txt} {L:List Ed} (ha:asc ltH L) (h:∀ x:Ed,((x.1∈allP P ws∧0≤x.1∧x.1<plc r)∧x.2=lev (nbr r false) s x.1∧0≤x.2∧x.2≤rad)↔x∈L):hitsL r P s ws rad=L:=
 asc_ext ordrH (hitsL_asc ..) ha fun x=>by rw [hitsL_mem,h]
theorem p9:(plc R9:Int)=3:=rfl
theorem h9a:hitsL R9 P9 0 W9 2=[(0,0),(2,2)]:=by
 have v0:=V9 0 false (by decide) (L:=[0,1,2]) (by decide) (v:=0) (by decide) (by decide)
 have v2:=V9 0 false (by decide) (L:=[0,1,2]) (by decide) (v:=2) (by decide) (by decide)
 refine hits_are (by unfold asc;decide) fun x=>?_
 obtain ⟨a,b⟩:=x
 rw [A9,p9]
 simp only [List.mem_cons,Prod.mk.injEq,List.not_mem_nil,or_false]
 constructor
 ·rintro ⟨⟨rfl | rfl,_⟩,h,_⟩
  ·exact .inl ⟨rfl,h.trans v0⟩
  ·exact .inr ⟨rfl,h.trans v2⟩
 ·rintro (⟨rfl,rfl⟩ | ⟨rfl,rfl⟩)
  ·exact ⟨⟨by decide,by decide⟩,v0.symm,by decide⟩
  ·exact ⟨⟨by decide,by decide⟩,v2.symm,by decide⟩
theorem h9b:hitsL R9 P9 0 W9 1=[(0,0)]:=by
 have v0:=V9 0 false (by decide) (L:=[0,1,2]) (by decide) (v:=0) (by decide) (by decide)
 have v2:=V9 0 false (by decide) (L:=[0,1,2]) (by decide) (v:=2) (by decide) (by decide)
 refine hits_are (by unfold asc;decide) fun x=>?_
 obtain ⟨a,b⟩:=x
 rw [A9,p9]
 simp only [List.mem_cons,Prod.mk.injEq,List.not_mem_nil,or_false]
 constructor
 ·rintro ⟨⟨rfl | rfl,_⟩,h,_,h2⟩
  ·exact ⟨rfl,h.trans v0⟩
  ·exact absurd (h.trans v2) (by simp [gi];omega)
 ·rintro ⟨rfl,rfl⟩
  exact ⟨⟨by decide,by decide⟩,v0.symm,by decide⟩
theorem h9c:hitsL R9 P9 1 W9 200=[(2,1)]:=by
 have v0:=V9 1 false (by decide) (L:=[-1,0,1]) (by decide) (v:=0) (by decide) (by decide)
 have v2:=V9 1 false (by decide) (L:=[-1,0,1]) (by decide) (v:=2) (by decide) (by decide)
 refine hits_are (by unfold asc;decide) fun x=>?_
 obtain ⟨a,b⟩:=x
 rw [A9,p9]
 simp only [List.mem_cons,Prod.mk.injEq,List.not_mem_nil,or_false]
 constructor
 ·rintro ⟨⟨rfl | rfl,_⟩,h,h2,_⟩
  ·exact absurd (h.trans v0) (by simp [gi];omega)
  ·exact ⟨rfl,h.trans v2⟩
 ·rintro ⟨rfl,rfl⟩
  exact ⟨⟨by decide,by decide⟩,v2.symm,by decide⟩
theorem h9d:cntL R9 1 (plcs R9 (allP P9 W9))=[1,1,1]:=by
 have e:plcs R9 (allP P9 W9)=[0,2]:=inc_ext (plcs_inc (allP_asc _)) (by decide) fun x=>by
  rw [plcs_mem,A9,p9]
  simp only [List.mem_cons,List.not_mem_nil,or_false]
  omega
 have w0:∀ v:Nat,v<3→lev (nbr R9 true) 0 v=gi [0,-1,-1] v:=fun v h=>by
  have:=V9 0 true (by decide) (L:=[0,-1,-1]) (by decide) (v:=v) (by omega) (by omega)
  rwa [Int.toNat_natCast] at this
 have w2:∀ v:Nat,v<3→lev (nbr R9 true) 2 v=gi [2,1,0] v:=fun v h=>by
  have:=V9 2 true (by decide) (L:=[2,1,0]) (by decide) (v:=v) (by omega) (by omega)
  rwa [Int.toNat_natCast] at this
 rw [e]
 refine gi_ext9 (by rw [cntL_len];rfl) fun i hi=>?_
 rw [cntL_len] at hi
 have hi:i<3:=hi
 rw [cntL_at hi]
 simp only [List.filter_cons,List.filter_nil,w0 i hi,w2 i hi]
 match i,hi with
 |0,_=>decide
 |1,_=>decide
 |2,_=>decide
theorem ern9 {s rad:Int} (h1:0≤rad) (h2:0≤s∧s<3):ern R9 s W9 rad=0:=by
 rw [ern,if_pos R9_chk,if_neg]
 rw [p9]
 simp only [W9,not_or]
 exact ⟨by decide,by omega,by omega⟩
theorem nears_run:runP tab 1688 [] []=some (.bool true,[]):=by
 refine runP_fn t1688 rfl ?_
 have g1:runP tab 1198 [.agg (grS 3 [(0,1),(1,2)])] []=some (.tup [.agg [.vec 1 (ints R9.off),.vec 1 (ints R9.to),.vec 1 (ints R9.roff),.vec 1 (ints R9.rev)],.int .i64 0],[]):=make_run E9_ok
 have g2:=nhits_run (s:=0) (ws:=W9) (rad:=2) R9_ok P9_ok (by decide)
 rw [htT,ern9 (by decide) (by decide),if_pos rfl,h9a] at g2
 have g3:=nhits_run (s:=0) (ws:=W9) (rad:=1) R9_ok P9_ok (by decide)
 rw [htT,ern9 (by decide) (by decide),if_pos rfl,h9b] at g3
 have g4:=nfirst_run (s:=1) (ws:=W9) R9_ok P9_ok (by decide)
 rw [fsT,ern9 (by decide) (by decide),if_pos rfl,h9c] at g4
 have g5:=ncount_run (ws:=W9) (rad:=1) R9_ok P9_ok (by decide)
 rw [ctT,if_pos R9_chk,if_neg (by decide),h9d] at g5
 have g6:=nhits_run (s:=0) (ws:=[]) (rad:=1) R9_ok P9_ok (by decide)
 rw [htT,show ern R9 0 [] 1=1 by rw [ern,if_pos R9_chk,if_pos (.inl rfl)],if_neg (by decide)] at g6
 have i1:=ints_run (a:=[1,1,1]) (b:=[1,1,1]) (by decide) (by decide)
 have s1:=hsame_run (a:=[(0,0),(2,2)]) (b:=[(0,0),(2,2)]) (by decide) (by decide)
 have s2:=hsame_run (a:=[(0,0)]) (b:=[(0,0)]) (by decide) (by decide)
 have c1:=ed_eq (2,1) (2,1)
 simp only [beq_self_eq_true,decide_true,ints,List.map_cons,List.map_nil] at i1 s1 s2 c1 g5
 simp only [grS,prs,List.flatMap_cons,List.flatMap_nil,List.cons_append,List.nil_append,nls,List.replicate,Int.cast_ofNat_Int] at g1 g2 g3 g4 g6 s1 s2
 simp only [rwS,R9,P9,W9,poS,strs,ints,List.map_cons,List.map_nil,htA,List.getD_cons_zero] at g1 g2 g3 g4 g5 g6
 simp (disch:=omega) only [go_sem,d1688,g1,g2,g3,g4,g5,g6,i1,s1,s2,c1,encA,digA]
end Go.Proofs.YtgiofefdfcaibaaGreat
