import Derived.Test.YtmckpijdjoifoaaGreatCl
import Derived.Test.YtmckpijdjoifoaaGreatGn
namespace Go.Proofs.YtmckpijdjoifoaaGreat
set_option linter.unusedSimpArgs false
set_option linter.unusedVariables false
set_option maxHeartbeats 4000000
set_option maxRecDepth 100000
theorem postP_okW {g:Gr} (hg:okG g):okW (postP (pfx g.W g.W.length)):=by
 have h5:=kyP_len5 hg (Nat.le_refl _)
 have hk:=kyP_len (pfx g.W g.W.length)
 have hs:=sorted_len (lt:=ltS) (kyP (pfx g.W g.W.length))
 refine ⟨by unfold postP;rw [List.length_map];omega,fun p hp=>?_⟩
 unfold postP at hp
 obtain ⟨w,_,rfl⟩:=List.mem_map.1 hp
 have:=plc_len (pfx g.W g.W.length) w
 simp only;omega
theorem asc_nodup {α:Type} {lt:α→α→Bool} (O:Ordr lt) {l:List α} (h:asc lt l):l.Nodup:=
 h.imp fun {a b} h e=>by rw [e,O.irr] at h;cases h
theorem plc_mem {ps:List Pr} {w:Txt} {x:Int}:x∈plc ps w↔(w,x)∈ps:=by
 unfold plc
 simp only [List.mem_map,List.mem_filter,decide_eq_true_eq]
 constructor
 ·rintro ⟨⟨a,b⟩,⟨h1,h2⟩,h3⟩
  simp only at h2 h3
  rw [←h2,←h3];exact h1
 ·exact fun h=>⟨(w,x),⟨h,rfl⟩,rfl⟩
theorem plc_app (a b:List Pr) (w:Txt):plc (a++b) w=plc a w++plc b w:=by unfold plc;rw [List.filter_append,List.map_append]
theorem plc_row {l:List Txt} (h:l.Nodup) (v:Int) (w:Txt):plc (l.map fun w=>(w,v)) w=if w∈l then [v] else []:=by
 induction l with
 |nil=>rfl
 |cons x l ih=>
  rw [List.nodup_cons] at h
  have ih:=ih h.2
  rw [List.map_cons,show ((x,v)::l.map fun w=>(w,v))=[(x,v)]++l.map fun w=>(w,v) from rfl,plc_app,ih]
  by_cases e:x=w
  ·subst e
   rw [if_neg h.1,if_pos (by simp),List.append_nil]
   simp [plc]
  ·have:plc [(x,v)] w=[]:=by simp [plc,e]
   rw [this,List.nil_append]
   have e':¬ w=x:=fun h=>e h.symm
   by_cases hw:w∈l
   ·rw [if_pos hw,if_pos (by simp [hw])]
   ·rw [if_neg hw,if_neg (by simp [hw,e'])]
theorem pfx_mem {W:Wds} {w:Txt} {x:Int}:∀ n,(w,x)∈pfx W n↔∃ i,i<n∧x=(i:Nat)∧w∈(W.getD i none).getD []
 |0=>by simp [pfx]
 |n+1=>by
  rw [pfx,List.mem_append,pfx_mem n]
  simp only [List.mem_map,Prod.mk.injEq]
  constructor
  ·rintro (⟨i,h1,h2,h3⟩ | ⟨a,h1,h2,h3⟩)
   ·exact ⟨i,by omega,h2,h3⟩
   ·exact ⟨n,by omega,h3.symm,h2 ▸ h1⟩
  ·rintro ⟨i,h1,h2,h3⟩
   by_cases hi:i=n
   ·subst hi;exact .inr ⟨w,h3,rfl,h2.symm⟩
   ·exact .inl ⟨i,by omega,h2,h3⟩
theorem pfx_rise {W:Wds} {w:Txt}:∀ n,(∀ i,i<n→((W.getD i none).getD []).Nodup)→(plc (pfx W n) w).Pairwise (·<·)∧∀ x∈plc (pfx W n) w,0≤x∧x<n
 |0,_=>by simp [pfx,plc]
 |n+1,h=>by
  obtain ⟨h1,h2⟩:=pfx_rise (w:=w) n fun i hi=>h i (by omega)
  rw [pfx,plc_app,plc_row (h n (by omega))]
  split
  ·refine ⟨?_,fun x hx=>?_⟩
   ·rw [List.pairwise_append]
    exact ⟨h1,by simp,fun a ha b hb=>by rw [List.mem_singleton] at hb;subst hb;exact (h2 a ha).2⟩
   ·rcases List.mem_append.1 hx with hx | hx
    ·have:=h2 x hx;omega
    ·rw [List.mem_singleton] at hx;subst hx;omega
  ·rw [List.append_nil]
   exact ⟨h1,fun x hx=>by have:=h2 x hx;omega⟩
structure gOk (g:Gr):Prop where
 n:1≤g.n∧g.n≤200
 l:(g.W.length:Int)=g.n
 a:∀ i,i<g.W.length→asc ltS (g.w i)
 w:∀ i,i<g.W.length→∀ s∈g.w i,wordB s=true
theorem isB_gOk {g:Gr} (h:isB g=true):gOk g:=by
 unfold isB at h
 simp only [Bool.and_eq_true] at h
 obtain ⟨h1,_,h3⟩:=h
 obtain ⟨⟨a1,a2,_,a4⟩,_,a6⟩:=okB_iff.1 h1
 exact ⟨⟨a1,a2⟩,a4,(Classical.byContradiction fun hn=>by rw [wAsc_no hn] at h3;cases h3),fun i hi=>(a6 i hi).2⟩
theorem post_find {ps:List Pr} (w:Txt):findP (postP ps) w=plc ps w:=by
 unfold findP postP
 by_cases h:w∈kyP ps
 ·have hs:w∈sorted ltS (kyP ps):=((sorted_perm (lt:=ltS) (kyP ps)).mem_iff).2 h
  cases hf:((sorted ltS (kyP ps)).map fun w=>(w,plc ps w)).find? (fun p=>p.1 == w) with
  |none=>
   rw [List.find?_eq_none] at hf
   have:=hf (w,plc ps w) (List.mem_map.2 ⟨w,hs,rfl⟩)
   simp at this
  |some p=>
   have h1:=List.find?_some hf
   obtain ⟨v,_,rfl⟩:=List.mem_map.1 (List.mem_of_find?_eq_some hf)
   simp only [beq_iff_eq] at h1
   simp only [h1]
 ·rw [List.find?_eq_none.2,plc_nil h]
  intro p hp
  obtain ⟨v,hv,rfl⟩:=List.mem_map.1 hp
  simp only [beq_iff_eq]
  exact fun e=>h (e ▸ ((sorted_perm (lt:=ltS) (kyP ps)).mem_iff).1 hv)
theorem post_okC {g:Gr} (h:gOk g):okC g.n (postP (pfx g.W g.W.length)):=by
 refine ⟨h.n,fun i hi=>?_⟩
 have hnd:∀ i,i<g.W.length→((g.W.getD i none).getD []).Nodup:=fun i hi=>asc_nodup ordrS (h.a i hi)
 generalize hps:pfx g.W g.W.length=ps at *
 have hS:=sorted_asc ordrS (kyP_nodup ps)
 have hmem:∀ w,w∈sorted ltS (kyP ps)→w∈kyP ps:=fun w hw=>((sorted_perm (lt:=ltS) (kyP ps)).mem_iff).1 hw
 unfold postP at hi ⊢
 generalize sorted ltS (kyP ps)=S at *
 rw [List.length_map] at hi
 have hat:∀ j,j<S.length→(S.map fun w=>(w,plc ps w)).getD j default=(S.getD j [],plc ps (S.getD j [])):=by
  intro j hj
  rw [List.getD_eq_getElem?_getD,List.getElem?_map,List.getD_eq_getElem?_getD,List.getElem?_eq_getElem hj];rfl
 have hk:=hmem _ (getD_mem (d:=[]) hi)
 obtain ⟨x,hx⟩:=(kyP_mem ps _).1 hk
 have hx0:=hx
 rw [←hps,pfx_mem] at hx0
 obtain ⟨v,v1,v2,v3⟩:=hx0
 unfold poOk
 rw [hat i hi]
 refine ⟨⟨h.w v v1 _ v3,fun h0=>?_⟩,fun k hk=>?_,?_⟩
 ·rw [hat (i - 1) (by omega)]
  have:=List.pairwise_iff_getElem.1 hS (i - 1) i (by omega) hi (by omega)
  rw [List.getD_eq_getElem?_getD,List.getD_eq_getElem?_getD,List.getElem?_eq_getElem hi,List.getElem?_eq_getElem (show i - 1<S.length by omega)]
  exact this
 ·have hr:=pfx_rise (W:=g.W) (w:=S.getD i []) g.W.length hnd
  rw [hps] at hr
  have hl:=h.l
  have h1:=hr.2 _ (getD_memI hk)
  exact ⟨⟨h1.1,by have h2:=h1.2;rw [hl] at h2;exact h2⟩,fun h0=>inc_at hr.1 (by omega) hk⟩
 ·exact List.length_pos_of_mem (plc_mem.2 hx)
theorem find_mem {g:Gr} (w:Txt) {v:Nat} (hv:v<g.W.length):((v:Int)∈plc (pfx g.W g.W.length) w)↔w∈g.w v:=by
 rw [plc_mem,pfx_mem]
 constructor
 ·rintro ⟨i,h1,h2,h3⟩
  have:i=v:=by omega
  subst this;exact h3
 ·exact fun h=>⟨v,hv,rfl,h⟩
theorem any_take {l:List Txt} {w:Txt} {k:Nat} (h:k<l.length):decide (w∈l.take (k+1))=(decide (w∈l.take k) || (l.getD k [] == w)):=by
 rw [take_snoc [] h,Bool.eq_iff_iff]
 simp only [List.mem_append,List.mem_singleton,decide_eq_true_eq,Bool.or_eq_true,beq_iff_eq]
 exact or_congr Iff.rfl eq_comm
theorem wosF_pk (n:Nat) (hp:List Blk):∀ W:Wds,pkL n hp (wos W)=some (wos W,hp)
 | []=>rfl
 |o::W=>by
  have ih:=wosF_pk n hp W
  have e:pk n hp (wo o)=some (wo o,hp):=by cases o<;>rfl
  show pkL n hp (wo o::wos W)=some (wo o::wos W,hp)
  simp only [pkL,e,Option.bind_some,ih,Option.map_some]
theorem wosF_pkset {n id:Nat} {hp:List Blk} (hn:n≤id):∀ {W:Wds} {u:Nat} {l:List Txt},u<W.length→W.getD u none=some l→hp[id]? = some (.row false (strs l))→pkL n hp ((wos W).set u (.own 1 id))=some (wos W,hp.set id .dead)
 | [],_,_,h,_,_=>by simp at h
 |o::W,0,l,_,e,hb=>by
  have e2:o=some l:=e
  subst e2
  show pkL n hp (.own 1 id::wos W)=some (wo (some l)::wos W,_)
  have hnl:¬ id<n:=by omega
  simp only [pkL,pk,if_neg hnl,hb,strs_noid,if_true,Option.bind_some,wosF_pk,Option.map_some]
  rfl
 |o::W,u+1,l,h,e,hb=>by
  have ih:=wosF_pkset hn (W:=W) (u:=u) (l:=l) (by simpa using h) (by simpa using e) hb
  have ex:pk n hp (wo o)=some (wo o,hp):=by cases o<;>rfl
  show pkL n hp (wo o::(wos W).set u (.own 1 id))=some (wo o::wos W,_)
  simp only [pkL,ex,Option.bind_some,ih,Option.map_some]
theorem allF_setno {p:AV→Bool} {x:AV} (hx:x.allv p=false):∀ {cs:List AV} {u:Nat},u<cs.length→allL p (cs.set u x)=false
 | [],_,h=>by simp at h
 |c::cs,0,_=>by simp [allL,hx]
 |c::cs,u+1,h=>by simp [allL,allF_setno hx (cs:=cs) (u:=u) (by simpa using h)]
theorem wosF_cut {W:Wds} {i:Nat} {l:List Txt} (h:i<W.length) (e:W.getD i none=some l):((wos W).drop i).take 1=[.vec 1 (strs l)]:=by
 rw [List.getD_eq_getElem?_getD,List.getElem?_eq_getElem h] at e
 simp only [Option.getD_some] at e
 rw [wos,←List.map_drop,List.drop_eq_getElem_cons h,e];rfl
def foB (g0:Gr) (n:Int) (B4 B5:Blk) (P:List Po) (p:List Int):List Blk:=[.row false [.int .i64 g0.n,.sl 2 (prs g0.E),.sl 1 (wcs g0.W)],.dead,.dead,.row false [.int .i64 n,.own 2 4,.own 1 5],B4,B5,.row false (poS P),.row false (ints p)]
def foS (g0:Gr) (w:Txt) (n:Int) (B4 B5:Blk) (P:List Po) (p:List Int) (v:Nat):St:=⟨[(1,.str w),(5,.ref 3 0),(7,.own 2 6),(8,.int .i64 0),(9,.own 1 7),(10,.int .i64 (v:Int))],foB g0 n B4 B5 P p,0,[(0,8,[1,5,7,8,9,10],[(5,3),(7,6),(9,7)])]⟩
def foI (g0:Gr) (w:Txt) (n:Int) (B4 B5:Blk) (P:List Po) (p:List Int) (v:Nat) (l:List Txt) (k:Nat):St:=⟨[(1,.str w),(5,.ref 3 0),(7,.own 2 6),(8,.int .i64 0),(9,.own 1 7),(10,.int .i64 (v:Int)),(11,.bool (decide (w∈l.take k))),(12,.int .i64 (k:Int))],foB g0 n B4 B5 P p,0,[(1,8,[1,5,7,8,9,10,11,12],[(5,3),(7,6),(9,7)]),(0,8,[1,5,7,8,9,10],[(5,3),(7,6),(9,7)])]⟩
theorem fo_frozen {g0:Gr} {w:Txt} {n:Int} {E:List Ed} {W:Wds} {P:List Po} {p:List Int} (hE:E.length≤2100) (hW:W.length≤250) (hn:n=W.length) (hp:p.length≤1000000) {v:Nat} (hv:v<W.length) {l:List Txt} (hl:W.getD v none=some l) (hl8:l.length≤1000) (hm:((v:Int)∈p)↔w∈l):Ev tabM d1551_b0 (foS g0 w n (.row true (prs E)) (.row true (wcs W)) P p v) (fun x st=>x=.normal∧st=foS g0 w n (.row true (prs E)) (.row true (wcs W)) P p (v+1)):=by
 subst hn
 have gi:=up (qin_run (l:=p) (x:=(v:Int)) hp)
 rw [decide_eq_decide.2 hm] at gi
 have L:=strs_length l
 have Lp:=ints_length p
 have e:=wcs_at hv
 rw [hl] at e
 simp only [wc] at e
 unfold foS foB
 simp (disch:=omega) only [go_sem,d1551_b0]
 refine Ev_loop0 (foI g0 w W.length (.row true (prs E)) (.row true (wcs W)) P p v l) l.length (by simp [foI,foB]) (fun k hk=>?_) ?_
 ·have e2:=strs_rdc hk
  have at_:=any_take (w:=w) hk
  unfold foI foB
  rw [at_]
  cases hb:decide (w∈l.take k) with
  |true=>simp (disch:=omega) only [go_sem,d1551_b1,L,e2,e,Bool.true_or]
  |false=>
   generalize hq:(l.getD k [] == w)=b at *
   cases b<;>simp (disch:=omega) only [go_sem,d1551_b1,L,e2,hq,e,Bool.false_or]
 ·unfold foI foB
  rw [List.take_length]
  generalize decide (w∈l)=b at *
  cases b<;>simp (disch:=omega) only [go_sem,d1551_b1,L,gi,Lp,e]
theorem fo_open {g0:Gr} {w:Txt} {n:Int} {E:List Ed} {W:Wds} {P:List Po} {p:List Int} (hE:E.length≤2100) (hW:W.length≤250) (hn:n=W.length) (hp:p.length≤1000000) {v:Nat} (hv:v<W.length) {l:List Txt} (hl:W.getD v none=some l) (hl8:l.length≤1000) (hm:((v:Int)∈p)↔w∈l):Ev tabM d1551_b0 (foS g0 w n (.row false (prs E)) (.row false (wos W)) P p v) (fun x st=>x=.normal∧st=foS g0 w n (.row false (prs E)) (.row false (wos W)) P p (v+1)):=by
 subst hn
 have gi:=up (qin_run (l:=p) (x:=(v:Int)) hp)
 rw [decide_eq_decide.2 hm] at gi
 have L:=strs_length l
 have Lp:=ints_length p
 have c1:=wosF_cut hv hl
 have m1:=wos_len W
 have er:=set_rdc (l:=wos W) (u:=v) (x:=.own 1 8) (by omega)
 have i8:=allF_setno (p:=pidlt 8) (x:=.own 1 8) (by rfl) (cs:=wos W) (u:=v) (by omega)
 have pk8:=wosF_pkset (n:=8) (id:=8) (hp:=[.row false [.int .i64 g0.n,.sl 2 (prs g0.E),.sl 1 (wcs g0.W)],.dead,.dead,.row false [.int .i64 (W.length:Int),.own 2 4,.own 1 5],.row false (prs E),.dead,.row false (poS P),.row false (ints p),.row false (strs l)]) (by omega) hv hl rfl
 unfold foS foB
 simp (disch:=omega) only [go_sem,d1551_b0]
 refine Ev_loop0 (foI g0 w W.length (.row false (prs E)) (.row false (wos W)) P p v l) l.length (by simp [foI,foB]) (fun k hk=>?_) ?_
 ·have e2:=strs_rdc hk
  have at_:=any_take (w:=w) hk
  unfold foI foB
  rw [at_]
  cases hb:decide (w∈l.take k) with
  |true=>simp (disch:=omega) only [go_sem,d1551_b1,L,e2,c1,m1,er,i8,pk8,List.length_set,Bool.true_or]
  |false=>
   generalize hq:(l.getD k [] == w)=b at *
   cases b<;>simp (disch:=omega) only [go_sem,d1551_b1,L,e2,hq,c1,m1,er,i8,pk8,List.length_set,Bool.false_or]
 ·unfold foI foB
  rw [List.take_length]
  generalize decide (w∈l)=b at *
  cases b<;>simp (disch:=omega) only [go_sem,d1551_b1,L,gi,Lp,c1,m1,er,i8,pk8,List.length_set]
theorem finds_law {g:Gr} {w:Txt} (hf:gFit g) (h63:w.length≤9223372036854775807):runP tabM 1551 [.agg (gS g),.str w] []=some (.bool true,[]):=by
 refine runP_fn (show tabM 1551=_ from t1551) rfl ?_
 have gb:=up (bigG_run hf)
 have gp:=posted_run
 cases hb:bigB g with
 |true=>
  rw [hb] at gb
  simp only [gS] at gb
  simp (disch:=omega) only [go_sem,d1551,gS,gb]
 |false=>
  rw [hb] at gb
  by_cases hw:w.length≤60
  case neg=>
   simp only [gS] at gb
   simp (disch:=omega) only [go_sem,d1551,gS,gb]
  have hg:=bigB_ok hf hb
  have gn:=up (norm_run hg)
  rw [nrmA_eq] at gn
  have ht:=tG_ok hg
  have hl1:=ht.w
  have hl2:=ht.e
  unfold codeA at gn
  by_cases hk:okB g=true
  ·have hi:isB (tG g)=true:=by rw [tG_isB];exact hk
   rw [if_pos hk] at gn
   have gm:=pmake_run ht hi
   have oW:=postP_okW ht
   have oG':=isB_gOk hi
   have oC:=post_okC oG'
   have pf:=fun w=>post_find (ps:=pfx (tG g).W (tG g).W.length) w
   have fm:=fun v (hv:v<(tG g).W.length)=>find_mem (g:=tG g) w hv
   have h5:=kyP_len5 ht (Nat.le_refl _)
   have hpl:=plc_len (pfx (tG g).W (tG g).W.length) w
   have hPw:∀ q∈postP (pfx (tG g).W (tG g).W.length),q.1.length≤1000000:=fun q hq=>by
    obtain ⟨i,hi',rfl⟩:=mem_getD (d:=default) hq
    have:=(oC.2 i hi').1.1
    simp only [wordB,Bool.and_eq_true,decide_eq_true_eq] at this
    omega
   have gc:=up (pcheck_run (n:=(tG g).n) ht.n oW hPw)
   rw [decide_eq_true oC] at gc
   have oW1:=oW.1
   have oW2:=oW.2
   have gq:=up (pfind_run (P:=postP (pfx (tG g).W (tG g).W.length)) (w:=w) (by omega) (fun q hq=>by have:=oW2 q hq;omega))
   rw [post_find] at gq
   have Lq:=poS_len (postP (pfx (tG g).W (tG g).W.length))
   have hn:=oG'.l
   obtain ⟨V,hV⟩:=tG_W g
   have hr:=ht.r
   simp only [gS,gV] at gb gn gm
   generalize hP:postP (pfx (tG g).W (tG g).W.length)=P at *
   generalize hp:plc (pfx (tG g).W (tG g).W.length) w=p at *
   have Lp:=ints_length p
   have row:∀ v,v<(tG g).W.length→∃ l,(tG g).W.getD v none=some l∧l.length≤1000∧(((v:Int)∈p)↔w∈l):=fun v hv=>by
    have h1:=fm v hv
    have h2:=hr v hv
    unfold Gr.w at h1 h2
    rw [hV] at h1 h2 hv ⊢
    simp only [List.length_map] at hv
    have e:(V.map some).getD v none=some (V.getD v []):=by
     rw [List.getD_eq_getElem?_getD,List.getElem?_map,List.getD_eq_getElem?_getD,List.getElem?_eq_getElem hv];rfl
    rw [e] at h1 h2 ⊢
    exact ⟨_,rfl,by simp only [Option.getD_some] at h2;omega,h1⟩
   have hps:(pfx (tG g).W (tG g).W.length).length≤1000000:=by omega
   clear hV hr fm pf oC oW oG' hPw h5 ht hP hp hi hk hf hg
   generalize tG g=T at *
   obtain ⟨n1,E1,W1⟩:=T
   simp only at *
   cases hc:allL pnoimm (poS P) with
   |true=>
    simp (disch:=omega) only [go_sem,d1551,gS,gb,gp,gn,gm,Lq,gq,hc,Lp]
    refine Ev_loop0 (foS g w n1 (.row false (prs E1)) (.row false (wos W1)) P p) W1.length (by simp [foS,foB]) (fun v hv=>?_) ?_
    ·obtain ⟨l,r1,r2,r3⟩:=row v hv
     exact fo_open hl2 hl1 hn.symm (by omega) hv r1 r2 r3
    ·unfold foS foB
     simp (disch:=omega) only [go_sem,d1551_b0,gp,gc,Lq,Lp]
   |false=>
    simp (disch:=omega) only [go_sem,d1551,gS,gb,gp,gn,gm,Lq,gq,hc,Lp]
    refine Ev_loop0 (foS g w n1 (.row true (prs E1)) (.row true (wcs W1)) P p) W1.length (by simp [foS,foB]) (fun v hv=>?_) ?_
    ·obtain ⟨l,r1,r2,r3⟩:=row v hv
     exact fo_frozen hl2 hl1 hn.symm (by omega) hv r1 r2 r3
    ·unfold foS foB
     simp (disch:=omega) only [go_sem,d1551_b0,gp,gc,Lq,Lp]
  ·rw [if_neg hk] at gn
   have gm:=pmake_no ht (by rw [tG_isB];simpa using hk)
   clear hf hg ht
   generalize tG g=T at *
   obtain ⟨n1,E1,W1⟩:=T
   simp only [gS,gV] at gb gn gm hl1 hl2
   simp (disch:=omega) only [go_sem,d1551,gS,gb,gp,gn,gm]
end Go.Proofs.YtmckpijdjoifoaaGreat
