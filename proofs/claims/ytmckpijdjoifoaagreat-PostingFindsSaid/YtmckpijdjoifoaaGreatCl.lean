import Derived.Test.YtmckpijdjoifoaaGreatCf
import Derived.Test.YtmckpijdjoifoaaGreatGn
import Derived.Test.YtmckpijdjoifoaaGreatCb
namespace Go.Proofs.YtmckpijdjoifoaaGreat
set_option linter.unusedSimpArgs false
set_option linter.unusedVariables false
set_option maxHeartbeats 4000000
set_option maxRecDepth 100000
def ddS (l:List Txt):List Txt:=l.foldl (fun a x=>if x∈a then a else a++[x]) []
theorem ddS_snoc (l:List Txt) (x:Txt):ddS (l++[x])=if x∈ddS l then ddS l else ddS l++[x]:=by unfold ddS;rw [List.foldl_append];rfl
theorem ddS_mem (l:List Txt) (x:Txt):x∈ddS l↔x∈l:=by
 refine snocInd (p:=fun l=>x∈ddS l↔x∈l) (by simp [ddS]) (fun l y ih=>?_) l
 ·rw [ddS_snoc]
  by_cases h:y∈ddS l
  ·rw [if_pos h,List.mem_append,List.mem_singleton,ih]
   constructor
   ·exact .inl
   ·rintro (h1 | rfl)
    ·exact h1
    ·exact ih.1 h
  ·rw [if_neg h,List.mem_append,List.mem_append,ih]
theorem ddS_len (l:List Txt):(ddS l).length≤l.length:=by
 refine snocInd (p:=fun l=>(ddS l).length≤l.length) (by simp [ddS]) (fun l y ih=>?_) l
 ·rw [ddS_snoc]
  split
  ·simp;omega
  ·simp;omega
theorem ddS_nodup (l:List Txt):(ddS l).Nodup:=by
 refine snocInd (p:=fun l=>(ddS l).Nodup) (by simp [ddS]) (fun l y ih=>?_) l
 ·rw [ddS_snoc]
  split
  ·exact ih
  ·rename_i h
   rw [List.nodup_append]
   refine ⟨ih,by simp,fun a ha b hb=>?_⟩
   rw [List.mem_singleton] at hb
   subst hb
   exact fun e=>h (e ▸ ha)
abbrev Pr:=Txt × Int
def plc (ps:List Pr) (w:Txt):List Int:=(ps.filter fun p=>decide (p.1=w)).map (·.2)
def kyP (ps:List Pr):List Txt:=ddS (ps.map (·.1))
def vlP (ps:List Pr):List AV:=(kyP ps).map fun w=>.vec 1 (ints (plc ps w))
def vlS (ps:List Pr):List AV:=(kyP ps).map fun w=>.sl 1 (ints (plc ps w))
theorem plc_snoc (ps:List Pr) (w w':Txt) (v:Int):plc (ps++[(w,v)]) w'=if w=w' then plc ps w'++[v] else plc ps w':=by
 unfold plc
 rw [List.filter_append,List.map_append]
 by_cases h:w=w'
 ·rw [if_pos h,List.filter_cons_of_pos (by simpa using h)];rfl
 ·rw [if_neg h,List.filter_cons_of_neg (by simpa using h)];simp
theorem plc_len (ps:List Pr) (w:Txt):(plc ps w).length≤ps.length:=by
 unfold plc;rw [List.length_map];exact List.length_filter_le _ _
theorem kyP_mem (ps:List Pr) (w:Txt):w∈kyP ps↔∃ v,(w,v)∈ps:=by
 unfold kyP;rw [ddS_mem];simp
theorem plc_nil {ps:List Pr} {w:Txt} (h:w ∉ kyP ps):plc ps w=[]:=by
 unfold plc
 rw [List.filter_eq_nil_iff.2,List.map_nil]
 intro p hp
 simp only [decide_eq_true_eq]
 exact fun e=>h ((kyP_mem ps w).2 ⟨p.2,by rw [←e];exact hp⟩)
theorem kyP_len (ps:List Pr):(kyP ps).length≤ps.length:=by
 have:=ddS_len (ps.map (·.1));rw [List.length_map] at this;exact this
theorem vlP_len (ps:List Pr):(vlP ps).length=(kyP ps).length:=by simp [vlP]
theorem vlS_len (ps:List Pr):(vlS ps).length=(kyP ps).length:=by simp [vlS]
theorem kyP_snoc (ps:List Pr) (w:Txt) (v:Int):kyP (ps++[(w,v)])=if w∈kyP ps then kyP ps else kyP ps++[w]:=by
 unfold kyP;rw [List.map_append];exact ddS_snoc _ _
theorem kyP_nodup (ps:List Pr):(kyP ps).Nodup:=ddS_nodup _
theorem kyP_ix {ps:List Pr} {w:Txt} (h:w∈kyP ps):∃ j,j<(kyP ps).length∧(kyP ps).getD j []=w∧kget 2 (.str w) (strs (kyP ps))=some (some j):=by
 obtain ⟨j,hj,e⟩:=List.mem_iff_getElem.1 h
 have e':(kyP ps).getD j []=w:=by rw [List.getD_eq_getElem?_getD,List.getElem?_eq_getElem hj];exact e
 exact ⟨j,hj,e',kget_sin (kyP_nodup ps) hj e'⟩
theorem vlP_in {ps:List Pr} {w:Txt} {v:Int} {j:Nat} (h:w∈kyP ps) (hj:j<(kyP ps).length) (e:(kyP ps).getD j []=w):vlP (ps++[(w,v)])=(vlP ps).set j (.vec 1 (ints (plc ps w++[v]))):=by
 have e':(kyP ps)[j]=w:=by rw [List.getD_eq_getElem?_getD,List.getElem?_eq_getElem hj] at e;exact e
 unfold vlP
 rw [kyP_snoc,if_pos h]
 refine List.ext_getElem (by simp) fun i h1 h2=>?_
 rw [List.getElem_set]
 simp only [List.getElem_map,plc_snoc]
 rw [List.length_map] at h1
 by_cases hij:j=i
 ·subst hij
  rw [if_pos rfl,if_pos e'.symm,e']
 ·rw [if_neg hij,if_neg]
  intro hh
  exact hij ((List.getElem_inj (kyP_nodup ps) (h₀:=hj) (h₁:=h1)).1 (e'.trans hh))
theorem vlP_out {ps:List Pr} {w:Txt} {v:Int} (h:w ∉ kyP ps):vlP (ps++[(w,v)])=vlP ps++[.vec 1 (ints [v])]:=by
 unfold vlP
 rw [kyP_snoc,if_neg h,List.map_append,List.map_cons,List.map_nil,plc_snoc,if_pos rfl,plc_nil h]
 congr 1
 refine List.map_congr_left fun x hx=>?_
 rw [plc_snoc,if_neg (fun e=>h (by rw [e];exact hx))]
theorem vlP_at {ps:List Pr} {j:Nat} (hj:j<(kyP ps).length):(vlP ps)[j]? = some (.vec 1 (ints (plc ps ((kyP ps).getD j [])))):=by
 unfold vlP;rw [List.getElem?_map,List.getElem?_eq_getElem hj,List.getD_eq_getElem?_getD,List.getElem?_eq_getElem hj];rfl
theorem vlS_at {ps:List Pr} {j:Nat} (hj:j<(kyP ps).length):(vlS ps)[j]? = some (.sl 1 (ints (plc ps ((kyP ps).getD j [])))):=by
 unfold vlS;rw [List.getElem?_map,List.getElem?_eq_getElem hj,List.getD_eq_getElem?_getD,List.getElem?_eq_getElem hj];rfl
theorem vl_all {p:AV→Bool} (f:Txt→List Int) (c:List AV→AV) (h:∀ w,AV.allv p (c (ints (f w)))=true):∀ ks:List Txt,allL p (ks.map fun w=>c (ints (f w)))=true
 | []=>rfl
 |k::ks=>by simp only [List.map_cons,allL,h,vl_all f c h ks,Bool.and_self]
theorem vlP_noid' (ps:List Pr):allL pnoid (vlP ps)=true:=vl_all (plc ps) (.vec 1) (fun w=>by simp [AV.allv,pnoid,ints_noid']) _
theorem vlS_noid' (ps:List Pr):allL pnoid (vlS ps)=true:=vl_all (plc ps) (.sl 1) (fun w=>by simp [AV.allv,pnoid,ints_noid']) _
theorem vlP_idlt' (n:Nat) (ps:List Pr):allL (pidlt n) (vlP ps)=true:=idltL_noid _ (vlP_noid' ps)
theorem vlS_idlt' (n:Nat) (ps:List Pr):allL (pidlt n) (vlS ps)=true:=idltL_noid _ (vlS_noid' ps)
theorem vlP_ren' (f:Nat→Nat) (ps:List Pr):mapL (ren1 f) (vlP ps)=vlP ps:=renL_noid _ (vlP_noid' ps)
theorem vlS_ren' (f:Nat→Nat) (ps:List Pr):mapL (ren1 f) (vlS ps)=vlS ps:=renL_noid _ (vlS_noid' ps)
theorem vlP_frz' (ps:List Pr):mapL frz1 (vlP ps)=vlS ps:=by
 unfold vlP vlS
 generalize kyP ps=ks
 induction ks with
 |nil=>rfl
 |cons k ks ih=>simp only [List.map_cons,mapL,AV.mapv,frz1,ints_frz',ih]
attribute [go_sem] vlP_len vlS_len vlP_noid' vlS_noid' vlP_idlt' vlS_idlt' vlP_ren' vlS_ren' vlP_frz'
def pfx (W:Wds):Nat→List Pr
 |0=>[]
 |n+1=>pfx W n++((W.getD n none).getD []).map fun w=>(w,(n:Int))
theorem pfx_len {W:Wds} {m:Nat} (h:∀ i,i<W.length→((W.getD i none).getD []).length≤m):∀ n,n≤W.length→(pfx W n).length≤n*m
 |0,_=>by simp [pfx]
 |n+1,hn=>by
  have h1:=pfx_len h n (by omega)
  have h2:=h n (by omega)
  rw [pfx,List.length_append,List.length_map,Nat.succ_mul];omega
def postP (ps:List Pr):List Po:=(sorted ltS (kyP ps)).map fun w=>(w,plc ps w)
def mpB (ps:List Pr):Blk:=.mp (strs (kyP ps)) (vlP ps)
def gT (s:Nat) (g:Gr):List AV:=[.int .i64 g.n,.sl s (prs g.E),.sl 1 (wcs g.W)]
def pmI (s:Nat) (g:Gr) (ws:List Txt) (v k:Nat) (ps:List Pr):St:=⟨[(4,.mref 1),(5,.int .i64 (v:Int)),(17,.sl 1 (wcs g.W)),(18,.int .i64 g.W.length),(19,.int .i64 (v:Int)),(24,.sl 1 (strs ws)),(25,.int .i64 ws.length),(26,.int .i64 (k:Int))],[.row false (gT s g),mpB ps],0,[(1,2,[4,5,17,18,19,24,25,26],[(4,1)]),(0,2,[4,17,18,19],[(4,1)])]⟩
theorem pm_step {s:Nat} {g:Gr} {ws:List Txt} {v k:Nat} {ps:List Pr} (hk:k<ws.length) (hw:ws.length≤20) (hv:v<250) (hp:ps.length≤10000):Ev tabM d1552_b1 (pmI s g ws v k ps) (fun x st=>x=.normal∧st=pmI s g ws v (k+1) (ps++[(ws.getD k [],(v:Int))])):=by
 have e1:=strs_rdc hk
 have L:=strs_length ws
 unfold pmI mpB
 by_cases h:ws.getD k []∈kyP ps
 ·obtain ⟨j,hj,e,hg⟩:=kyP_ix h
  have hat:=vlP_at hj
  rw [e] at hat
  have Lp:=ints_length (plc ps (ws.getD k []))
  have lp:=plc_len ps (ws.getD k [])
  have hi:=vlP_idlt' 2 (ps++[(ws.getD k [],(v:Int))])
  rw [vlP_in h hj e] at hi
  rw [kyP_snoc,if_pos h,vlP_in h hj e]
  simp (disch:=omega) only [go_sem,d1552_b1,e1,L,hg,hat,Lp,gT,List.set_set,hi]
 ·have hg:=kget_sout h
  rw [kyP_snoc,if_neg h,vlP_out h]
  simp (disch:=omega) only [go_sem,d1552_b1,e1,L,hg,gT,strs_snoc]
  rfl
def pmS (s:Nat) (g:Gr) (v:Nat) (ps:List Pr):St:=⟨[(4,.mref 1),(17,.sl 1 (wcs g.W)),(18,.int .i64 g.W.length),(19,.int .i64 (v:Int))],[.row false (gT s g),mpB ps],0,[(0,2,[4,17,18,19],[(4,1)])]⟩
theorem map_snoc (ws:List Txt) (v:Int) {k:Nat} (hk:k<ws.length):((ws.take (k+1)).map fun w=>(w,v))=((ws.take k).map fun w=>(w,v))++[(ws.getD k [],v)]:=by
 rw [take_snoc [] hk,List.map_append];rfl
theorem pm_row {s:Nat} {g:Gr} (hg:okG g) {v:Nat} (hv:v<g.W.length) (hp:(pfx g.W v).length≤5000):Ev tabM d1552_b0 (pmS s g v (pfx g.W v)) (fun x st=>x=.normal∧st=pmS s g (v+1) (pfx g.W (v+1))):=by
 have lw:=hg.w
 have e1:=wcs_at hv
 have Lw:=wcs_len g.W
 have hr:=hg.r v hv
 unfold Gr.w at hr
 unfold pmS mpB
 rw [pfx]
 cases hx:g.W.getD v none with
 |none=>
  rw [hx,wc] at e1
  simp (disch:=omega) only [go_sem,d1552_b0,e1,Lw,gT]
  refine Ev_stop ?_
  simp (disch:=omega) only [go_sem,d1552_b1,Lw]
 |some ws=>
  rw [hx,wc] at e1
  rw [hx] at hr
  have hr:ws.length≤20:=hr
  have L:=strs_length ws
  simp (disch:=omega) only [go_sem,d1552_b0,e1,Lw,L,gT]
  refine Ev_loop0 (fun k=>pmI s g ws v k (pfx g.W v++(ws.take k).map fun w=>(w,(v:Int)))) ws.length ?_ (fun k hk=>?_) ?_
  ·rw [List.take_zero,List.map_nil,List.append_nil];rfl
  ·rw [map_snoc ws v hk,←List.append_assoc]
   exact pm_step hk hr (by omega) (by simp;omega)
  ·unfold pmI mpB
   rw [List.take_length]
   simp (disch:=omega) only [go_sem,d1552_b1,Lw,L,gT]
theorem kyP_len5 {g:Gr} (hg:okG g) {n:Nat} (hn:n≤g.W.length):(pfx g.W n).length≤5000:=by
 have hl:=pfx_len (W:=g.W) (m:=20) (fun i hi=>hg.r i hi) n hn
 have lw:=hg.w
 omega
theorem pmake_gen {s:Nat} {g:Gr} (hg:okG g) (gi:runP tabM 1208 [.agg (gT s g)] []=some (.bool true,[])):runP tabM 1552 [.agg (gT s g)] []=some (.tup [.vec 2 (poS (postP (pfx g.W g.W.length))),.int .i64 0],[]):=by
 refine runP_fn (show tabM 1552=_ from t1552) rfl ?_
 unfold gT at gi
 have lw:=hg.w
 have Lw:=wcs_len g.W
 simp (disch:=omega) only [go_sem,d1552,gT,gi]
 refine Ev_loop0 (fun v=>pmS s g v (pfx g.W v)) g.W.length rfl (fun v hv=>pm_row hg hv (kyP_len5 hg (Nat.le_of_lt hv))) ?_
 have hps:=kyP_len5 hg (Nat.le_refl _)
 generalize pfx g.W g.W.length=ps at *
 have hk:=kyP_len ps
 unfold pmS mpB
 simp (disch:=omega) only [go_sem,d1552_b0,Lw,gT]
 refine EvO_all (EvC_fn (show tabM 1557=_ from t1557) rfl ?_)
 simp (disch:=omega) only [go_sem,d1557,alQ]
 have hlt:([.row false [.int .i64 g.n,.sl s (prs g.E),.sl 1 (wcs g.W)],.mp (strs (kyP ps)) (vlP ps),.row false [.mref 1]]:List Blk).all (fun x=>x.idlt 3)=true:=by
  have h1:idltL 3 [AV.int .i64 g.n,.sl s (prs g.E),.sl 1 (wcs g.W)]=true:=by
   have a:=prs_idlt' 3 g.E
   have b:=wcs_idlt' 3 g.W
   simp [idltL,allL,AV.allv,pidlt,a,b]
  have h2:idltL 3 (strs (kyP ps))=true:=strs_idlt' _ _
  have h3:idltL 3 (vlP ps)=true:=vlP_idlt' _ _
  simp [Blk.idlt,h1,h2,h3]
  rfl
 refine EvO_all (EvC_orc m1556 (gSorted_eq (b:=2) (id:=1) (fr:=false) (l:=kyP ps) (vs:=vlP ps) ⟨rfl,rfl,rfl,hlt,by omega,vlP_len ps⟩) ?_)
 simp (disch:=omega) only [go_sem,alQ]
 have hsl:=sorted_len (lt:=ltS) (kyP ps)
 have hmem:∀ i,i<(sorted ltS (kyP ps)).length→(sorted ltS (kyP ps)).getD i []∈kyP ps:=fun i hi=>((sorted_perm (lt:=ltS) (kyP ps)).mem_iff).1 (getD_mem' hi)
 unfold postP
 generalize sorted ltS (kyP ps)=S at *
 have LS:=strs_length S
 refine Ev_loop0 (fun j=>⟨[(4,.mref 1),(9,.own 2 4),(42,.own 1 3),(43,.int .i64 S.length),(44,.int .i64 (j:Int))],[.row false [.int .i64 g.n,.sl s (prs g.E),.sl 1 (wcs g.W)],.mp (strs (kyP ps)) (vlS ps),.row false [.mref 1],.row false (strs S),.row false (poS ((S.take j).map fun w=>(w,plc ps w)))],0,[(2,5,[4,9,42,43,44],[(4,1),(9,4),(42,3)]),(0,2,[4,17,18,19],[(4,1)])]⟩) S.length rfl (fun j hj=>?_) ?_
 ·obtain ⟨m,hm,em,hg⟩:=kyP_ix (hmem j hj)
  have e1:=strs_rdc hj
  have hat:=vlS_at hm
  rw [em] at hat
  have et:((S.take (j+1)).map fun w=>(w,plc ps w))=((S.take j).map fun w=>(w,plc ps w))++[(S.getD j [],plc ps (S.getD j []))]:=by rw [take_snoc [] hj,List.map_append];rfl
  have Lq:=poS_len ((S.take j).map fun w=>(w,plc ps w))
  have Ln:((S.take j).map fun w=>(w,plc ps w)).length=j:=by simp;omega
  have Lp:=ints_length (plc ps (S.getD j []))
  have lp:=plc_len ps (S.getD j [])
  rw [et,←poS_app]
  generalize ((S.take j).map fun w=>(w,plc ps w))=Q at *
  simp (disch:=omega) only [go_sem,d1552_b2,LS,e1,hg,hat,Lq,Ln,Lp]
  rfl
 ·rw [List.take_length]
  simp (disch:=omega) only [go_sem,d1552_b2,LS]
theorem pmake_run {g:Gr} (hg:okG g) (hi:isB g=true):runP tabM 1552 [.agg (gS g)] []=some (.tup [.vec 2 (poS (postP (pfx g.W g.W.length))),.int .i64 0],[]):=by
 have gi:=up (isg_run hg)
 rw [hi] at gi
 exact pmake_gen (s:=2) hg gi
theorem pmake_no {g:Gr} (hg:okG g) (hi:isB g=false):runP tabM 1552 [.agg (gS g)] []=some (.tup [.vec 2 [],.int .i64 20],[]):=by
 refine runP_fn (show tabM 1552=_ from t1552) rfl ?_
 have gi:=up (isg_run hg)
 rw [hi] at gi
 unfold gS at gi
 simp (disch:=omega) only [go_sem,d1552,gS,gi]
theorem nrm_rising (l:List Int):nrmL ltI l=rising l:=by
 refine inc_ext ?_ (rising_inc l) fun x=>by rw [nrm_mem ordrI,rising_mem]
 exact (nrm_asc ordrI l).imp fun h=>by simpa [ltI] using h
theorem qin_run {l:List Int} {x:Int} (hl:l.length≤1000000):runP tab 1020 [.sl 1 (ints l),.int .i64 x] []=some (.bool (decide (x∈l)),[]):=by
 refine runP_fn t1020 rfl ?_
 simp (disch:=omega) only [go_sem,d1020]
 rcases first_ix' (fun i=>l.getD i 0≠x) l.length with h | ⟨k,h1,h2,h3⟩
 ·rw [show decide (x∈l)=false by
   rw [decide_eq_false_iff_not,memI];rintro ⟨i,hi,e⟩;exact h i hi e]
  refine Ev_loop0 (fun i=>⟨[(0,.sl 1 (ints l)),(1,.int .i64 x),(5,.int .i64 (i:Int))],[],0,[(0,0,[0,1,5],[])]⟩) l.length rfl (fun i hi=>?_) ?_
  ·have:=h i (by omega)
   simp (disch:=omega) only [go_sem,d1020_b0]
  ·simp (disch:=omega) only [go_sem,d1020_b0]
 ·have h3:l.getD k 0=x:=by simpa using h3
  rw [show decide (x∈l)=true by rw [decide_eq_true_eq,memI];exact ⟨k,h1,h3⟩]
  refine Ev_loop0 (fun i=>⟨[(0,.sl 1 (ints l)),(1,.int .i64 x),(5,.int .i64 (i:Int))],[],0,[(0,0,[0,1,5],[])]⟩) k rfl (fun i hi=>?_) ?_
  ·have:=h2 i (by omega)
   simp (disch:=omega) only [go_sem,d1020_b0]
  ·simp (disch:=omega) only [go_sem,d1020_b0,h3]
theorem anyF_mem {P:List Po} {x:Int}:∀ (ws:List Txt) (t:List Int),x∈ws.foldl (anyF P) t↔x∈t∨∃ w∈ws,x∈findP P w
 | [],t=>by simp
 |w::ws,t=>by
  rw [List.foldl_cons,anyF_mem ws,anyF,nrm_mem ordrI,List.mem_append]
  simp only [List.mem_cons,exists_eq_or_imp,or_assoc]
theorem anyP_asc {P:List Po} (ws:List Txt):(anyP P ws).Pairwise (·<·):=by
 unfold anyP
 rcases List.eq_nil_or_concat ws with rfl | ⟨l,b,rfl⟩
 ·exact .nil
 ·rw [List.concat_eq_append,List.foldl_append,List.foldl_cons,List.foldl_nil,anyF,nrm_rising]
  exact rising_inc _
theorem anyP_mem {P:List Po} {x:Int} (ws:List Txt):x∈anyP P ws↔∃ w∈ws,x∈findP P w:=by
 rw [anyP,anyF_mem];simp
theorem anyP_rising {P:List Po} (ws:List Txt):rising (ws.flatMap (findP P))=anyP P ws:=
 inc_ext (rising_inc _) (anyP_asc ws) fun x=>by rw [rising_mem,anyP_mem,List.mem_flatMap]
theorem risesN_run:runP tab 1215 [.sl 1 [],.agg [.clo 1223 [] []]] []=some (.bool true,[]):=by
 refine runP_fn t1215 rfl ?_
 simp (disch:=omega) only [go_sem,d1215]
 refine Ev_stop ?_
 simp (disch:=omega) only [go_sem,d1215_b0]
theorem isgN_yes {n:Int} {W:Wds} (hg:okG ⟨n,[],W⟩) (h:isB ⟨n,[],W⟩=true):runP tab 1208 [.agg [.int .i64 n,.sl 1 [],.sl 1 (wcs W)]] []=some (.bool true,[]):=by
 refine runP_fn t1208 rfl ?_
 unfold isB at h
 simp only [Bool.and_eq_true] at h
 obtain ⟨h1,_,h2⟩:=h
 have gc:=gck_nil hg
 rw [h1] at gc
 have hw:=hg.w
 simp only at hw
 have gr:=risesN_run
 have b1:=byends_mk
 have b2:=bytext_mk
 have hA:∀ i,i<W.length→asc ltS ((W.getD i none).getD []):=Classical.byContradiction fun hn=>by rw [wAsc_no (g:=⟨n,[],W⟩) hn] at h2;cases h2
 simp (disch:=omega) only [go_sem,d1208,gc,gr,b1]
 refine Ev_loop0 (fun i=>⟨[(16,.sl 1 (wcs W)),(17,.int .i64 W.length),(18,.int .i64 (i:Int))],[.row false [.int .i64 n,.sl 1 [],.sl 1 (wcs W)]],0,[(0,1,[16,17,18],[])]⟩) W.length (by simp) (fun i hi=>?_) ?_
 ·have e:=wcs_at hi
  have gs:=risesS_run (l:=(W.getD i none).getD []) (by have:=hg.r i hi;unfold Gr.w at this;simp only at this;omega)
  rw [ascB_iff.2 (hA i hi)] at gs
  cases hx:W.getD i none with
  |none=>
   rw [hx] at e gs
   simp only [Option.getD_none,strs,List.map_nil] at gs
   simp (disch:=omega) only [go_sem,d1208_b0,e,wc,b2,gs]
  |some l=>
   rw [hx] at e gs
   simp only [Option.getD_some] at gs
   simp (disch:=omega) only [go_sem,d1208_b0,e,wc,b2,gs,strs_noid']
 ·simp (disch:=omega) only [go_sem,d1208_b0]
theorem psame_run {P Q:List Po} (hP:okW P) (hQ:okW Q):runP tab 1560 [.sl 2 (poS P),.sl 2 (poS Q)] []=some (.bool (decide (P=Q)),[]):=by
 refine runP_fn t1560 rfl ?_
 have LP:=poS_len P
 have LQ:=poS_len Q
 have dP:P.length*2 / 2=P.length:=by omega
 have dQ:Q.length*2 / 2=Q.length:=by omega
 have nP:=hP.n
 have nQ:=hQ.n
 by_cases hl:P.length=Q.length
 case neg=>
  rw [decide_eq_false (fun e=>hl (by rw [e]))]
  simp (disch:=omega) only [go_sem,d1560,LP,LQ,dP,dQ,hl]
 simp (disch:=omega) only [go_sem,d1560,LP,LQ,dP,dQ,hl]
 have hst:∀ i,i<P.length→runP tab 1016 [.sl 1 (ints (P.getD i default).2),.sl 1 (ints (Q.getD i default).2)] []=some (.bool ((P.getD i default).2 == (Q.getD i default).2),[]):=fun i hi=>
  ints_run (by have:=hP.r _ (getD_mem' hi);omega) (by have:=hQ.r _ (getD_mem' (show i<Q.length by omega));omega)
 rcases first_ix' (fun i=>P.getD i default=Q.getD i default) P.length with h | ⟨m,m1,m2,m3⟩
 ·rw [decide_eq_true (show P=Q from List.ext_getElem hl fun i h1 h2=>by
   have:=h i h1
   rw [List.getD_eq_getElem?_getD,List.getD_eq_getElem?_getD,List.getElem?_eq_getElem h1,List.getElem?_eq_getElem h2] at this
   exact this)]
  refine Ev_loop0 (fun i=>⟨[(0,.sl 2 (poS P)),(1,.sl 2 (poS Q)),(5,.int .i64 (i:Int))],[],0,[(0,0,[0,1,5],[])]⟩) P.length rfl (fun i hi=>?_) ?_
  ·have hx:=h i hi
   have g:=hst i hi
   have e1:=poS_at1 hi
   have e2:=poS_at2 hi
   have e3:=poS_at1 (P:=Q) (i:=i) (by omega)
   have e4:=poS_at2 (P:=Q) (i:=i) (by omega)
   rw [hx] at g e1 e2
   simp (disch:=omega) only [go_sem,d1560_b0,LP,LQ,dP,dQ,e1,e2,e3,e4,g]
  ·simp (disch:=omega) only [go_sem,d1560_b0,LP,dP]
 ·rw [decide_eq_false (fun e=>m3 (by rw [e]))]
  refine Ev_loop0 (fun i=>⟨[(0,.sl 2 (poS P)),(1,.sl 2 (poS Q)),(5,.int .i64 (i:Int))],[],0,[(0,0,[0,1,5],[])]⟩) m rfl (fun i hi=>?_) ?_
  ·have hx:=m2 i hi
   have g:=hst i (by omega)
   have e1:=poS_at1 (P:=P) (i:=i) (by omega)
   have e2:=poS_at2 (P:=P) (i:=i) (by omega)
   have e3:=poS_at1 (P:=Q) (i:=i) (by omega)
   have e4:=poS_at2 (P:=Q) (i:=i) (by omega)
   rw [hx] at g e1 e2
   simp (disch:=omega) only [go_sem,d1560_b0,LP,LQ,dP,dQ,e1,e2,e3,e4,g]
  ·have g:=hst m m1
   have e1:=poS_at1 m1
   have e2:=poS_at2 m1
   have e3:=poS_at1 (P:=Q) (i:=m) (by omega)
   have e4:=poS_at2 (P:=Q) (i:=m) (by omega)
   by_cases hx:(P.getD m default).1=(Q.getD m default).1
   ·have hy:((P.getD m default).2 == (Q.getD m default).2)=false:=by
     rw [beq_eq_false_iff_ne]
     exact fun e=>m3 (Prod.ext hx e)
    rw [hy] at g
    simp (disch:=omega) only [go_sem,d1560_b0,LP,LQ,dP,dQ,e1,e2,e3,e4,g,hx]
   ·have hy:((P.getD m default).1 == (Q.getD m default).1)=false:=by rw [beq_eq_false_iff_ne];exact hx
    simp (disch:=omega) only [go_sem,d1560_b0,LP,LQ,dP,dQ,e1,e2,e3,e4,hy]
def plOk (n:Int) (l:List Int) (i:Nat):Prop:=(0≤l.getD i 0∧l.getD i 0<n)∧(0<i→l.getD (i - 1) 0<l.getD i 0)
instance (n:Int) (l:List Int) (i:Nat):Decidable (plOk n l i):=by unfold plOk;infer_instance
def okPl (n:Int) (l:List Int):Prop:=(∀ i,i<l.length→plOk n l i)∧0<l.length
instance (n:Int) (l:List Int):Decidable (okPl n l):=by unfold okPl;infer_instance
theorem pplaces_run {n:Int} {l:List Int} (hl:l.length≤1000000):runP tab 1561 [.sl 1 (ints l),.int .i64 n] []=some (.bool (decide (okPl n l)),[]):=by
 refine runP_fn t1561 rfl ?_
 have L:=ints_length l
 have hst:∀ i,i<l.length→plOk n l i→Ev tab d1561_b0 ⟨[(0,.sl 1 (ints l)),(1,.int .i64 n),(7,.sl 1 (ints l)),(8,.int .i64 l.length),(9,.int .i64 (i:Int))],[],0,[(0,0,[0,1,7,8,9],[])]⟩ (fun x st=>x=.normal∧st=⟨[(0,.sl 1 (ints l)),(1,.int .i64 n),(7,.sl 1 (ints l)),(8,.int .i64 l.length),(9,.int .i64 ((i+1:Nat):Int))],[],0,[(0,0,[0,1,7,8,9],[])]⟩):=by
  intro i hi ⟨⟨q1,q2⟩,q3⟩
  have e1:=ints_rdc0 hi
  by_cases h0:0<i
  ·have q3:=q3 h0
   have z:((i:Int) - 1).toNat=i - 1:=by omega
   have e2:=ints_rdc0 (l:=l) (i:=i - 1) (by omega)
   simp (disch:=omega) only [go_sem,d1561_b0,L,e1,e2,z]
  ·simp (disch:=omega) only [go_sem,d1561_b0,L,e1]
 simp (disch:=omega) only [go_sem,d1561,L]
 rcases first_ix' (plOk n l) l.length with h | ⟨m,m1,m2,m3⟩
 ·refine Ev_loop0 (fun i=>⟨[(0,.sl 1 (ints l)),(1,.int .i64 n),(7,.sl 1 (ints l)),(8,.int .i64 l.length),(9,.int .i64 (i:Int))],[],0,[(0,0,[0,1,7,8,9],[])]⟩) l.length rfl (fun i hi=>hst i hi (h i hi)) ?_
  rw [show decide (okPl n l)=decide (0<l.length) from decide_eq_decide.2 ⟨fun h=>h.2,fun h2=>⟨h,h2⟩⟩]
  by_cases h0:0<l.length
  ·rw [decide_eq_true h0]
   simp (disch:=omega) only [go_sem,d1561_b0,L]
  ·rw [decide_eq_false h0]
   simp (disch:=omega) only [go_sem,d1561_b0,L]
 ·rw [decide_eq_false (fun h:okPl n l=>m3 (h.1 m m1))]
  refine Ev_loop0 (fun i=>⟨[(0,.sl 1 (ints l)),(1,.int .i64 n),(7,.sl 1 (ints l)),(8,.int .i64 l.length),(9,.int .i64 (i:Int))],[],0,[(0,0,[0,1,7,8,9],[])]⟩) m rfl (fun i hi=>hst i (by omega) (m2 i hi)) ?_
  have e1:=ints_rdc0 m1
  by_cases c1:0≤l.getD m 0
  case neg=>simp (disch:=omega) only [go_sem,d1561_b0,L,e1]
  by_cases c2:l.getD m 0<n
  case neg=>simp (disch:=omega) only [go_sem,d1561_b0,L,e1]
  have h0:0<m:=Classical.byContradiction fun h0=>m3 ⟨⟨c1,c2⟩,fun h=>absurd h h0⟩
  have c3:¬ l.getD (m - 1) 0<l.getD m 0:=fun h=>m3 ⟨⟨c1,c2⟩,fun _=>h⟩
  have z:((m:Int) - 1).toNat=m - 1:=by omega
  have e2:=ints_rdc0 (l:=l) (i:=m - 1) (by omega)
  simp (disch:=omega) only [go_sem,d1561_b0,L,e1,e2,z]
def poOk (n:Int) (P:List Po) (i:Nat):Prop:=(wordB (P.getD i default).1=true∧(0<i→ltS (P.getD (i - 1) default).1 (P.getD i default).1=true))∧okPl n (P.getD i default).2
instance (n:Int) (P:List Po) (i:Nat):Decidable (poOk n P i):=by unfold poOk;infer_instance
def okC (n:Int) (P:List Po):Prop:=(1≤n∧n≤200)∧∀ i,i<P.length→poOk n P i
instance (n:Int) (P:List Po):Decidable (okC n P):=by unfold okC;infer_instance
theorem pcheck_run {n:Int} {P:List Po} (hn:I64 n) (hP:okW P) (hw:∀ p∈P,p.1.length≤1000000):runP tab 1555 [.sl 2 (poS P),.int .i64 n] []=some (.bool (decide (okC n P)),[]):=by
 refine runP_fn t1555 rfl ?_
 have L:=poS_len P
 have Ld:P.length*2 / 2=P.length:=by omega
 have hn:=hP.n
 by_cases c1:1≤n
 case neg=>
  rw [decide_eq_false (fun h:okC n P=>c1 h.1.1)]
  simp (disch:=omega) only [go_sem,d1555]
 by_cases c2:n≤200
 case neg=>
  rw [decide_eq_false (fun h:okC n P=>c2 h.1.2)]
  simp (disch:=omega) only [go_sem,d1555]
 simp (disch:=omega) only [go_sem,d1555,L,Ld]
 have gw:∀ i,i<P.length→runP tab 1222 [.str (P.getD i default).1] []=some (.bool (wordB (P.getD i default).1),[]):=fun i hi=>word_run (hw _ (getD_mem' hi))
 have gp:∀ i,i<P.length→runP tab 1561 [.sl 1 (ints (P.getD i default).2),.int .i64 n] []=some (.bool (decide (okPl n (P.getD i default).2)),[]):=fun i hi=>pplaces_run (by have:=hP.r _ (getD_mem' hi);omega)
 have hst:∀ i,i<P.length→poOk n P i→Ev tab d1555_b0 ⟨[(0,.sl 2 (poS P)),(1,.int .i64 n),(13,.sl 2 (poS P)),(14,.int .i64 P.length),(15,.int .i64 (i:Int))],[],0,[(0,0,[0,1,13,14,15],[])]⟩ (fun x st=>x=.normal∧st=⟨[(0,.sl 2 (poS P)),(1,.int .i64 n),(13,.sl 2 (poS P)),(14,.int .i64 P.length),(15,.int .i64 ((i+1:Nat):Int))],[],0,[(0,0,[0,1,13,14,15],[])]⟩):=by
  intro i hi ⟨⟨q1,q2⟩,q3⟩
  have e1:=poS_at hi
  have g1:=gw i hi
  have g2:=gp i hi
  rw [q1] at g1
  rw [decide_eq_true q3] at g2
  by_cases h0:0<i
  ·have q2:=q2 h0
   have z:((i:Int) - 1).toNat=i - 1:=by omega
   have e2:=poS_at1 (P:=P) (i:=i - 1) (by omega)
   simp (disch:=omega) only [go_sem,d1555_b0,L,Ld,e1,e2,g1,g2,z,bl_lt,q2]
  ·simp (disch:=omega) only [go_sem,d1555_b0,L,Ld,e1,g1,g2]
 rcases first_ix' (poOk n P) P.length with h | ⟨m,m1,m2,m3⟩
 ·rw [decide_eq_true (show okC n P from ⟨⟨c1,c2⟩,h⟩)]
  refine Ev_loop0 (fun i=>⟨[(0,.sl 2 (poS P)),(1,.int .i64 n),(13,.sl 2 (poS P)),(14,.int .i64 P.length),(15,.int .i64 (i:Int))],[],0,[(0,0,[0,1,13,14,15],[])]⟩) P.length rfl (fun i hi=>hst i hi (h i hi)) ?_
  simp (disch:=omega) only [go_sem,d1555_b0,L,Ld]
 ·rw [decide_eq_false (fun h:okC n P=>m3 (h.2 m m1))]
  refine Ev_loop0 (fun i=>⟨[(0,.sl 2 (poS P)),(1,.int .i64 n),(13,.sl 2 (poS P)),(14,.int .i64 P.length),(15,.int .i64 (i:Int))],[],0,[(0,0,[0,1,13,14,15],[])]⟩) m rfl (fun i hi=>hst i (by omega) (m2 i hi)) ?_
  have e1:=poS_at m1
  have g1:=gw m m1
  have g2:=gp m m1
  cases k1:wordB (P.getD m default).1 with
  |false=>
   rw [k1] at g1
   simp (disch:=omega) only [go_sem,d1555_b0,L,Ld,e1,g1]
  |true=>
   rw [k1] at g1
   by_cases h0:0<m
   ·have z:((m:Int) - 1).toNat=m - 1:=by omega
    have e2:=poS_at1 (P:=P) (i:=m - 1) (by omega)
    cases k2:ltS (P.getD (m - 1) default).1 (P.getD m default).1 with
    |false=>simp (disch:=omega) only [go_sem,d1555_b0,L,Ld,e1,e2,g1,g2,z,bl_lt,k2]
    |true=>
     rw [decide_eq_false (fun h=>m3 ⟨⟨k1,fun _=>k2⟩,h⟩)] at g2
     simp (disch:=omega) only [go_sem,d1555_b0,L,Ld,e1,e2,g1,g2,z,bl_lt,k2]
   ·rw [decide_eq_false (fun h=>m3 ⟨⟨k1,fun h=>absurd h h0⟩,h⟩)] at g2
    simp (disch:=omega) only [go_sem,d1555_b0,L,Ld,e1,g1,g2]
theorem sorted_asc {α:Type} {lt:α→α→Bool} (O:Ordr lt) {l:List α} (h:l.Nodup):asc lt (sorted lt l):=by
 have hn:(sorted lt l).Nodup:=((sorted_perm (lt:=lt) l).nodup_iff).2 h
 have hs:=sorted_srtd O l
 refine (hs.and hn).imp fun {x y} h=>?_
 obtain ⟨h1,h2⟩:=h
 cases hq:lt x y with
 |true=>rfl
 |false=>exact absurd (O.tri x y hq h1) h2
theorem sorted_same {α:Type} {lt:α→α→Bool} (O:Ordr lt) {l:List α} (h:asc lt l) (hn:l.Nodup):sorted lt l=l:=
 asc_ext O (sorted_asc O hn) h fun x=>(sorted_perm (lt:=lt) l).mem_iff
def wantP:List Po:=[([97],[0]),([98],[0,1])]
def wantW:Wds:=[some [[97],[98]],some [[98]]]
theorem want_okP:okP wantP:=⟨by simp [wantP],by simp [wantP]⟩
theorem want_post:postP (pfx wantW 2)=wantP:=by
 have hk:kyP (pfx wantW 2)=[[97],[98]]:=by decide
 unfold postP
 rw [hk,sorted_same ordrS (by simp [asc,ltS];decide) (by decide)]
 decide
theorem want_g:okG ⟨2,[],wantW⟩:=by
 refine ⟨by constructor<;>decide,by simp,by simp [wantW],fun i hi=>?_,fun i hi s hs=>?_⟩
 ·have:i=0∨i=1:=by simp [wantW] at hi;omega
  rcases this with rfl | rfl<;>decide
 ·have:i=0∨i=1:=by simp [wantW] at hi;omega
  rcases this with rfl | rfl
  ·have:s=[97]∨s=[98]:=by simpa [Gr.w,wantW] using hs
   rcases this with rfl | rfl<;>decide
  ·have:s=[98]:=by simpa [Gr.w,wantW] using hs
   subst this;decide
theorem want_is:isB ⟨2,[],wantW⟩=true:=by
 unfold isB
 rw [show okB ⟨2,[],wantW⟩=true by decide,show ascB ltE ([]:List Ed)=true from ascB_iff.2 .nil,wAsc_yes]
 ·rfl
 ·intro i hi
  have:i=0∨i=1:=by simp [wantW] at hi;omega
  rcases this with rfl | rfl
  ·show asc ltS [[97],[98]]
   simp [asc,ltS];decide
  ·show asc ltS [[98]]
   simp [asc]
theorem want_all:allP wantP [[97],[98]]=[0]:=by
 simp only [allP,allF,List.foldl,bothL,nrm_rising]
 decide
theorem want_any:anyP wantP [[97],[98]]=[0,1]:=by
 rw [←anyP_rising];decide
theorem want_no:allP wantP [[99]]=[]:=by
 simp only [allP,allF,List.foldl,bothL,nrm_rising]
 decide
theorem want_c2:decide (okC 2 wantP)=true:=by decide
theorem want_c1:decide (okC 1 wantP)=false:=by decide
theorem posted_run:runP tabM 1553 [] []=some (.bool true,[]):=by
 refine runP_fn (show tabM 1553=_ from t1553) rfl ?_
 have gm:=pmake_gen (s:=1) want_g (up (isgN_yes want_g want_is))
 rw [show (pfx (Gr.W ⟨2,[],wantW⟩) (List.length (Gr.W ⟨2,[],wantW⟩)))=pfx wantW 2 from rfl,want_post] at gm
 have ga:=up (all05_run want_okP (ws:=[[97],[98]]) (by decide))
 rw [want_all,if_neg (by simp)] at ga
 have gy:=up (any05_run want_okP (ws:=[[97],[98]]) (by decide))
 rw [want_any,if_neg (by simp)] at gy
 have gn:=up (all05_run want_okP (ws:=[[99]]) (by decide))
 rw [want_no,if_neg (by simp)] at gn
 have g0:=up (all05_run want_okP (ws:=[]) (by decide))
 rw [show allP wantP []=[] from rfl,if_pos rfl] at g0
 have gs:=up (psame_run want_okP.w want_okP.w)
 rw [decide_eq_true rfl] at gs
 have i1:=up (ints_run (a:=[0]) (b:=[0]) (by decide) (by decide))
 have i2:=up (ints_run (a:=[0,1]) (b:=[0,1]) (by decide) (by decide))
 rw [show ([0]:List Int) == [0] from rfl] at i1
 rw [show ([0,1]:List Int) == [0,1] from rfl] at i2
 have c2:=up (pcheck_run (n:=2) (by constructor<;>decide) want_okP.w (by simp [wantP]))
 have c1:=up (pcheck_run (n:=1) (by constructor<;>decide) want_okP.w (by simp [wantP]))
 rw [want_c2] at c2
 rw [want_c1] at c1
 simp only [gT,prs,wcs,wc,wantW,wantP,poS,strs,ints,List.map_cons,List.map_nil,List.flatMap_nil] at gm ga gy gn g0 gs i1 i2 c1 c2
 simp (disch:=omega) only [go_sem,d1553,gm,ga,gy,gn,g0,gs,i1,i2,c1,c2]
end Go.Proofs.YtmckpijdjoifoaaGreat
