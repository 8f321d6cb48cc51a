import Derived.Test.YtgdfncnpcdafmaaJv
import Derived.Test.YtgdfncnpcdafmaaGr
namespace Go.Proofs.Ytgdfncnpcdafmaa
set_option linter.unusedSimpArgs false
set_option linter.unusedVariables false
set_option maxHeartbeats 4000000
set_option maxRecDepth 100000
def edPc:Nat→List Pic3→List Ed
 | _,[]=>[]
 | v,p::L=>p.1.map (fun w=>((v:Int),w))++edPc (v+1) L
def wdPc (L:List Pic3):Wds:=L.map fun p=>if p.2=[] then none else some p.2
def grPc (L:List Pic3):Gr:=⟨L.length,edPc 0 L,wdPc L⟩
def ptsG (g:Gr):List Pic3:=(List.range g.W.length).map fun v=>(outV g.E v,g.w v)
theorem edP_snoc:∀ (L:List Pic3) (k:Nat) (p:Pic3),edPc k (L++[p])=edPc k L++p.1.map fun w=>(((k+L.length:Nat):Int),w)
 | [],k,p=>by simp [edPc]
 | q::L,k,p=>by
  rw [List.cons_append,edPc,edP_snoc L (k+1) p,edPc,List.append_assoc,List.length_cons,show k+1+L.length=k+(L.length+1) by omega]
theorem wdP_len (L:List Pic3):(wdPc L).length=L.length:=by simp [wdPc]
theorem wdP_w (L:List Pic3) (n:Int) (E:List Ed) (i:Nat):(⟨n,E,wdPc L⟩:Gr).w i=(L.getD i ([],[])).2:=by
 simp only [Gr.w,wdPc,List.getD_eq_getElem?_getD,List.getElem?_map]
 cases L[i]? with
 | none=>rfl
 | some p=>simp only [Option.map_some,Option.getD_some];split<;>simp_all
theorem outV_app (a b:List Ed) (v:Nat):outV (a++b) v=outV a v++outV b v:=by simp [outV]
theorem outV_one (l:List Int) (k v:Nat):outV (l.map fun w=>((k:Int),w)) v=if v=k then l else []:=by
 unfold outV
 rw [List.filter_map,List.map_map]
 by_cases h:v=k
 ·subst h
  rw [if_pos rfl,List.filter_eq_self.2 (by intro a _;simp)]
  simp [Function.comp_def]
 ·rw [if_neg h,List.filter_eq_nil_iff.2 (by intro a _;simp;omega)];rfl
theorem outV_edP:∀ (L:List Pic3) (k v:Nat),outV (edPc k L) v=if k≤v then (L.getD (v - k) ([],[])).1 else []
 | [],k,v=>by simp [edPc,outV]
 | p::L,k,v=>by
  rw [edPc,outV_app,outV_one,outV_edP L (k+1) v]
  by_cases h:v=k
  ·subst h
   rw [if_pos rfl,if_neg (by omega),if_pos (Nat.le_refl _)];simp
  ·by_cases h2:k≤v
   ·rw [if_neg h,if_pos (by omega),if_pos h2,show v - k=(v - (k+1))+1 by omega];rfl
   ·rw [if_neg h,if_neg (by omega),if_neg h2];rfl
theorem pts_gr (L:List Pic3):ptsG (grPc L)=L:=by
 refine List.ext_getElem (by simp [ptsG,grPc,wdPc]) fun i h1 h2=>?_
 simp only [ptsG,List.getElem_map,List.getElem_range,grPc,wdP_w,outV_edP,Nat.zero_le,if_true,Nat.sub_zero]
 rw [List.getD_eq_getElem?_getD,List.getElem?_eq_getElem h2];rfl
theorem edP_mem:∀ {L:List Pic3} {k:Nat} {e:Ed},e∈edPc k L→(k:Int)≤e.1
 | [],_,_,h=>by simp [edPc] at h
 | p::L,k,e,h=>by
  simp only [edPc,List.mem_append,List.mem_map] at h
  rcases h with ⟨w,_,rfl⟩ | h
  ·exact Int.le_refl _
  ·have:=edP_mem h;omega
theorem edP_asc:∀ {L:List Pic3} {k:Nat},(∀ p∈L,p.1.Pairwise (·<·))→asc ltE (edPc k L)
 | [],_,_=>.nil
 | p::L,k,h=>by
  refine asc_app.2 ⟨?_,edP_asc fun q hq=>h q (by simp [hq]),fun x hx y hy=>?_⟩
  ·rw [asc,List.pairwise_map]
   exact (h p (by simp)).imp fun h=>by simp only [ltE,decide_eq_true_eq];exact .inr ⟨trivial,h⟩
  ·obtain ⟨w,_,rfl⟩:=List.mem_map.1 hx
   have:=edP_mem hy
   simp only [ltE,decide_eq_true_eq];omega
theorem isB_W {g:Gr} (h:isB g=true):(g.W.length:Int)=g.n:=by
 simp only [isB,Bool.and_eq_true] at h
 exact (okB_n h.1).2.2.2
theorem pts_len (g:Gr):(ptsG g).length=g.W.length:=by simp [ptsG]
theorem pts_at (g:Gr) {v:Nat} (h:v<g.W.length):(ptsG g).getD v ([],[])=(outV g.E v,g.w v):=by
 rw [List.getD_eq_getElem?_getD,List.getElem?_eq_getElem (by rw [pts_len];exact h)]
 simp [ptsG]
theorem pts_E {g:Gr} (h:isB g=true):edPc 0 (ptsG g)=g.E:=by
 have hw:=isB_W h
 obtain ⟨n,hn,n1,n2,n3,ha,hp⟩:=isB_pl h
 refine asc_ext ordrE (edP_asc fun p hp'=>?_) ha fun e=>?_
 ·simp only [ptsG,List.mem_map] at hp'
  obtain ⟨v,_,rfl⟩:=hp'
  exact outV_inc ha v
 ·by_cases h0:0≤e.1
  ·have e1:e=(((e.1.toNat:Nat):Int),e.2):=by rw [Int.toNat_of_nonneg h0]
   rw [e1,←outV_mem,←outV_mem,outV_edP,if_pos (Nat.zero_le _),Nat.sub_zero]
   by_cases h1:e.1.toNat<g.W.length
   ·rw [pts_at g h1]
   ·rw [List.getD_eq_getElem?_getD,List.getElem?_eq_none (by rw [pts_len];omega)]
    simp only [Option.getD_none,List.not_mem_nil,false_iff,outV_mem]
    intro hm
    have:=hp _ hm
    simp only at this;omega
  ·constructor
   ·intro hm;have:=edP_mem hm;omega
   ·intro hm;have:=hp e hm;omega
theorem isB_wl {a b:Gr} (h1:a.n=b.n) (h2:a.E=b.E) (h3:wl a.W=wl b.W):isB a=isB b:=by
 have hl:a.W.length=b.W.length:=by rw [←wl_len,h3,wl_len]
 have hw:∀ i,a.w i=b.w i:=fun i=>by
  have:=congrArg (fun l=>l.getD i []) h3
  simp only [wl_at] at this
  exact this
 have e1:okB a=okB b:=by
  rw [Bool.eq_iff_iff,okB_iff,okB_iff]
  simp only [h1,h2,hl,hw]
 have e2:wAsc a=wAsc b:=by
  by_cases c:∀ i,i<b.W.length→asc ltS (b.w i)
  ·rw [wAsc_yes c,wAsc_yes fun i hi=>by rw [hw];exact c i (by rw [←hl];exact hi)]
  ·rw [wAsc_no c,wAsc_no fun h=>c fun i hi=>by rw [←hw];exact h i (by rw [hl];exact hi)]
 unfold isB
 rw [e1,e2,h2]
theorem wl_pts (g:Gr):wl (wdPc (ptsG g))=wl g.W:=by
 refine getD_all [] (by rw [wl_len,wl_len,wdP_len,pts_len]) fun i hi=>?_
 rw [wl_len,wdP_len,pts_len] at hi
 have:=wdP_w (ptsG g) 0 [] i
 rw [pts_at g hi] at this
 rw [wl_at,wl_at]
 exact this
theorem gr_pts {g:Gr} (h:isB g=true):sameB (grPc (ptsG g)) g=true∧isB (grPc (ptsG g))=true:=by
 have e1:(grPc (ptsG g)).n=g.n:=by simp only [grPc,pts_len];exact isB_W h
 have e2:(grPc (ptsG g)).E=g.E:=pts_E h
 have e3:wl (grPc (ptsG g)).W=wl g.W:=wl_pts g
 exact ⟨by simp only [sameB,e1,e2,e3,decide_true,Bool.and_self],by rw [isB_wl e1 e2 e3];exact h⟩
theorem outV_le (E:List Ed) (v:Nat):(outV E v).length≤E.length:=by
 rw [outV,List.length_map];exact List.length_filter_le _ _
theorem pts_ok {g:Gr} (h:isB g=true):okLs3 (ptsG g):=by
 have hw:=isB_W h
 obtain ⟨n,hn,n1,n2,n3,ha,hp⟩:=isB_pl h
 simp only [isB,Bool.and_eq_true] at h
 obtain ⟨_,_,hk⟩:=okB_iff.1 h.1
 refine ⟨by rw [pts_len];omega,fun p hp'=>?_⟩
 simp only [ptsG,List.mem_map,List.mem_range] at hp'
 obtain ⟨v,hv,rfl⟩:=hp'
 have h1:=outV_le g.E v
 obtain ⟨h2,h3⟩:=hk v hv
 refine ⟨⟨by simp only;omega,fun x hx=>?_⟩,h2,fun t ht=>?_⟩
 ·have:=hp _ (outV_mem.1 hx)
  simp only at this
  exact ⟨by omega,by omega⟩
 ·have:=h3 t ht
  simp only [wordB,Bool.and_eq_true,decide_eq_true_eq] at this
  omega
def imG (g:Gr):Txt:=encIm (ptsG g)
open Classical in
noncomputable def imA (s:Txt):Option (List Pic3):=match rdIm s with
 | some (L,e)=>if e=s.length∧isB (grPc L)=true then some L else none
 | none=>none
theorem imA_img {g:Gr} (h:isB g=true):imA (imG g)=some (ptsG g):=by
 have:=rdG_cmp (pts_ok h) []
 rw [List.append_nil] at this
 rw [imA,imG,this]
 simp only
 rw [if_pos ⟨trivial,(gr_pts h).2⟩]
theorem imA_some {s:Txt} {L:List Pic3} (h:imA s=some L):isB (grPc L)=true∧okLs3 L∧s=imG (grPc L)∧s=encIm L:=by
 unfold imA at h
 split at h
 ·rename_i L' e hr
  split at h
  ·rename_i hc
   injection h with h;subst h
   obtain ⟨h1,h2,h3⟩:=rdG_snd hr
   rw [hc.1,List.take_length] at h3
   exact ⟨hc.2,h1,by rw [imG,pts_gr];exact h3,h3⟩
  ·cases h
 ·cases h
theorem img_pre {g h:Gr} (hg:isB g=true) (hh:isB h=true) {r:Txt} (e:imG h=imG g++r):sameB g h=true:=by
 have h1:=rdG_cmp (pts_ok hg) r
 have h2:=rdG_cmp (pts_ok hh) []
 rw [List.append_nil] at h2
 change rdIm (imG g++r)=_ at h1
 change rdIm (imG h)=_ at h2
 rw [←e,h2] at h1
 simp only [Option.some.injEq,Prod.mk.injEq] at h1
 have hp:=h1.1
 have e1:g.W.length=h.W.length:=by rw [←pts_len,←pts_len,hp]
 have e2:g.E=h.E:=by rw [←pts_E hg,←pts_E hh,hp]
 have e3:wl g.W=wl h.W:=by rw [←wl_pts,←wl_pts,hp]
 have e4:g.n=h.n:=by rw [←isB_W hg,←isB_W hh,e1]
 simp only [sameB,e2,e3,e4,decide_true,Bool.and_self]
theorem img_same {g h:Gr} (e:sameB g h=true):imG g=imG h:=by
 simp only [sameB,Bool.and_eq_true,decide_eq_true_eq] at e
 obtain ⟨_,e2,e3⟩:=e
 have hl:g.W.length=h.W.length:=by rw [←wl_len,e3,wl_len]
 have hw:∀ i,g.w i=h.w i:=fun i=>by
  have:=congrArg (fun l=>l.getD i []) e3
  simp only [wl_at] at this
  exact this
 simp only [imG,ptsG,e2,hl,hw]
theorem outV_snoc (l:List Ed) (x:Ed) (v:Nat):outV (l++[x]) v=if x.1=v then outV l v++[x.2] else outV l v:=by
 rw [outV_app]
 by_cases h:x.1=v
 ·rw [if_pos h];simp [outV,h]
 ·rw [if_neg h];simp [outV,h]
def toS (g:Gr) (v i:Nat):St:=⟨[(1,.int .i64 (v:Int)),(2,.ref 0 0),(5,.own 1 1),(6,.int .i64 (i:Int))],[.row false [.int .i64 g.n,.sl 2 (prs g.E),.sl 1 (wcs g.W)],.row false (ints (outV (g.E.take i) v))],0,[(0,2,[1,2,5,6],[(2,0),(5,1)])]⟩
theorem to_run {g:Gr} (hg:okG g) {v:Nat} (hv:v≤1000000):runP tab 1670 [.agg (gS g),.int .i64 (v:Int)] []=some (.vec 1 (ints (outV g.E v)),[]):=by
 have he:=hg.e
 refine runP_fn t1670 rfl ?_
 simp (disch:=omega) only [go_sem,d1670,gS]
 refine Ev_loop0 (toS g v) g.E.length (by simp [toS,outV,ints]) (fun i hi=>?_) ?_
 ·have e:=prs_fst hi
  have e':=prs_snd hi
  have h1:=outV_le (g.E.take i) v
  have h2:(g.E.take i).length=i:=by rw [List.length_take];omega
  have h3:=outV_snoc (g.E.take i) (g.E.getD i default) v
  rw [←take_snoc default hi] at h3
  unfold toS
  rw [h3]
  generalize outV (g.E.take i) v=d at *
  generalize g.E.getD i default=x at *
  have L:=ints_length d
  have em:ints d++[.int .i64 x.2]=ints (d++[x.2]):=by simp [ints]
  by_cases hx:x.1=(v:Int)
  ·rw [if_pos hx]
   simp (disch:=omega) only [go_sem,d1670_b0,e,e',hx,L,em]
  ·rw [if_neg hx]
   simp (disch:=omega) only [go_sem,d1670_b0,e,e',hx,L]
 ·unfold toS
  rw [List.take_length]
  have L:=ints_length (outV g.E v)
  simp (disch:=omega) only [go_sem,d1670_b0,L]
noncomputable def prA (g:Gr):List AV:=if isB g=true then [.str (imG g),.int .i64 0] else [.str [],.int .i64 20]
theorem wds_len {w:List Txt} (h:∀ t∈w,t.length≤4000):(w.flatMap encT).length≤w.length*4005:=by
 induction w with
 | nil=>simp
 | cons t w ih=>
  have h1:=encT_len (t:=t) (h t (by simp))
  have h2:=ih fun x hx=>h x (by simp [hx])
  simp only [List.flatMap_cons,List.length_append,List.length_cons]
  omega
theorem encPc_len {p:Pic3} (h:okPl3 p):(encPc p).length≤60000:=by
 have h1:=encR_len h.1
 have h2:=wds_len h.2.2
 have h3:=encN_len (n:=p.2.length) (by have:=h.2.1;omega)
 have:=h.2.1
 simp only [encPc,encWd,List.length_append]
 omega
theorem pcs_len {L:List Pic3} (h:∀ p∈L,okPl3 p):(L.flatMap encPc).length≤L.length*60000:=by
 induction L with
 | nil=>simp
 | cons t w ih=>
  have h1:=encPc_len (p:=t) (h t (by simp))
  have h2:=ih fun x hx=>h x (by simp [hx])
  simp only [List.flatMap_cons,List.length_append,List.length_cons]
  omega
def bodG (g:Gr) (i:Nat):Txt:=[119,103]++encN g.n.toNat++((ptsG g).take i).flatMap encPc
theorem bodG_succ {g:Gr} {i:Nat} (hi:i<g.W.length):bodG g (i+1)=bodG g i++encRo (outV g.E i)++encN (g.w i).length++(g.w i).flatMap encT:=by
 rw [bodG,bodG,take_snoc ([],[]) (by rw [pts_len];exact hi),pts_at g hi,List.flatMap_append]
 simp only [List.flatMap_cons,List.flatMap_nil,List.append_nil,encPc,encWd,List.append_assoc]
theorem bodG_len {g:Gr} (hb:isB g=true) (i:Nat):(bodG g i).length≤13000000:=by
 have hw:=isB_W hb
 obtain ⟨n,hn,n1,n2,_⟩:=isB_pl hb
 have h1:=pcs_len (L:=(ptsG g).take i) fun p hp=>(pts_ok hb).2 p (List.mem_of_mem_take hp)
 have h2:=encN_len (n:=g.n.toNat) (by omega)
 have h3:((ptsG g).take i).length≤200:=by rw [List.length_take,pts_len];omega
 rw [bodG]
 simp only [List.length_append,List.length_cons,List.length_nil]
 omega
theorem bodG_all {g:Gr} (hb:isB g=true):bodG g g.W.length=imG g:=by
 have hw:=isB_W hb
 rw [bodG,List.take_of_length_le (by rw [pts_len];exact Nat.le_refl _),imG,encIm,pts_len,show g.n.toNat=g.W.length by omega,List.append_assoc]
theorem isB_row {g:Gr} (hb:isB g=true) {i:Nat} (hi:i<g.W.length):okRo3 (outV g.E i)∧(g.w i).length≤8∧∀ t∈g.w i,t.length≤4000:=by
 have h:=(pts_ok hb).2 _ (show (outV g.E i,g.w i)∈ptsG g from List.mem_map.2 ⟨i,by simpa using hi,rfl⟩)
 exact ⟨h.1,h.2⟩
def r4S (g:Gr) (i:Nat):St:=⟨[(1,.ref 0 0),(6,.str (bodG g i)),(7,.int .i64 (i:Int))],[.row false [.int .i64 g.n,.sl 2 (prs g.E),.sl 1 (wcs g.W)]],0,[(0,1,[1,6,7],[(1,0)])]⟩
def r4I (g:Gr) (i:Nat) (O:List Int) (pre:Txt) (w:List Txt) (k:Nat):St:=⟨[(1,.ref 0 0),(6,.str (pre++(w.take k).flatMap encT)),(7,.int .i64 (i:Int)),(12,.int .i64 (k:Int))],[.row false [.int .i64 g.n,.sl 2 (prs g.E),.sl 1 (wcs g.W)],.row false (ints O)],0,[(1,2,[1,6,7,12],[(1,0)]),(0,1,[1,6,7],[(1,0)])]⟩
theorem r4_row {g:Gr} (hg:okG g) (hb:isB g=true) {i:Nat} (hi:i<g.W.length):Ev tab d1664_b0 (r4S g i) (fun x st=>x=.normal∧st=r4S g (i+1)):=by
 have hw:=isB_W hb
 obtain ⟨n,hn,n1,n2,_⟩:=isB_pl hb
 obtain ⟨o1,o2,o3⟩:=isB_row hb hi
 have g1:=to_run hg (v:=i) (by omega)
 have g2:=rnumbers_run o1
 have g3:=rnumber_run (n:=((g.w i).length:Int)) (by omega) (by omega)
 rw [Int.toNat_natCast] at g3
 have L:=ints_length (outV g.E i)
 have e:=wcs_at hi
 have ew:g.w i=(g.W.getD i none).getD []:=rfl
 have b1:=bodG_len hb i
 have b2:=encR_len o1
 have b3:=encN_len (n:=(g.w i).length) (by omega)
 have b4:=wds_len o3
 unfold r4S
 rw [bodG_succ hi]
 generalize bodG g i=B at *
 generalize hR:encRo (outV g.E i)=R at *
 generalize outV g.E i=O at *
 simp only [gS] at g1
 cases hx:g.W.getD i none with
 | none=>
  rw [hx] at e ew
  simp only [Option.getD_none] at ew
  rw [ew] at g3 b3 ⊢
  simp only [List.length_nil] at g3 b3 ⊢
  generalize hK:encN 0=K at *
  rw [show ((0:Nat):Int)=0 from rfl] at g3
  simp (disch:=omega) only [go_sem,d1664_b0,g1,g2,g3,L,e,wc,List.length_append]
  refine Ev_loop0 (r4I g i O (B++R++K) []) 0 (by simp [r4I]) (fun k hk=>absurd hk (Nat.not_lt_zero _)) ?_
  simp (disch:=omega) only [go_sem,d1664_b1,r4I,e,wc,List.length_append]
 | some l=>
  rw [hx] at e ew
  simp only [Option.getD_some] at ew
  rw [ew] at g3 b3 b4 o2 o3 ⊢
  generalize hK:encN l.length=K at *
  have SL:=strs_length l
  simp (disch:=omega) only [go_sem,d1664_b0,g1,g2,g3,L,e,wc,SL,List.length_append]
  have b5:(B++R++K).length≤13030000:=by simp only [List.length_append];omega
  generalize B++R++K=Z at *
  refine Ev_loop0 (r4I g i O Z l) l.length (by simp [r4I]) (fun k hk=>?_) ?_
  ·have e2:=strs_rdc hk
   have gt:=rtext_run (o3 _ (getD_mem (d:=[]) hk))
   have b6:=encT_len (o3 _ (getD_mem (d:=[]) hk))
   have b7:=wds_len (w:=l.take k) fun t ht=>o3 t (List.mem_of_mem_take ht)
   rw [List.length_take] at b7
   unfold r4I
   rw [take_snoc [] hk,List.flatMap_append,List.flatMap_cons,List.flatMap_nil,List.append_nil,←List.append_assoc]
   have b8:(Z++(l.take k).flatMap encT).length≤13100000:=by rw [List.length_append];omega
   generalize Z++(l.take k).flatMap encT=Y at *
   simp (disch:=omega) only [go_sem,d1664_b1,e,wc,SL,e2,gt]
  ·unfold r4I
   rw [List.take_length]
   simp (disch:=omega) only [go_sem,d1664_b1,e,wc,SL]
theorem rprint_run {g:Gr} (hg:okG g):runP tab 1664 [.agg (gS g)] []=some (.tup (prA g),[]):=by
 have gi:=is2_run hg
 simp only [gS] at gi
 refine runP_fn t1664 rfl ?_
 unfold prA
 cases hb:isB g with
 | false=>
  rw [hb] at gi
  rw [if_neg (by simp)]
  simp (disch:=omega) only [go_sem,d1664,gS,gi]
 | true=>
  rw [hb] at gi
  rw [if_pos rfl]
  have hw:=isB_W hb
  obtain ⟨n,hn,n1,n2,_⟩:=isB_pl hb
  have gl:=rnumber_run (n:=g.n) (by omega) (by omega)
  have h5:=encN_len (n:=g.n.toNat) (by omega)
  simp (disch:=omega) only [go_sem,d1664,gS,gi,gl,List.length_cons,List.length_nil]
  refine Ev_loop0 (r4S g) g.W.length (by simp [r4S,bodG]) (fun i hi=>r4_row hg hb hi) ?_
  unfold r4S
  rw [bodG_all hb]
  simp (disch:=omega) only [go_sem,d1664_b0]
theorem prs00:prs []=[]:=rfl
theorem wos00:wos []=[]:=rfl
def wdQ (L:List Pic3):Wds:=L.map fun p=>some p.2
def grQ (L:List Pic3):Gr:=⟨L.length,edPc 0 L,wdQ L⟩
theorem wdQ_wl (L:List Pic3):wl (wdPc L)=wl (wdQ L):=by
 simp only [wl,wdPc,wdQ,List.map_map]
 refine List.map_congr_left fun p _=>?_
 simp only [Function.comp_def]
 split<;>simp_all
theorem grQ_same (L:List Pic3):sameB (grPc L) (grQ L)=true:=by
 simp only [sameB,grPc,grQ,wdQ_wl,decide_true,Bool.and_self]
theorem grQ_isB (L:List Pic3):isB (grQ L)=isB (grPc L):=isB_wl rfl rfl (wdQ_wl L).symm
theorem grQ_img (L:List Pic3):imG (grQ L)=encIm L:=by rw [←img_same (grQ_same L),imG,pts_gr]
theorem edPc_le:∀ (L:List Pic3) (k:Nat),(edPc k L).length≤(L.flatMap encPc).length
 | [],_=>Nat.le_refl _
 | p::L,k=>by
  have ih:=edPc_le L (k+1)
  have h:p.1.length≤(encL p.1).length:=by
   induction p.1 with
   | nil=>simp [encL]
   | cons x l ih=>
    have:=encN_pos x.toNat
    simp only [encL,List.flatMap_cons,List.length_append,List.length_cons] at ih ⊢
    omega
  simp only [edPc,List.flatMap_cons,List.length_append,List.length_map,encPc,encRo]
  omega
theorem edPc_len {L:List Pic3} (h:∀ p∈L,okPl3 p) (k:Nat):(edPc k L).length≤L.length*4000:=by
 induction L generalizing k with
 | nil=>simp [edPc]
 | cons p L ih=>
  have h1:=(h p (by simp)).1.1
  have h2:=ih (fun x hx=>h x (by simp [hx])) (k+1)
  simp only [edPc,List.length_append,List.length_map,List.length_cons]
  omega
theorem getD_or {α:Type} (l:List α) (i:Nat) (d:α):l.getD i d∈l∨l.getD i d=d:=by
 by_cases h:i<l.length
 ·exact .inl (getD_mem h)
 ·right;rw [List.getD_eq_getElem?_getD,List.getElem?_eq_none (by omega)];rfl
theorem grPc_ok {L:List Pic3} (h:okLs3 L) (hl:(encIm L).length≤2100):okG (grPc L):=by
 have h1:=edPc_le L 0
 have h2:(L.flatMap encPc).length≤(encIm L).length:=by simp only [encIm,List.length_append];omega
 have h3:=h.1
 have hr:∀ i,okWd3 (L.getD i ([],[])).2:=fun i=>by
  rcases getD_or L i ([],[]) with h' | h'
  ·exact (h.2 _ h').2
  ·rw [h'];exact ⟨by simp,by simp⟩
 refine ⟨⟨by simp only [grPc];omega,by simp only [grPc];omega⟩,by simp only [grPc];omega,by simp only [grPc,wdP_len];omega,fun i hi=>?_,fun i hi s hs=>?_⟩
 ·have:=(hr i).1
  simp only [grPc,wdP_w];omega
 ·simp only [grPc,wdP_w] at hs
  exact (hr i).2 s hs
theorem grQ_ok {L:List Pic3} (h:okLs3 L) (hl:(encIm L).length≤2100):okG (grQ L):=by
 have g:=grPc_ok h hl
 have hw:∀ i,(grQ L).w i=(grPc L).w i:=fun i=>by
  have:=congrArg (fun l=>l.getD i []) (wdQ_wl L)
  simp only [wl_at] at this
  exact this.symm
 have he:(grQ L).W.length=(grPc L).W.length:=by simp [grQ,grPc,wdQ,wdPc]
 exact ⟨g.n,g.e,by rw [he];exact g.w,fun i hi=>by rw [hw];exact g.r i (by rw [←he];exact hi),fun i hi=>by rw [hw];exact g.t i (by rw [←he];exact hi)⟩
noncomputable def paA (W:List Pic3→Wds) (s:Txt):List AV:=match imA s with
 | some L=>[.agg (gV L.length (edPc 0 L) (W L)),.int .i64 0]
 | none=>[.agg (gV 0 [] []),.int .i64 30]
def r7S (s:Txt) (n j:Nat) (acc:List Pic3):St:=⟨[(0,.str s),(2,.ref 0 0),(4,.int .i64 (n:Int)),(5,.int .i64 (j:Int)),(7,.ref 1 0),(8,.int .i64 (acc.length:Int))],[.row false [.int .i64 0,.nils,.nils],.row false [.int .i64 (n:Int),.vec 2 (prs (edPc 0 acc)),.vec 1 (wos (wdQ acc))]],0,[(0,2,[0,2,4,5,7,8],[(2,0),(7,1)])]⟩
def r7I (s:Txt) (n e:Nat) (p:Pic3) (acc:List Pic3) (i:Nat):St:=⟨[(0,.str s),(2,.ref 0 0),(4,.int .i64 (n:Int)),(7,.ref 1 0),(8,.int .i64 (acc.length:Int)),(9,.own 1 2),(10,.own 1 3),(11,.int .i64 (e:Int)),(13,.int .i64 (i:Int))],[.row false [.int .i64 0,.nils,.nils],.row false [.int .i64 (n:Int),.vec 2 (prs (edPc 0 acc++(p.1.take i).map fun w=>((acc.length:Int),w))),.vec 1 (wos (wdQ acc))],.row false (ints p.1),.row false (strs p.2)],0,[(1,4,[0,2,4,7,8,9,10,11,13],[(2,0),(7,1),(9,2),(10,3)]),(0,2,[0,2,4,5,7,8],[(2,0),(7,1)])]⟩
theorem rparse_run {s:Txt} (hs:s.length≤2000):runP tab 1667 [.str s] []=some (.tup (paA wdQ s),[]):=by
 refine runP_fn t1667 rfl ?_
 unfold paA imA rdIm
 by_cases c1:2≤s.length
 case neg=>
  rw [if_neg (fun h=>c1 h.1)]
  simp (disch:=omega) only [go_sem,d1667,gV,prs00,wos00]
 by_cases c2:s.take 2=[119,103]
 case neg=>
  rw [if_neg (fun h=>c2 h.2)]
  have c3:(s.take 2 == [119,103])=false:=by simpa using c2
  simp (disch:=omega) only [go_sem,d1667,c3,gV,prs00,wos00]
 rw [if_pos ⟨c1,c2⟩]
 unfold rowsG rdL
 have g:=rrd_run (s:=s) (by omega) (show 2≤s.length from c1)
 rw [show ((2:Nat):Int)=2 from rfl] at g
 cases h2:rdN s 2 with
 | none=>
  rw [h2] at g
  simp only [rdA] at g
  simp (disch:=omega) only [go_sem,d1667,c2,g,gV,prs00,wos00]
 | some q=>
  obtain ⟨n,j⟩:=q
  rw [h2] at g
  simp only [rdA] at g
  have b2:=rdN_sound h2
  simp only
  by_cases hn:n≤200
  case neg=>
   rw [if_neg hn]
   simp (disch:=omega) only [go_sem,d1667,c2,g,gV,prs00,wos00]
  rw [if_pos hn]
  simp only
  simp (disch:=omega) only [go_sem,d1667,c2,g]
  refine Ev_inv (fun k st=>∃ (acc:List Pic3) (j':Nat),repsG rdPl k s j' acc=repsG rdPl n s j []∧acc.length+k=n∧j'≤s.length∧(∀ p∈acc,okPl3 p)∧st=r7S s n j' acc) ?_ (i:=n) ⟨[],j,rfl,by simp,by omega,by simp,by simp [r7S,edPc,wdQ,prs,wos]⟩
  rintro k st ⟨acc,j',h1,h3,h4,h6,rfl⟩
  have g3:=im_place (s:=s) (by omega) h4
  rw [←h1]
  cases k with
  | succ k=>
   simp only [repsG] at h1 ⊢
   cases h5:rdPl s j' with
   | none=>
    rw [h5] at g3
    simp only [plA] at g3
    unfold r7S
    simp (disch:=omega) only [go_sem,d1667_b0,g3,gV,prs00,wos00]
   | some q=>
    obtain ⟨p,e'⟩:=q
    rw [h5] at h1 g3
    simp only [plA] at h1 g3
    obtain ⟨k1,k2,k3,k4⟩:=pl_cdc.snd h4 h5
    have L1:=ints_length p.1
    have L2:=strs_length p.2
    unfold r7S
    simp (disch:=omega) only [go_sem,d1667_b0,g3,L1,L2]
    have b7:=edPc_len h6 0
    have b8:=k1.1.1
    refine Ev_loop0 (r7I s n e' p acc) p.1.length (by simp [r7I]) (fun i hi=>?_) ?_
    ·have e1:=ints_rdc0 hi
     have b9:(edPc 0 acc++(p.1.take i).map fun w=>((acc.length:Int),w)).length≤1000000:=by
      rw [List.length_append,List.length_map,List.length_take];omega
     unfold r7I
     rw [take_snoc 0 hi,List.map_append,←List.append_assoc,List.map_cons,List.map_nil]
     generalize edPc 0 acc++(p.1.take i).map (fun w=>((acc.length:Int),w))=D at *
     generalize p.1.getD i 0=x at *
     simp (disch:=omega) only [go_sem,d1667_b1,L1,L2,e1,prs_snoc]
    ·unfold r7I
     have e4:edPc 0 acc++p.1.map (fun w=>((acc.length:Int),w))=edPc 0 (acc++[p]):=by rw [edP_snoc,Nat.zero_add]
     have e5:wdQ acc++[some p.2]=wdQ (acc++[p]):=by simp [wdQ]
     have e6:(wdQ acc).length=acc.length:=by simp [wdQ]
     rw [List.take_length,e4]
     have hk:k<k+1:=by omega
     have key:∃ (a2:List Pic3) (j2:Nat),repsG rdPl k s j2 a2=repsG rdPl n s j []∧a2.length+k=n∧j2≤s.length∧(∀ p∈a2,okPl3 p)∧r7S s n e' (acc++[p])=r7S s n j2 a2:=⟨_,_,h1,by simp;omega,k3,fun x hx=>by
      rcases List.mem_append.1 hx with hx | hx
      ·exact h6 x hx
      ·rw [List.mem_singleton.1 hx];exact k1,rfl⟩
     have e3:((acc++[p]).length:Int)=(acc.length:Int)+1:=by simp
     unfold r7S at key
     rw [e3,←h1,←e5,←wos_snoc] at key
     generalize edPc 0 (acc++[p])=D at *
     simp (disch:=omega) only [go_sem,d1667_b1,L1,L2,e6]
     exact ⟨k,hk,key⟩
  | zero=>
   simp only [repsG]
   have hr:rdIm s=some (acc,j'):=by
    unfold rdIm rowsG rdL
    rw [if_pos ⟨c1,c2⟩,h2]
    simp only
    rw [if_pos hn]
    exact h1.symm
   obtain ⟨k1,k2,k3⟩:=rdG_snd hr
   have k4:(encIm acc).length=j':=by rw [←k3,List.length_take];omega
   have gp:=rprint_run (grQ_ok k1 (by omega))
   unfold prA at gp
   rw [grQ_isB,grQ_img] at gp
   simp only [gS,grQ] at gp
   obtain rfl:n=acc.length:=by omega
   unfold r7S
   by_cases hb:isB (grPc acc)=true
   ·rw [if_pos hb] at gp
    by_cases he:j'=s.length
    ·rw [if_pos ⟨he,hb⟩]
     have e7:(encIm acc == s)=true:=by rw [←k3,he,List.take_length];simp
     simp (disch:=omega) only [go_sem,d1667_b0,gp,e7,gV]
    ·rw [if_neg (fun h=>he h.1)]
     have e7:(encIm acc == s)=false:=by
      simp only [beq_eq_false_iff_ne,ne_eq]
      intro h
      rw [h] at k4;omega
     simp (disch:=omega) only [go_sem,d1667_b0,gp,e7,gV,prs00,wos00]
   ·rw [if_neg hb] at gp
    rw [if_neg (fun h=>hb h.2)]
    simp (disch:=omega) only [go_sem,d1667_b0,gp,gV,prs00,wos00]
end Go.Proofs.Ytgdfncnpcdafmaa
