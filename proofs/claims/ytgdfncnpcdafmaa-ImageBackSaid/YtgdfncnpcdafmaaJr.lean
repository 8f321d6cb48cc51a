import Derived.Test.YtgdfncnpcdafmaaJz
namespace Go.Proofs.Ytgdfncnpcdafmaa
set_option linter.unusedSimpArgs false
set_option linter.unusedVariables false
set_option maxHeartbeats 4000000
set_option maxRecDepth 100000
def wyC (l:List Int):AV:=if l=[] then .nils else .vec 1 (ints l)
def wyR (n:Nat) (E:List Ed):List AV:=(List.range n).map fun v=>wyC (outV E v)
theorem wyR_len (n:Nat) (E:List Ed):(wyR n E).length=n:=by simp [wyR]
theorem wyR_zero (n:Nat):wyR n []=nls n:=by simp [wyR,outV,wyC,nls,List.map_const']
theorem wyR_cut {n:Nat} {E:List Ed} {v:Nat} (h:v<n):((wyR n E).drop v).take 1=[wyC (outV E v)]:=by
 rw [wyR,←List.map_drop,List.drop_eq_getElem_cons (by simpa using h)];simp
theorem wyR_set {n:Nat} {E:List Ed} {x:Ed} {v:Nat} (h:v<n) (hx:x.1=(v:Int)):(wyR n E).set v (.vec 1 (ints (outV E v++[x.2])))=wyR n (E++[x]):=by
 refine List.ext_getElem (by simp [wyR]) fun i h1 h2=>?_
 rw [List.getElem_set]
 simp only [wyR,List.getElem_map,List.getElem_range,outV_snoc]
 by_cases e:v=i
 ·subst e
  rw [if_pos rfl,if_pos hx,wyC,if_neg (by simp)]
 ·rw [if_neg e,if_neg (by omega)]
theorem wyR_allL {p:AV→Bool} (h0:p .nils=true) (h1:∀ l,p (.vec 1 (ints l))=true) (h2:∀ l,allL p (ints l)=true) (E:List Ed):∀ L:List Nat,allL p (L.map fun v=>wyC (outV E v))=true
 | []=>rfl
 | v::L=>by
  rw [List.map_cons,allL,wyR_allL h0 h1 h2 E L,Bool.and_true,wyC]
  split
  ·simp [AV.allv,h0]
  ·simp [AV.allv,h1,h2]
theorem wyR_noid' (n:Nat) (E:List Ed):allL pnoid (wyR n E)=true:=wyR_allL rfl (fun _=>rfl) (fun l=>ints_noid' l) E _
theorem wyR_noimm' (n:Nat) (E:List Ed):allL pnoimm (wyR n E)=true:=wyR_allL rfl (fun _=>rfl) (fun l=>ints_noimm l) E _
theorem wyR_idlt' (k n:Nat) (E:List Ed):allL (pidlt k) (wyR n E)=true:=idltL_noid _ (wyR_noid' n E)
theorem wyR_ren' (f:Nat→Nat) (n:Nat) (E:List Ed):mapL (ren1 f) (wyR n E)=wyR n E:=renL_noid _ (wyR_noid' n E)
theorem wyR_ids (n:Nat) (E:List Ed):idsL (wyR n E)=[]:=noidL_ids _ (wyR_noid' n E)
theorem wyR_okc (n:Nat) (E:List Ed):(wyR n E).all AV.okc=true:=by
 simp only [wyR,List.all_map,List.all_eq_true]
 intro v _
 simp only [Function.comp_def,wyC]
 split<;>rfl
attribute [go_sem] wyR_len wyR_noid' wyR_noimm' wyR_idlt' wyR_ren' wyR_ids wyR_okc
def prS (g:Gr) (n i:Nat):St:=⟨[(1,.ref 0 0),(4,.own 1 1),(19,.sl 2 (prs g.E)),(20,.int .i64 g.E.length),(21,.int .i64 (i:Int))],[.row false [.int .i64 g.n,.sl 2 (prs g.E),.sl 1 (wcs g.W)],.row false (wyR n (g.E.take i))],0,[(0,2,[1,4,19,20,21],[(1,0),(4,1)])]⟩
theorem pr_edge {g:Gr} {n:Nat} (he:g.E.length≤3000) (hp:plE n g.E) {i:Nat} (hi:i<g.E.length):Ev tab d1663_b0 (prS g n i) (fun x st=>x=.normal∧st=prS g n (i+1)):=by
 have e:=prs_fst hi
 have e':=prs_snd hi
 have h1:=hp _ (getD_mem (d:=default) hi)
 obtain ⟨v,hv⟩:∃ v:Nat,(g.E.getD i default).1=(v:Int):=⟨(g.E.getD i default).1.toNat,by omega⟩
 have hvn:v<n:=by omega
 have t0:=wyR_set (E:=g.E.take i) hvn hv
 have c1:=wyR_cut (E:=g.E.take i) hvn
 have b1:=outV_le (g.E.take i) v
 rw [List.length_take] at b1
 have m1:=wyR_len n (g.E.take i)
 rw [←take_snoc default hi] at t0
 have L:=ints_length (outV (g.E.take i) v)
 unfold prS
 have e3:List.take 2 (prs (List.drop i g.E))=[.int .i64 (g.E.getD i default).1,.int .i64 (g.E.getD i default).2]:=by
  rw [List.drop_eq_getElem_cons hi,prs_cons,List.getD_eq_getElem?_getD,List.getElem?_eq_getElem hi];rfl
 generalize outV (g.E.take i) v=O at *
 generalize wyR n (g.E.take i)=X at *
 generalize g.E.getD i default=x at *
 rw [hv] at e e3
 have em:ints O++[.int .i64 x.2]=ints (O++[x.2]):=by simp [ints]
 by_cases hO:O=[]
 ·subst hO
  simp only [wyC,if_true] at c1
  have er1:=set_rdc (l:=X) (u:=v) (x:=.nils) (by omega)
  have t1:X.set v (.vec 1 [.int .i64 x.2])=wyR n (g.E.take (i+1)):=t0
  simp (disch:=omega) only [go_sem,d1663_b0,e3,c1,m1,er1,t1,List.set_set,hv]
  rfl
 ·simp only [wyC,if_neg hO] at c1
  have er1:=set_rdc (l:=X) (u:=v) (x:=.own 1 3) (by omega)
  simp (disch:=omega) only [go_sem,d1663_b0,e3,c1,m1,er1,t0,List.set_set,hv,L,em]
  rfl
theorem wyC_pk (n:Nat) (hp:List Blk):∀ R:List (List Int),pkL n hp (R.map wyC)=some (R.map wyC,hp)
 | []=>rfl
 | r::R=>by
  have ih:=wyC_pk n hp R
  have e:pk n hp (wyC r)=some (wyC r,hp):=by unfold wyC;split<;>rfl
  show pkL n hp (wyC r::R.map wyC)=some (wyC r::R.map wyC,hp)
  simp only [pkL,e,Option.bind_some,ih,Option.map_some]
theorem wyC_pkset {n id:Nat} {hp:List Blk} (hn:n≤id):∀ {R:List (List Int)} {u:Nat} {r:List Int},u<R.length→R.getD u []=r→r≠[]→hp[id]? = some (.row false (ints r))→pkL n hp ((R.map wyC).set u (.own 1 id))=some (R.map wyC,hp.set id .dead)
 | [],_,_,h,_,_,_=>by simp at h
 | x::R,0,r,_,e,hne,hb=>by
  have e2:x=r:=e
  subst e2
  show pkL n hp (.own 1 id::R.map wyC)=some (wyC x::R.map wyC,_)
  have hnl:¬ id<n:=by omega
  simp only [pkL,pk,if_neg hnl,hb,ints_noid,if_true,Option.bind_some,wyC_pk,Option.map_some]
  rw [wyC,if_neg hne]
 | x::R,u+1,r,h,e,hne,hb=>by
  have ih:=wyC_pkset hn (R:=R) (u:=u) (r:=r) (by simpa using h) (by simpa using e) hne hb
  have ex:pk n hp (wyC x)=some (wyC x,hp):=by unfold wyC;split<;>rfl
  show pkL n hp (wyC x::(R.map wyC).set u (.own 1 id))=some (wyC x::R.map wyC,_)
  simp only [pkL,ex,Option.bind_some,ih,Option.map_some]
theorem wyR_map (n:Nat) (E:List Ed):wyR n E=((List.range n).map (outV E)).map wyC:=by rw [wyR,List.map_map];rfl
theorem wyR_pkset {n k id:Nat} {E:List Ed} {hp:List Blk} {i:Nat} (hn:k≤id) (hi:i<n) (hO:outV E i≠[]) (h:hp[id]? = some (.row false (ints (outV E i)))):pkL k hp ((wyR n E).set i (.own 1 id))=some (wyR n E,hp.set id .dead):=by
 rw [wyR_map]
 refine wyC_pkset hn (by simpa using hi) ?_ hO h
 rw [List.getD_eq_getElem?_getD,List.getElem?_map,List.getElem?_range hi];rfl
theorem wyR_self {n:Nat} {E:List Ed} {i:Nat} (hi:i<n) (hO:outV E i=[]):(wyR n E).set i .nils=wyR n E:=by
 refine List.ext_getElem (by simp) fun j h1 h2=>?_
 rw [List.getElem_set]
 split
 ·rename_i e;subst e;simp [wyR,hO,wyC]
 ·rfl
theorem allL_setno {p:AV→Bool} {x:AV} (hx:x.allv p=false):∀ {cs:List AV} {u:Nat},u<cs.length→allL p (cs.set u x)=false
 | [],_,h=>by simp at h
 | c::cs,0,_=>by simp [allL,hx]
 | c::cs,u+1,h=>by simp [allL,allL_setno hx (cs:=cs) (u:=u) (by simpa using h)]
theorem allL_setyes {p:AV→Bool} {x:AV} (hx:x.allv p=true):∀ {cs:List AV} {u:Nat},allL p cs=true→allL p (cs.set u x)=true
 | [],_,_=>rfl
 | c::cs,0,h=>by simp only [allL,Bool.and_eq_true] at h;simp [allL,hx,h.2]
 | c::cs,u+1,h=>by simp only [allL,Bool.and_eq_true] at h;simp [allL,h.1,allL_setyes hx (cs:=cs) (u:=u) h.2]
def pwR (g:Gr) (n i:Nat):St:=⟨[(4,.own 1 1),(7,.str (bodG g i)),(45,.sl 1 (wcs g.W)),(46,.int .i64 g.W.length),(47,.int .i64 (i:Int))],[.row false [.int .i64 g.n,.sl 2 (prs g.E),.sl 1 (wcs g.W)],.row false (wyR n g.E)],0,[(1,2,[4,7,45,46,47],[(4,1)]),(0,2,[1,4,19,20,21],[(1,0),(4,1)])]⟩
def pwI (g:Gr) (i:Nat) (c:AV) (m:Nat) (Y:List Blk) (pre:Txt) (w:List Txt) (k:Nat):St:=⟨[(4,.own 1 1),(7,.str (pre++(w.take k).flatMap encT)),(45,.sl 1 (wcs g.W)),(46,.int .i64 g.W.length),(47,.int .i64 (i:Int)),(64,c),(65,.int .i64 w.length),(66,.int .i64 (k:Int))],.row false [.int .i64 g.n,.sl 2 (prs g.E),.sl 1 (wcs g.W)]::Y,0,[(2,m,[4,7,45,46,47,64,65,66],[(4,1)]),(1,2,[4,7,45,46,47],[(4,1)]),(0,2,[1,4,19,20,21],[(1,0),(4,1)])]⟩
theorem pw_row {g:Gr} (hg:okG g) (hb:isB g=true) {n i:Nat} (hn:g.n=n) (hi:i<g.W.length):Ev tab d1663_b1 (pwR g n i) (fun x st=>x=.normal∧st=pwR g n (i+1)):=by
 have hw:=isB_W hb
 obtain ⟨n',hn',n1,n2,n3,_⟩:=isB_pl hb
 obtain ⟨o1,o2,o3⟩:=isB_row hb hi
 have g2:=layrow_run o1
 have g3:=lays_run (l:=[((g.w i).length:Int)]) (by simp) (by simp;omega)
 have L:=ints_length (outV g.E i)
 have e:=wcs_at hi
 have ew:g.w i=(g.W.getD i none).getD []:=rfl
 have b1:=bodG_len hb i
 have b2:=encR_len o1
 have b3:=encN_len (n:=(g.w i).length) (by omega)
 have b4:=wds_len o3
 have e5:encL [((g.w i).length:Int)]=encN (g.w i).length:=by simp [encL]
 rw [e5] at g3
 rw [show ints [((g.w i).length:Int)]=[.int .i64 ((g.w i).length:Int)] from rfl] at g3
 have hin:i<n:=by omega
 have c1:=wyR_cut (E:=g.E) hin
 have m1:=wyR_len n g.E
 have sf:=wyR_self (n:=n) (E:=g.E) hin
 have pk2:=fun hp hO h=>wyR_pkset (k:=2) (id:=2) (E:=g.E) (hp:=hp) (by omega) hin hO h
 have id3:=wyR_idlt' 3 n g.E
 have id2:=allL_setno (p:=pidlt 2) (x:=.own 1 2) (by rfl) (cs:=wyR n g.E) (u:=i) (by omega)
 have id4:=allL_setyes (p:=pidlt 3) (x:=.own 1 2) (by rfl) (cs:=wyR n g.E) (u:=i) id3
 have er1:=set_rdc (l:=wyR n g.E) (u:=i) (x:=.own 1 2) (by omega)
 unfold pwR
 rw [bodG_succ hi]
 generalize bodG g i=B at *
 generalize hR:encRo (outV g.E i)=R at *
 generalize outV g.E i=O at *
 cases hx:g.W.getD i none with
 | none=>
  rw [hx] at e ew
  simp only [Option.getD_none] at ew
  rw [ew] at g3 b3 ⊢
  simp only [List.length_nil] at g3 b3 ⊢
  generalize hK:encN 0=K at *
  rw [show ((0:Nat):Int)=0 from rfl] at g3
  by_cases hO:O=[]
  ·subst hO
   simp only [wyC,if_true] at c1
   rw [show ints []=[] from rfl] at g2
   have er0:=set_rdc (l:=wyR n g.E) (u:=i) (x:=.nils) (by omega)
   rw [sf rfl] at er0
   simp (disch:=omega) only [go_sem,d1663_b1,g2,g3,L,e,wc,c1,m1,er0,sf rfl,List.length_append]
   have b5:(B++(R++K)).length≤13030000:=by simp only [List.length_append];omega
   rw [show B++R++K=B++(R++K) by rw [List.append_assoc]]
   generalize B++(R++K)=Z at *
   refine Ev_loop0 (pwI g i .nils 2 [.row false (wyR n g.E)] Z []) 0 (by simp [pwI]) (fun k hk=>absurd hk (Nat.not_lt_zero _)) ?_
   unfold pwI
   simp (disch:=omega) only [go_sem,d1663_b2,m1]
  ·simp only [wyC,if_neg hO] at c1
   simp (disch:=omega) only [go_sem,d1663_b1,g2,g3,L,e,wc,c1,m1,er1,List.length_append]
   have b5:(B++(R++K)).length≤13030000:=by simp only [List.length_append];omega
   rw [show B++R++K=B++(R++K) by rw [List.append_assoc]]
   generalize B++(R++K)=Z at *
   refine Ev_loop0 (pwI g i .nils 3 [.row false ((wyR n g.E).set i (.own 1 2)),.row false (ints O)] Z []) 0 (by simp [pwI]) (fun k hk=>absurd hk (Nat.not_lt_zero _)) ?_
   unfold pwI
   simp (disch:=omega) only [go_sem,d1663_b2,m1,id2,id4,pk2 [.row false [.int .i64 g.n,.sl 2 (prs g.E),.sl 1 (wcs g.W)],.dead,.row false (ints O)] hO rfl,List.length_set]
 | some l=>
  rw [hx] at e ew
  simp only [Option.getD_some] at ew
  rw [ew] at g3 b3 b4 o2 o3 ⊢
  generalize hK:encN l.length=K at *
  have SL:=strs_length l
  by_cases hO:O=[]
  ·subst hO
   simp only [wyC,if_true] at c1
   rw [show ints []=[] from rfl] at g2
   have er0:=set_rdc (l:=wyR n g.E) (u:=i) (x:=.nils) (by omega)
   rw [sf rfl] at er0
   simp (disch:=omega) only [go_sem,d1663_b1,g2,g3,L,e,wc,SL,c1,m1,er0,sf rfl,List.length_append]
   have b5:(B++(R++K)).length≤13030000:=by simp only [List.length_append];omega
   rw [show B++R++K=B++(R++K) by rw [List.append_assoc]]
   generalize B++(R++K)=Z at *
   refine Ev_loop0 (pwI g i (.sl 1 (strs l)) 2 [.row false (wyR n g.E)] Z l) l.length (by simp [pwI]) (fun k hk=>?_) ?_
   ·have e2:=strs_rdc hk
    have gt:=layt_run (o3 _ (getD_mem (d:=[]) hk))
    have b6:=encT_len (o3 _ (getD_mem (d:=[]) hk))
    have b7:=wds_len (w:=l.take k) fun t ht=>o3 t (List.mem_of_mem_take ht)
    rw [List.length_take] at b7
    unfold pwI
    rw [take_snoc [] hk,List.flatMap_append,List.flatMap_cons,List.flatMap_nil,List.append_nil,←List.append_assoc]
    have b8:(Z++(l.take k).flatMap encT).length≤13100000:=by rw [List.length_append];omega
    generalize Z++(l.take k).flatMap encT=Q at *
    simp (disch:=omega) only [go_sem,d1663_b2,SL,e2,gt,m1]
   ·unfold pwI
    rw [List.take_length]
    simp (disch:=omega) only [go_sem,d1663_b2,SL,m1]
  ·simp only [wyC,if_neg hO] at c1
   simp (disch:=omega) only [go_sem,d1663_b1,g2,g3,L,e,wc,SL,c1,m1,er1,List.length_append]
   have b5:(B++(R++K)).length≤13030000:=by simp only [List.length_append];omega
   rw [show B++R++K=B++(R++K) by rw [List.append_assoc]]
   generalize B++(R++K)=Z at *
   refine Ev_loop0 (pwI g i (.sl 1 (strs l)) 3 [.row false ((wyR n g.E).set i (.own 1 2)),.row false (ints O)] Z l) l.length (by simp [pwI]) (fun k hk=>?_) ?_
   ·have e2:=strs_rdc hk
    have gt:=layt_run (o3 _ (getD_mem (d:=[]) hk))
    have b6:=encT_len (o3 _ (getD_mem (d:=[]) hk))
    have b7:=wds_len (w:=l.take k) fun t ht=>o3 t (List.mem_of_mem_take ht)
    rw [List.length_take] at b7
    unfold pwI
    rw [take_snoc [] hk,List.flatMap_append,List.flatMap_cons,List.flatMap_nil,List.append_nil,←List.append_assoc]
    have b8:(Z++(l.take k).flatMap encT).length≤13100000:=by rw [List.length_append];omega
    generalize Z++(l.take k).flatMap encT=Q at *
    simp (disch:=omega) only [go_sem,d1663_b2,SL,e2,gt,m1,id2,id4,pk2 [.row false [.int .i64 g.n,.sl 2 (prs g.E),.sl 1 (wcs g.W)],.dead,.row false (ints O)] hO rfl,List.length_set]
   ·unfold pwI
    rw [List.take_length]
    simp (disch:=omega) only [go_sem,d1663_b2,SL,m1,id2,id4,pk2 [.row false [.int .i64 g.n,.sl 2 (prs g.E),.sl 1 (wcs g.W)],.dead,.row false (ints O)] hO rfl,List.length_set]
theorem print_run {g:Gr} (hg:okG g):runP tab 1663 [.agg (gS g)] []=some (.tup (prA g),[]):=by
 have gi:=isg_run hg
 simp only [gS] at gi
 refine runP_fn t1663 rfl ?_
 unfold prA
 cases hb:isB g with
 | false=>
  rw [hb] at gi
  rw [if_neg (by simp)]
  simp (disch:=omega) only [go_sem,d1663,gS,gi]
 | true=>
  rw [hb] at gi
  rw [if_pos rfl]
  have hw:=isB_W hb
  obtain ⟨n,hn,n1,n2,n3,ha,hp⟩:=isB_pl hb
  have gl:=lays_run (l:=[g.n]) (by simp) (by simp;omega)
  have h5:=encN_len (n:=g.n.toNat) (by omega)
  have e5:encL [g.n]=encN g.n.toNat:=by simp [encL]
  rw [e5] at gl
  rw [show ints [g.n]=[.int .i64 g.n] from rfl] at gl
  have tn:tile g.n.toNat [.nils]=wyR n []:=by rw [wyR_zero,tile_nils];congr 1;omega
  simp (disch:=omega) only [go_sem,d1663,gS,gi,tn]
  refine Ev_loop0 (prS g n) g.E.length (by simp [prS]) (fun i hi=>pr_edge (by omega) hp hi) ?_
  unfold prS
  rw [List.take_length]
  have m1:=wyR_len n g.E
  simp (disch:=omega) only [go_sem,d1663_b0,gl,m1,List.length_cons,List.length_nil]
  refine Ev_loop0 (pwR g n) g.W.length (by simp [pwR,bodG]) (fun i hi=>pw_row hg hb hn hi) ?_
  unfold pwR
  rw [bodG_all hb]
  simp (disch:=omega) only [go_sem,d1663_b1]
end Go.Proofs.Ytgdfncnpcdafmaa
