import Derived.Test.YtfbfbennheeglaaAe
import Derived.Test.YtfbfbennheeglaaAf
import Derived.Test.YtfbfbennheeglaaNe
import Derived.Test.YtfbfbennheeglaaKup
namespace Go.Proofs.Ytfbfbennheeglaa
set_option linter.unusedSimpArgs false
set_option linter.unusedVariables false
set_option maxHeartbeats 4000000
set_option maxRecDepth 100000
theorem take_run {f:Bool} {p d:Int × Int} (hp:smallP p) (hd:smallP d):runP tab 1728 [.agg [.int .i64 d.1,.int .i64 d.2],.ref 0 0,.ref 1 0] [.row false [.bool f],.row false [.int .i64 p.1,.int .i64 p.2]]=some (.tup [],if f=false∨d.1+d.2<p.1+p.2 then [.row false [.bool true],.row false [.int .i64 d.1,.int .i64 d.2]] else [.row false [.bool f],.row false [.int .i64 p.1,.int .i64 p.2]]):=by
 refine runP_fn t1728 rfl ?_
 have g:=lessP_run hd hp
 cases f with
 |false=>
  rw [if_pos (.inl rfl)]
  simp (disch:=omega) only [go_sem,d1728]
 |true=>
  by_cases c:d.1+d.2<p.1+p.2
  ·rw [decide_eq_true c] at g
   rw [if_pos (.inr c)]
   simp (disch:=omega) only [go_sem,d1728,g]
  ·rw [decide_eq_false c] at g
   rw [if_neg (by simp [c])]
   simp (disch:=omega) only [go_sem,d1728,g]
def tabN:Nat→Option Entry:=fun k=>if k=1725 then some (.fn d1725) else if k=1720 then some (.fn d1720) else tab k
theorem u1725:tabN 1725=some (.fn d1725):=rfl
theorem u1720:tabN 1720=some (.fn d1720):=rfl
theorem tabN_le:TLe tab tabN:=by
 intro k e h
 unfold tabN
 split
 ·rename_i hk;subst hk;rw [nd1725] at h;cases h
 ·split
  ·rename_i hk;subst hk;rw [nd1720] at h;cases h
  ·exact h
theorem upN {k:Nat} {as:List AV} {hps:List Blk} {r:AV × List Blk} (h:runP tab k as hps=some r):runP tabN k as hps=some r:=runP_up tabN_le h
theorem vcE_idlt' (n:Nat) (l:List Ml):allL (pidlt n) (vcE l)=true:=by
 unfold vcE
 generalize kyE l=ks
 induction ks with
 |nil=>rfl
 |cons k ks ih=>
  simp only [List.map_cons,allL,Bool.and_eq_true]
  exact ⟨rfl,ih⟩
theorem vcE_ren' (f:Nat→Nat) (l:List Ml):mapL (ren1 f) (vcE l)=vcE l:=by
 unfold vcE
 generalize kyE l=ks
 induction ks with
 |nil=>rfl
 |cons k ks ih=>
  simp only [List.map_cons,mapL,List.cons.injEq]
  exact ⟨rfl,ih⟩
attribute [go_sem] vcE_len vcE_idlt' vcE_ren'
def a0:List AV:=[.bool false,.int .i64 0,.nils]
def fS (sm:Nat) (xs ms:List Ml) (i:Nat):St:=⟨[(1,.sl sm (mls ms)),(4,.ref 0 0),(6,.mref 1),(14,.sl 4 (mls xs)),(15,.int .i64 (xs.length:Int)),(16,.int .i64 (i:Int))],[.row false a0,.mp (ints (kyE (xs.take i))) (vcE (xs.take i))],0,[(0,2,[1,4,6,14,15,16],[(4,0),(6,1)])]⟩
theorem far_step {sm:Nat} {xs ms:List Ml} (hl:xs.length≤100000) {i:Nat} (hi:i<xs.length):Ev tab d1720_b0 (fS sm xs ms i) (fun x st=>x=.normal∧st=fS sm xs ms (i+1)):=by
 have L:=mls_len xs
 have Ld:xs.length*4 / 4=xs.length:=by omega
 have e1:=mls_at hi
 have et:xs.take (i+1)=xs.take i++[xs.getD i default]:=take_snoc default hi
 unfold fS
 rw [et]
 generalize xs.take i=P at *
 generalize xs.getD i default=x at *
 simp only [mlC] at e1
 by_cases hx:isD x=true
 case neg=>
  have hx':isD x=false:=by simpa using hx
  obtain ⟨q1,q2⟩:=vcE_no (l:=P) hx'
  rw [q1,q2]
  have h0:¬ (x.b=0∨x.b=1):=by simpa [isD] using hx'
  have h1:¬ x.b=0:=fun h=>h0 (.inl h)
  have h2:¬ x.b=1:=fun h=>h0 (.inr h)
  simp (disch:=omega) only [go_sem,d1720_b0,L,Ld,e1,h1,h2,a0]
 have h0:x.b=0∨x.b=1:=by simpa [isD] using hx
 by_cases hk:x.v∈kyE P
 ·obtain ⟨j,hj,hjx,hg⟩:=kget_iin hk
  have hv:=vcE_at hj
  rw [hjx] at hv
  have hs:=vcE_set (l:=P) hx hj hjx
  rw [kyE_snoc,if_pos hx,if_pos hk]
  generalize enF P x.v=e at *
  obtain ⟨t0,t1,d0,d1⟩:=e
  simp only [enC] at hv
  rcases h0 with h0 | h0
  ·rw [enU,if_pos h0] at hs
   cases t0 with
   |false=>
    rw [if_pos (.inl rfl)] at hs
    simp only [enC] at hs
    simp (disch:=omega) only [go_sem,d1720_b0,L,Ld,e1,h0,a0,hg,hv,hs,vcE_len]
    rfl
   |true=>
    by_cases c:x.d<d0
    ·rw [if_pos (.inr c)] at hs
     simp only [enC] at hs
     simp (disch:=omega) only [go_sem,d1720_b0,L,Ld,e1,h0,a0,hg,hv,hs,vcE_len]
     rfl
    ·rw [if_neg (by simp [c])] at hs
     simp only [enC] at hs
     simp (disch:=omega) only [go_sem,d1720_b0,L,Ld,e1,h0,a0,hg,hv,hs,vcE_len]
  ·rw [enU,if_neg (show ¬ x.b=0 by omega)] at hs
   cases t1 with
   |false=>
    rw [if_pos (.inl rfl)] at hs
    simp only [enC] at hs
    simp (disch:=omega) only [go_sem,d1720_b0,L,Ld,e1,h0,a0,hg,hv,hs,vcE_len]
    rfl
   |true=>
    by_cases c:x.d<d1
    ·rw [if_pos (.inr c)] at hs
     simp only [enC] at hs
     simp (disch:=omega) only [go_sem,d1720_b0,L,Ld,e1,h0,a0,hg,hv,hs,vcE_len]
     rfl
    ·rw [if_neg (by simp [c])] at hs
     simp only [enC] at hs
     simp (disch:=omega) only [go_sem,d1720_b0,L,Ld,e1,h0,a0,hg,hv,hs,vcE_len]
 ·have hg:=kget_iout hk
  have hs:=vcE_new (l:=P) hx hk
  rw [kyE_snoc,if_pos hx,if_neg hk]
  have ek:ints (kyE P)++[AV.int .i64 x.v]=ints (kyE P++[x.v]):=by simp [ints]
  rcases h0 with h0 | h0
  ·rw [enU,if_pos h0,if_pos (.inl rfl)] at hs
   simp only [enC,en0] at hs
   simp (disch:=omega) only [go_sem,d1720_b0,L,Ld,e1,h0,a0,hg,hs,ek,vcE_len]
   rfl
  ·rw [enU,if_neg (show ¬ x.b=0 by omega),if_pos (.inl rfl)] at hs
   simp only [enC,en0] at hs
   simp (disch:=omega) only [go_sem,d1720_b0,L,Ld,e1,h0,a0,hg,hs,ek,vcE_len]
   rfl
theorem ex_gst {o:Option St} {R:St→Prop} (h:gst o R):∃ st2,o=some st2∧R st2:=by
 cases o with
 |none=>exact h.elim
 |some st=>exact ⟨st,rfl,h⟩
theorem ex_and {o:Option St} {A B:St→Prop} (h:∀ s,B s→A s) (k:∃ s,o=some s∧B s):∃ s,o=some s∧A s:=by
 obtain ⟨s,h1,h2⟩:=k
 exact ⟨s,h1,h s h2⟩
theorem en_small {l:List Ml} {v:Int} (hc:clB l=true) (hb:bothE (enF l v)=true):smallP ((enF l v).d0,(enF l v).d1):=by
 unfold bothE at hb
 rw [Bool.and_eq_true] at hb
 have ok:=enF_ok l v
 obtain ⟨x,hx,_,_,x3⟩:=ok.a0 hb.1
 obtain ⟨y,hy,_,_,y3⟩:=ok.a1 hb.2
 have h1:=clB_mem hc x hx
 have h2:=clB_mem hc y hy
 exact ⟨by simp only;omega,by simp only;omega⟩
theorem plE_snoc (l:List Ml) (ks:List Int) (v:Int):plE l (ks++[v])=plE l ks++(if bothE (enF l v)=true then [(enF l v).d0+(enF l v).d1] else []):=by
 unfold plE
 rw [List.filter_append,List.map_append]
 by_cases h:bothE (enF l v)=true
 ·rw [if_pos h,List.filter_cons_of_pos (p:=fun v=>bothE (enF l v)) h];rfl
 ·rw [if_neg h,List.filter_cons_of_neg (p:=fun v=>bothE (enF l v)) h];rfl
structure LS (L:List Int) (f:Bool) (p:Int × Int):Prop where
 f:f=(mnL L).isSome
 s:∀ m,mnL L=some m→p.1+p.2=m
 b:smallP p
theorem LS.put {L:List Int} {f:Bool} {p d:Int × Int} (h:LS L f p) (hd:smallP d):LS (L++[d.1+d.2]) (if f=false∨d.1+d.2<p.1+p.2 then true else f) (if f=false∨d.1+d.2<p.1+p.2 then d else p):=by
 obtain ⟨h1,h2,h3⟩:=h
 cases hm:mnL L with
 |none=>
  rw [hm] at h1
  have hf:f=false:=h1
  rw [if_pos (.inl hf),if_pos (.inl hf)]
  exact ⟨by rw [mnL_snoc,hm];rfl,fun m e=>by rw [mnL_snoc,hm] at e;injection e,hd⟩
 |some a=>
  rw [hm] at h1
  have hf:f=true:=h1
  have ha:=h2 a hm
  by_cases c:d.1+d.2<p.1+p.2
  ·rw [if_pos (.inr c),if_pos (.inr c)]
   have e0:mnL (L++[d.1+d.2])=some (d.1+d.2):=by
    rw [mnL_snoc,hm]
    show (if d.1+d.2<a then some (d.1+d.2) else some a)=_
    rw [if_pos (by omega)]
   exact ⟨by rw [e0];rfl,fun m e=>by rw [e0] at e;injection e,hd⟩
  ·rw [if_neg (by simp [hf,c]),if_neg (by simp [hf,c])]
   have e0:mnL (L++[d.1+d.2])=some a:=by
    rw [mnL_snoc,hm]
    show (if d.1+d.2<a then some (d.1+d.2) else some a)=_
    rw [if_neg (by omega)]
   exact ⟨by rw [e0];exact hf,fun m e=>by rw [e0] at e;injection e with e;omega,h3⟩
def ksOf (l:List Ml) (seen:List Nat):List Int:=seen.map fun i=>(kyE l).getD i 0
def lsM:List Mark:=[(0,5,[4,5,6,11],[(4,2),(5,3),(11,4)])]
def lsH (l:List Ml) (f:Bool) (p:Int × Int) (seen:List Nat):List Blk:=[.row false a0,.mp (ints (kyE l)) (vcE l),.row false [.int .i64 p.1,.int .i64 p.2],.row false [.bool f],.it 1 (kyE l).length seen]
def lsS (l:List Ml) (f:Bool) (p:Int × Int) (seen:List Nat):St:=⟨[(4,.ref 2 0),(5,.ref 3 0),(6,.clo 1728 [] [.ref 3 0,.ref 2 0]),(11,.ref 4 0)],lsH l f p seen,2,lsM⟩
section
variable {P:Program}
theorem least_loop (G:Good P fid tabN) {l:List Ml} (hl:l.length≤60000) (hc:clB l=true):
  SayS P fid (.loop d1725_b0) (lsS l false (0,0) []) (fun e st=>e=.exit 0∧∃ seen f p,(ksOf l seen).Perm (kyE l)∧LS (plE l (ksOf l seen)) f p∧∃ env,lk env 4=.ref 2 0∧lk env 5=.ref 3 0∧st=⟨env,lsH l f p seen,2,lsM⟩):=by
 have hkl:=kyE_len l
 refine S_loop (fun k st=>∃ (seen:List Nat) (f:Bool) (p:Int × Int),seen.Nodup∧(∀ i∈seen,i<(kyE l).length)∧k=(kyE l).length - seen.length∧LS (plE l (ksOf l seen)) f p∧st=lsS l f p seen) ?_ ⟨[],false,(0,0),List.nodup_nil,by simp,rfl,⟨rfl,(by intro m e;cases e),⟨by simp only;omega,by simp only;omega⟩⟩,rfl⟩
 rintro k st ⟨seen,f,p,hnd,hin,rfl,hls,rfl⟩
 have hsl:seen.length≤(kyE l).length:=by simpa using hnd.length_le_of_subset (l₂:=List.range (kyE l).length) fun i hi=>List.mem_range.2 (hin i hi)
 unfold d1725_b0 lsS lsH
 refine S_after (S_seq (S_ops (O_cons (P_next (id:=4) (mid:=1) (n:=(kyE l).length) (seen:=seen) (ks:=ints (kyE l)) (vs:=vcE l) rfl rfl rfl (ints_length _) ?_ ?_))))
 ·intro hall
  have hperm:(ksOf l seen).Perm (kyE l):=by
   have h1:seen.Perm (List.range (kyE l).length):=by
    refine (List.perm_ext_iff_of_nodup hnd List.nodup_range).2 fun i=>?_
    rw [List.mem_range]
    exact ⟨hin i,hall i⟩
   have h2:(List.range (kyE l).length).map (fun i=>(kyE l).getD i 0)=kyE l:=by
    apply List.ext_getElem (by simp)
    intro i h1 h2
    simp [List.getD_eq_getElem?_getD,List.getElem?_eq_getElem h2]
   exact (h1.map fun i=>(kyE l).getD i 0).trans (by rw [h2])
  refine O_det G ?_
  simp (disch:=omega) only [go_sem,St.put]
  refine S_det G ?_
  simp (disch:=omega) only [go_sem]
  exact ⟨seen,f,p,hperm,hls,_,rfl,rfl,rfl⟩
 ·intro i hi his
  refine O_det G ?_
  simp (disch:=omega) only [go_sem,St.put]
  have hy:=vcE_at hi
  have hlast:(seen++[i]).getLast? = some i:=by simp
  have hnd2:(seen++[i]).Nodup:=by
   rw [List.nodup_append]
   exact ⟨hnd,by simp,fun a ha c hc e=>his (by rw [List.mem_singleton] at hc;rw [←hc,←e];exact ha)⟩
  have hlt2:∀ j∈seen++[i],j<(kyE l).length:=fun j hj=>by
   rcases List.mem_append.1 hj with h | h
   ·exact hin j h
   ·rw [List.mem_singleton] at h;omega
  have hsl2:(seen++[i]).length≤(kyE l).length:=by simpa using hnd2.length_le_of_subset (l₂:=List.range (kyE l).length) fun j hj=>List.mem_range.2 (hlt2 j hj)
  have hs1:(seen++[i]).length=seen.length+1:=by simp
  have eks:ksOf l (seen++[i])=ksOf l seen++[(kyE l).getD i 0]:=by simp [ksOf]
  have hsn:=plE_snoc l (ksOf l seen) ((kyE l).getD i 0)
  have hsm:=fun h=>en_small (l:=l) (v:=(kyE l).getD i 0) hc h
  have e3:(ints (kyE l))[i]? = some (.int .i64 ((kyE l).getD i 0)):=by simp [ints,List.getD_eq_getElem?_getD,List.getElem?_eq_getElem hi]
  generalize hv:(kyE l).getD i 0=v at *
  generalize enF l v=e at *
  obtain ⟨t0,t1,d0,d1⟩:=e
  simp only [enC] at hy
  simp only [bothE] at hsn hsm
  have fin:∀ (f':Bool) (p':Int × Int) (st':St),LS (plE l (ksOf l (seen++[i]))) f' p'→st'=lsS l f' p' (seen++[i])→∃ n',n'<(kyE l).length - seen.length∧∃ (seen:List Nat) (f:Bool) (p:Int × Int),seen.Nodup∧(∀ i∈seen,i<(kyE l).length)∧n'=(kyE l).length - seen.length∧LS (plE l (ksOf l seen)) f p∧st'=lsS l f p seen:=fun f' p' st' h1 h2=>⟨(kyE l).length - (seen++[i]).length,by omega,seen++[i],f',p',hnd2,hlt2,rfl,h1,h2⟩
  refine S_det G ?_
  have b1:(false == true)=false:=rfl
  have b2:(true == true)=true:=rfl
  have e5:([3]:List Nat).contains 2=false:=rfl
  have e6:idxOf [3,2] 3=0:=rfl
  have e7:idxOf [3,2] 2=1:=rfl
  have e8:([2,3]:List Nat).reverse=[3,2]:=rfl
  have Lk:=ints_length (kyE l)
  clear hnd hin hnd2 hlt2 hv hkl
  by_cases ht:t0=true∧t1=true
  case neg=>
   have hb:(t0 == true && t1 == true)=false:=by cases t0<;>cases t1<;>first | rfl | exact absurd ⟨rfl,rfl⟩ ht
   have hb2:(t0 && t1)=false:=by cases t0<;>cases t1<;>first | rfl | exact absurd ⟨rfl,rfl⟩ ht
   simp only [hb2,Bool.false_eq_true,if_false,List.append_nil] at hsn
   have hls2:LS (plE l (ksOf l (seen++[i]))) f p:=by rw [eks,hsn];exact hls
   have fin1:=fun st' h=>fin f p st' hls2 h
   clear hsn hsm fin hls hls2 eks
   simp (disch:=omega) only [go_sem,hlast,hy,e3,Lk,aeqL,aeq,encA,digA,hb]
   refine ex_and (B:=fun st2=>st2=lsS l f p (seen++[i])) fin1 ?_
   refine ex_gst ?_
   unfold lsM
   simp (disch:=omega) only [go_sem,a0]
   rfl
  case pos=>
   obtain ⟨rfl,rfl⟩:=ht
   simp only [Bool.and_self,if_true] at hsn
   have hd:=hsm rfl
   have gt:=upN (take_run (f:=f) hls.b hd)
   have hput:=hls.put hd
   rw [←hsn,←eks] at hput
   simp only at gt hput
   have fin1:=fun st' h=>fin _ _ st' hput h
   clear hsn hsm fin hls hput eks hd
   by_cases c:f=false∨d0+d1<p.1+p.2
   ·rw [if_pos c] at gt
    simp only [if_pos c] at fin1
    clear c
    simp (disch:=omega) only [go_sem,hlast,hy,e3,Lk,aeqL,aeq,encA,digA,b2,e5,e6,e7,e8,gt]
    refine ex_and (B:=fun st2=>st2=lsS l true (d0,d1) (seen++[i])) fin1 ?_
    refine ex_gst ?_
    unfold lsM
    simp (disch:=omega) only [go_sem,a0]
    rfl
   ·rw [if_neg c] at gt
    simp only [if_neg c] at fin1
    clear c
    simp (disch:=omega) only [go_sem,hlast,hy,e3,Lk,aeqL,aeq,encA,digA,b2,e5,e6,e7,e8,gt]
    refine ex_and (B:=fun st2=>st2=lsS l f p (seen++[i])) fin1 ?_
    refine ex_gst ?_
    unfold lsM
    simp (disch:=omega) only [go_sem,a0]
    rfl
end
section
variable {P:Program}
def LsQ (l:List Ml) (v:AV) (hp':List Blk):Prop:=∃ seen f p,(ksOf l seen).Perm (kyE l)∧LS (plE l (ksOf l seen)) f p∧v=.tup [.int .i64 (p.1+p.2),.bool f]∧hp'=lsH l f p seen
def h0 (l:List Ml):List Blk:=[.row false a0,.mp (ints (kyE l)) (vcE l)]
theorem least_fn (G:Good P fid tabN) {l:List Ml} (hl:l.length≤60000) (hc:clB l=true):SayC P fid 1725 [.mref 1] (h0 l) (LsQ l):=by
 have Lk:=ints_length (kyE l)
 refine C_fn G u1725 ?_
 unfold d1725
 refine S_seq (SayS.mono (S_det G (Q:=fun x st'=>x=.normal∧st'=⟨[(3,.bool false),(2,.int .i64 0),(0,.mref 1)],h0 l,2,[]⟩) ?_) ?_)
 ·simp (disch:=omega) only [go_sem,h0]
 rintro x st ⟨rfl,rfl⟩
 refine S_seq (SayS.mono (S_det G (Q:=fun x st'=>x=.normal∧st'=⟨[(4,.ref 2 0),(3,.bool false),(2,.int .i64 0),(0,.mref 1)],h0 l++[.row false [.int .i64 0,.int .i64 0]],2,[]⟩) ?_) ?_)
 ·simp (disch:=omega) only [go_sem,h0]
 rintro x st ⟨rfl,rfl⟩
 refine S_seq (SayS.mono (S_det G (Q:=fun x st'=>x=.normal∧st'=⟨[(5,.ref 3 0),(4,.ref 2 0),(3,.bool false),(2,.int .i64 0),(0,.mref 1)],h0 l++[.row false [.int .i64 0,.int .i64 0],.row false [.bool false]],2,[]⟩) ?_) ?_)
 ·simp (disch:=omega) only [go_sem,h0]
 rintro x st ⟨rfl,rfl⟩
 refine S_seq (SayS.mono (S_det G (Q:=fun x st'=>x=.normal∧st'=⟨[(6,.clo 1728 [] [.ref 3 0,.ref 2 0]),(9,.clo 1728 [] [.ref 3 0,.ref 2 0]),(5,.ref 3 0),(4,.ref 2 0),(3,.bool false),(2,.int .i64 0),(0,.mref 1)],h0 l++[.row false [.int .i64 0,.int .i64 0],.row false [.bool false]],2,[]⟩) ?_) ?_)
 ·simp (disch:=omega) only [go_sem,h0]
 rintro x st ⟨rfl,rfl⟩
 refine S_seq (S_seq (SayS.mono (S_det G (Q:=fun x st'=>x=.normal∧st'=⟨[(11,.ref 4 0),(10,.mref 1),(6,.clo 1728 [] [.ref 3 0,.ref 2 0]),(9,.clo 1728 [] [.ref 3 0,.ref 2 0]),(5,.ref 3 0),(4,.ref 2 0),(3,.bool false),(2,.int .i64 0),(0,.mref 1)],lsH l false (0,0) [],2,[]⟩) ?_) ?_))
 ·simp (disch:=omega) only [go_sem,h0,Lk,lsH]
 rintro x st ⟨rfl,rfl⟩
 refine S_block (S_ghost (st1:=lsS l false (0,0) []) rfl (SayS.mono (least_loop G hl hc) ?_))
 rintro x st ⟨rfl,seen,f,p,hperm,hls,env,h4,h5,rfl⟩
 have hb:=hls.b
 obtain ⟨⟨b1,b2⟩,b3,b4⟩:=hb
 refine S_ghost (st1:=⟨[(4,.ref 2 0),(5,.ref 3 0)],lsH l f p seen,2,lsM⟩) (by simp [ghost,keepEnv,h4,h5]) (SayS.mono (S_det G (Q:=fun x st'=>x=.ret∧lk st'.env 2=.int .i64 (p.1+p.2)∧lk st'.env 3=.bool f∧st'.hp=lsH l f p seen) ?_) ?_)
 ·unfold lsH
  simp (disch:=omega) only [go_sem]
 rintro x ⟨env',hp',lo,mks⟩ ⟨rfl,h1',h2',h3'⟩
 simp only at h1' h2' h3'
 subst h3'
 refine ⟨nofun,.tup [.int .i64 (p.1+p.2),.bool f],by simp [results,rvs,rvv,h1',h2',nz,nz1,tupv],?_⟩
 refine ⟨seen,f,p,hperm,hls,rfl,?_⟩
 simp [rsIds,rvv,h1',h2',immIds,still]
theorem of_finQ {n:Nat} {res:List RS} {r:AV × List Blk} {x:AX} {st:St} (h:finQ n res r x st):(∀ id,x≠.exit id)∧∃ ru,results st.env st.hp res=some ru∧fin n (still st.hp (rsIds st.env st.hp res)) ru=some r:=by
 obtain ⟨h1,h2⟩:=h
 rw [obI] at h2
 exact ⟨h1,h2⟩
theorem sentS_run {sm:Nat} {ms:List Ml} {d:Int} (hsm:sm=4∨ms=[]) (hl:ms.length≤1000000):runP tab 1726 [.sl sm (mls ms),.int .i64 d] []=some (.bool (hasB ms d),[]):=by
 rcases hsm with rfl | rfl
 ·exact sent_run hl
 ·refine runP_fn t1726 rfl ?_
  simp (disch:=omega) only [go_sem,d1726,mls_nil,List.length_nil]
  refine Ev_stop ?_
  simp (disch:=omega) only [go_sem,d1726_b0,mls_nil,List.length_nil,hasB,List.any_nil]
def farT (xs ms:List Ml):AV:=match mnL (smL xs) with
 |some d=>.tup [ansA true d [],.bool true]
 |none=>.tup [ansA false 0 [],.bool (!hasB ms 0 || !hasB ms 1)]
def farQ (xs ms:List Ml) (x:AX) (st:St):Prop:=finQ 0 d1720.res (farT xs ms,[]) x st
theorem far_fn (G:Good P fid tabN) {sm:Nat} {xs ms:List Ml} (hsm:sm=4∨ms=[]) (hl:xs.length≤60000) (hm:ms.length≤60000) (hc:clB xs=true):SayC P fid 1720 [.sl 4 (mls xs),.sl sm (mls ms)] [] (fun v hp'=>fin 0 hp' v=some (farT xs ms,[])):=by
 have L:=mls_len xs
 have Ld:xs.length*4 / 4=xs.length:=by omega
 have g0:=upN (sentS_run (d:=0) hsm (by omega))
 have g1:=upN (sentS_run (d:=1) hsm (by omega))
 refine C_fn G u1720 ?_
 refine SayS.mono (Q:=farQ xs ms) ?_ (fun x st h=>of_finQ h)
 unfold d1720
 refine S_seq (SayS.mono (S_det G (Q:=fun x st'=>x=.normal∧st'=⟨[(5,.bool false),(4,.ref 0 0),(0,.sl 4 (mls xs)),(1,.sl sm (mls ms))],[.row false a0],0,[]⟩) ?_) ?_)
 ·simp (disch:=omega) only [go_sem,a0]
 rintro x st ⟨rfl,rfl⟩
 refine S_seq (SayS.mono (S_det G (Q:=fun x st'=>x=.normal∧st'=⟨[(6,.mref 1),(13,.mref 1),(5,.bool false),(4,.ref 0 0),(0,.sl 4 (mls xs)),(1,.sl sm (mls ms))],[.row false a0,.mp [] []],0,[]⟩) ?_) ?_)
 ·simp (disch:=omega) only [go_sem,a0]
 rintro x st ⟨rfl,rfl⟩
 refine S_seq (SayS.mono (S_det G (Q:=fun x st'=>x=.normal∧lk st'.env 1=.sl sm (mls ms)∧lk st'.env 4=.ref 0 0∧lk st'.env 6=.mref 1∧st'.hp=h0 xs∧st'.lo=0) ?_) ?_)
 ·simp (disch:=omega) only [go_sem,a0,L,Ld]
  refine Ev_loop0 (fun i=>fS sm xs ms i) xs.length rfl (fun i hi=>?_) ?_
  ·obtain ⟨r,h1,h2⟩:=far_step (by omega) hi
   exact ⟨r,run_up tabN_le h1,h2⟩
  ·unfold fS
   rw [List.take_length]
   simp (disch:=omega) only [go_sem,d1720_b0,L,Ld,a0]
   rfl
 rintro x ⟨env,hp,lo,mks⟩ ⟨rfl,h1,h4,h6,h7,h8⟩
 simp only at h1 h4 h6 h7 h8
 subst h7 h8
 refine S_ghost (st1:=⟨[(1,.sl sm (mls ms)),(4,.ref 0 0),(6,.mref 1)],h0 xs,0,mks⟩) (by simp [ghost,keepEnv,h1,h4,h6]) ?_
 refine S_seq (S_seq (S_ops (O_cons (P_astep (r:=(.mref 1,h0 xs)) rfl ?_))))
 refine O_cons (P_all (SayC.mono (least_fn G hl hc) ?_))
 rintro v hp' ⟨seen,f,p,hperm,hls,rfl,rfl⟩
 have hmn:mnL (smL xs)=mnL (plE xs (ksOf xs seen)):=(least_eq hperm).symm
 refine O_det G ?_
 simp (disch:=omega) only [go_sem,St.put,thaw]
 have hb:=hls.b
 have hf:=hls.f
 have hs:=hls.s
 rw [←hmn] at hf hs
 obtain ⟨⟨b1,b2⟩,b3,b4⟩:=hb
 cases f with
 |true=>
  obtain ⟨m,hm1⟩:∃ m,mnL (smL xs)=some m:=Option.isSome_iff_exists.1 hf.symm
  have hpm:=hs m hm1
  have eT:farT xs ms=.tup [ansA true (p.1+p.2) [],.bool true]:=by rw [farT,hm1,hpm]
  clear hls hmn hperm hf hs
  refine SayS.mono (S_det G (Q:=fun x st'=>x=.ret∧finQ 0 d1720.res (.tup [ansA true (p.1+p.2) [],.bool true],[]) .ret st') ?_) ?_
  ·unfold lsH
   simp (disch:=omega) only [go_sem,a0,ansA,prs_nil18,d1720]
  ·rintro x st ⟨rfl,hq⟩
   simp only [thn_ret]
   unfold farQ
   rw [eT]
   exact hq
 |false=>
  have hm1:mnL (smL xs)=none:=by
   cases h:mnL (smL xs) with
   |none=>rfl
   |some m=>rw [h] at hf;cases hf
  have eT:farT xs ms=.tup [ansA false 0 [],.bool (!hasB ms 0 || !hasB ms 1)]:=by rw [farT,hm1]
  clear hls hmn hperm hf hs
  refine SayS.mono (S_det G (Q:=fun x st'=>x=.normal∧lk st'.env 1=.sl sm (mls ms)∧lk st'.env 4=.ref 0 0∧st'.hp=lsH xs false p seen∧st'.lo=0) ?_) ?_
  ·simp (disch:=omega) only [go_sem]
  ·rintro x ⟨env2,hp2,lo2,mks2⟩ ⟨rfl,k1,k4,k7,k8⟩
   simp only at k1 k4 k7 k8
   subst k7 k8
   simp only [thn_normal]
   refine S_ghost (st1:=⟨[(1,.sl sm (mls ms)),(4,.ref 0 0)],lsH xs false p seen,0,mks2⟩) (by simp [ghost,keepEnv,k1,k4]) ?_
   refine SayS.mono (S_det G (Q:=fun x st'=>finQ 0 d1720.res (.tup [ansA false 0 [],.bool (!hasB ms 0 || !hasB ms 1)],[]) x st') ?_) (fun x st hq=>by unfold farQ;rw [eT];exact hq)
   unfold lsH
   cases e0:hasB ms 0<;>rw [e0] at g0
   ·simp (disch:=omega) only [go_sem,a0,ansA,prs_nil18,d1720,g0,Bool.not_false,Bool.true_or]
   ·cases e1:hasB ms 1<;>rw [e1] at g1
    ·simp (disch:=omega) only [go_sem,a0,ansA,prs_nil18,d1720,g0,g1,Bool.not_false,Bool.not_true,Bool.false_or]
    ·simp (disch:=omega) only [go_sem,a0,ansA,prs_nil18,d1720,g0,g1,Bool.not_true,Bool.false_or]
end
theorem mls_inj {a b:List Ml} (h:mls a=mls b):a=b:=by
 induction a generalizing b with
 |nil=>cases b with
  |nil=>rfl
  |cons y b=>simp [mls,mlC] at h
 |cons x a ih=>
  cases b with
  |nil=>simp [mls,mlC] at h
  |cons y b=>
   simp only [mls_cons,List.cons.injEq,AV.int.injEq,true_and] at h
   obtain ⟨h1,h2,h3,h4,h5⟩:=h
   rw [ih h5]
   congr 1
   cases x;cases y;simp_all
def FarQ (as:List AV) (hp:List Blk) (q:Nat × List Ml × List Ml):Prop:=as=[.sl 4 (mls q.2.1),.sl q.1 (mls q.2.2)]∧hp=[]∧(q.1=4∨q.2.2=[])∧q.2.1.length≤60000∧q.2.2.length≤60000∧clB q.2.1=true
open Classical in
noncomputable def gFar (as:List AV) (hp:List Blk):Option (AV × List Blk):=
 if h:∃ q:Nat × List Ml × List Ml,FarQ as hp q then some (farT h.choose.2.1 h.choose.2.2,[]) else none
theorem gFar_eq {sm:Nat} {xs ms:List Ml} (hsm:sm=4∨ms=[]) (hl:xs.length≤60000) (hm:ms.length≤60000) (hc:clB xs=true):gFar [.sl 4 (mls xs),.sl sm (mls ms)] []=some (farT xs ms,[]):=by
 have hx:∃ q:Nat × List Ml × List Ml,FarQ [.sl 4 (mls xs),.sl sm (mls ms)] [] q:=⟨(sm,xs,ms),rfl,rfl,hsm,hl,hm,hc⟩
 unfold gFar
 rw [dif_pos hx]
 have h2:=hx.choose_spec
 generalize hx.choose=q at h2
 obtain ⟨h3,_⟩:=h2
 simp only [List.cons.injEq,AV.sl.injEq,and_true,true_and] at h3
 rw [mls_inj h3.1,mls_inj h3.2.2]
noncomputable def tabM:Nat→Option Entry:=fun k=>if k=1720 then some (.orc gFar) else tab k
theorem m1720:tabM 1720=some (.orc gFar):=rfl
theorem tabM_le:TLe tab tabM:=by
 intro k e h
 unfold tabM
 split
 ·rename_i hk;subst hk;rw [nd1720] at h;cases h
 ·exact h
theorem up {k:Nat} {as:List AV} {hps:List Blk} {r:AV × List Blk} (h:runP tab k as hps=some r):runP tabM k as hps=some r:=runP_up tabM_le h
theorem farM_run {sm:Nat} {xs ms:List Ml} (hsm:sm=4∨ms=[]) (hl:xs.length≤60000) (hm:ms.length≤60000) (hc:clB xs=true):runP tabM 1720 [.sl 4 (mls xs),.sl sm (mls ms)] []=some (farT xs ms,[]):=by
 rw [runP_orc m1720];exact gFar_eq hsm hl hm hc
theorem goodN_of {P:Program} (G:Good P fid tab) (h1:∀ f,fid f=some 1725→EntryOk P fid f (.fn d1725)) (h2:∀ f,fid f=some 1720→EntryOk P fid f (.fn d1720)):Good P fid tabN:=by
 intro f k e hf he
 unfold tabN at he
 split at he
 ·rename_i hk;subst hk;injection he with he;subst he;exact h1 f hf
 ·split at he
  ·rename_i hk;subst hk;injection he with he;subst he;exact h2 f hf
  ·exact G f k e hf he
theorem goodM_of {P:Program} (G:Good P fid tab) (GN:Good P fid tabN):Good P fid tabM:=by
 intro f k e hf he
 unfold tabM at he
 split at he
 ·rename_i hk;subst hk;injection he with he;subst he
  have hthere:FnThere P f:=by
   obtain ⟨fn,c,q1,q2,q3,_⟩:=GN f 1720 _ hf u1720
   exact ⟨fn,q1,by rw [q2];rfl,q3⟩
  refine ⟨hthere,fun as hps r h=>?_⟩
  unfold gFar at h
  split at h
  ·rename_i hx
   injection h with h;subst h
   have hsp:=hx.choose_spec
   generalize hx.choose=q at hsp ⊢
   obtain ⟨b1,b2,b6,b3,b4,b5⟩:=hsp
   rw [b1,b2]
   exact (C_ok (far_fn GN b6 b3 b4 b5) hf).2
  ·cases h
 ·exact G f k e hf he
end Go.Proofs.Ytfbfbennheeglaa
