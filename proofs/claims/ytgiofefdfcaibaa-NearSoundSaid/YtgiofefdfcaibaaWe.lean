import Derived.Test.YtgiofefdfcaibaaVm
import Derived.Test.YtgiofefdfcaibaaIb
import Derived.Test.YtgiofefdfcaibaaKz
namespace Go.Proofs.Ytgiofefdfcaibaa
set_option linter.unusedSimpArgs false
set_option linter.unusedVariables false
set_option maxHeartbeats 4000000
set_option maxRecDepth 100000
def st1 (d:Int) (t:List Int × List Int) (w:Int):List Int × List Int:=if gi t.1 w.toNat<0 then (t.1.set w.toNat d,t.2++[w]) else t
def stV (nb:Int→List Int) (d:Int) (t:List Int × List Int) (v:Int):List Int × List Int:=(nb v).foldl (st1 d) t
structure Tog (L0:List Int) (d:Int) (n:Nat) (t:List Int × List Int) (u:List Bool × List Int):Prop where
 len1:t.1.length=n
 len2:u.1.length=n
 seen:∀ i,i<n→(u.1.getD i false=true↔0≤gi t.1 i)
 next:t.2=u.2
 lv:∀ i,i<n→gi t.1 i=if 0≤gi L0 i then gi L0 i else if (i:Int)∈t.2 then d else gi L0 i
 pl:∀ x∈t.2,0≤x∧x<n
theorem Tog.one {L0:List Int} {d:Int} {n:Nat} {t:List Int × List Int} {u:List Bool × List Int} (h:Tog L0 d n t u) (hd:0≤d) {w:Int} (hw:0≤w∧w<n):Tog L0 d n (st1 d t w) (bey1 u w):=by
 obtain ⟨k,rfl⟩:∃ k:Nat,w=k:=⟨w.toNat,by omega⟩
 have hk:k<n:=by omega
 have hs:=h.seen k hk
 by_cases q:gi t.1 k<0
 ·have e1:st1 d t (k:Int)=(t.1.set k d,t.2++[(k:Int)]):=by rw [st1,Int.toNat_natCast,if_pos q]
  have e2:bey1 u (k:Int)=(u.1.set k true,u.2++[(k:Int)]):=by
   rw [bey1,if_neg (by show ¬ (u.1.getD ((k:Int)).toNat false=true);rw [Int.toNat_natCast,hs];omega)];rfl
  rw [e1,e2]
  refine ⟨by simp [h.len1],by simp [h.len2],fun i hi=>?_,by simp [h.next],fun i hi=>?_,fun x hx=>?_⟩
  ·show (u.1.set k true).getD i false=true↔0≤gi (t.1.set k d) i
   rw [gi_set (by rw [h.len1];exact hk)]
   by_cases e:i=k
   ·subst e
    rw [if_pos rfl]
    simp [List.getD_eq_getElem?_getD,List.getElem?_set,h.len2,hk,hd]
   ·rw [if_neg e,←h.seen i hi]
    simp [List.getD_eq_getElem?_getD,List.getElem?_set,Ne.symm e]
  ·show gi (t.1.set k d) i=_
   rw [gi_set (by rw [h.len1];exact hk)]
   have hi2:=h.lv i hi
   by_cases e:i=k
   ·subst e
    rw [if_pos rfl,if_neg,if_pos (by simp)]
    intro h3
    rw [hi2,if_pos h3] at q
    omega
   ·rw [if_neg e,hi2]
    have:(i:Int)∈t.2++[(k:Int)]↔(i:Int)∈t.2:=by
     rw [List.mem_append,List.mem_singleton]
     exact ⟨fun h=>h.resolve_right (by omega),.inl⟩
    simp only [this]
  ·rcases List.mem_append.1 hx with hx | hx
   ·exact h.pl x hx
   ·rw [List.mem_singleton] at hx;subst hx;exact hw
 ·have e1:st1 d t (k:Int)=t:=by rw [st1,Int.toNat_natCast,if_neg q]
  have e2:bey1 u (k:Int)=u:=by rw [bey1,if_pos];show u.1.getD ((k:Int)).toNat false=true;rw [Int.toNat_natCast,hs];omega
  rw [e1,e2]
  exact h
theorem Tog.row {L0:List Int} {d:Int} {n:Nat} (hd:0≤d):∀ {R:List Int} {t:List Int × List Int} {u:List Bool × List Int},Tog L0 d n t u→(∀ w∈R,0≤w∧w<n)→Tog L0 d n (R.foldl (st1 d) t) (R.foldl bey1 u)
 | [],_,_,h,_=>h
 |w::R,_,_,h,hR=>Tog.row (R:=R) hd (h.one hd (hR w (by simp))) fun x hx=>hR x (by simp [hx])
theorem Tog.rows {L0:List Int} {d:Int} {n:Nat} {nb:Int→List Int} (hd:0≤d):∀ {l:List Int} {t:List Int × List Int} {u:List Bool × List Int},Tog L0 d n t u→(∀ v∈l,∀ w∈nb v,0≤w∧w<n)→Tog L0 d n (l.foldl (stV nb d) t) (l.foldl (beyV nb) u)
 | [],_,_,h,_=>h
 |v::l,_,_,h,hl=>Tog.rows (l:=l) hd (h.row hd (hl v (by simp))) fun x hx=>hl x (by simp [hx])
noncomputable def sdL (r:Rw) (b:Bool) (s d:Nat):List Int:=upl (nbr r b) s (plc r) ((d+1:Nat):Int)
def sdF (r:Rw) (b:Bool) (s d:Nat):List Int:=(frt (nbr r b) (plc r) s d).2
theorem sd_tog {r:Rw} (ok:r.ok) (b:Bool) {s:Nat} (hs:s<plc r) (d:Nat):Tog (sdL r b s d) ((d+1:Nat):Int) (plc r) (sdL r b s d,[]) ((frt (nbr r b) (plc r) s d).1,[]):=by
 have F:=frt_spec (nbr_plc ok b) (s:=(s:Int)) ⟨by omega,by omega⟩ d
 refine ⟨upl_len ..,F.len,fun i hi=>?_,rfl,fun i hi=>?_,by simp⟩
 ·have hx:=F.seen (i:Int) (by omega)
  have:sne (frt (nbr r b) (plc r) s d).1 (i:Int)=(frt (nbr r b) (plc r) s d).1.getD i false:=by rw [sne,Int.toNat_natCast]
  rw [this] at hx
  show (frt (nbr r b) (plc r) s d).1.getD i false=true↔0≤gi (sdL r b s d) i
  rw [hx,sdL,upl_at hi]
  constructor
  ·rintro ⟨j,hj,hw⟩
   obtain ⟨k,hk,hd⟩:=Wk_dsk hw
   rw [lev_yes hd,if_pos (by omega)]
   omega
  ·intro h
   rcases lev_cases (nbr r b) s i with ⟨k,hk,e⟩ | ⟨_,e⟩
   ·rw [e] at h
    by_cases q:(k:Int)<((d+1:Nat):Int)
    ·exact ⟨k,by omega,hk.1⟩
    ·rw [if_neg q] at h;omega
   ·rw [e] at h
    split at h<;>omega
 ·split
  ·rfl
  ·simp
theorem sd_step {r:Rw} (ok:r.ok) (b:Bool) {s:Nat} (hs:s<plc r) (d:Nat):(sdF r b s d).foldl (stV (nbr r b) ((d+1:Nat):Int)) (sdL r b s d,[])=(sdL r b s (d+1),sdF r b s (d+1)):=by
 have H:=nbr_plc ok b
 have F:=frt_spec H (s:=(s:Int)) ⟨by omega,by omega⟩ d
 have F1:=frt_spec H (s:=(s:Int)) ⟨by omega,by omega⟩ (d+1)
 have T:=(sd_tog ok b hs d).rows (nb:=nbr r b) (by omega) (l:=sdF r b s d) (fun v hv w hw=>by
  have:=Wk_pl H (s:=(s:Int)) ⟨by omega,by omega⟩ ((F.front v).1 hv).1
  exact H v this.1 this.2 w hw)
 have e:(sdF r b s d).foldl (beyV (nbr r b)) ((frt (nbr r b) (plc r) s d).1,[])=frt (nbr r b) (plc r) s (d+1):=rfl
 rw [e] at T
 generalize (sdF r b s d).foldl (stV (nbr r b) ((d+1:Nat):Int)) (sdL r b s d,[])=t at *
 obtain ⟨t1,t2⟩:=t
 have hn:t2=sdF r b s (d+1):=T.next
 subst hn
 refine Prod.ext ?_ rfl
 refine gi_ext (by rw [T.len1,sdL,upl_len]) fun i hi=>?_
 have hi:i<plc r:=by rw [T.len1] at hi;exact hi
 have h1:=T.lv i hi
 have hm:=F1.front (i:Int)
 simp only at h1
 show gi t1 i=gi (sdL r b s (d+1)) i
 rw [h1,sdL,sdL,upl_at hi,upl_at hi]
 have hd:=lev_dst (nb:=nbr r b) (s:=(s:Int)) (v:=(i:Int)) (k:=d+1)
 have hg:=lev_ge (nbr r b) s i
 have hm2:(i:Int)∈sdF r b s (d+1)↔lev (nbr r b) s i=((d+1:Nat):Int):=hm.trans hd.symm
 by_cases q:lev (nbr r b) s i<((d+1:Nat):Int)
 ·rw [if_pos q,if_pos (show lev (nbr r b) s i<((d+1+1:Nat):Int) by omega)]
  by_cases q2:0≤lev (nbr r b) s i
  ·rw [if_pos q2]
  ·rw [if_neg q2,if_neg]
   rw [hm2];omega
 ·rw [if_neg q,if_neg (by omega)]
  by_cases q2:lev (nbr r b) s i=((d+1:Nat):Int)
  ·rw [if_pos (hm2.2 q2),if_pos (by omega),q2]
  ·rw [if_neg (fun h=>q2 (hm2.1 h)),if_neg (by omega)]
theorem sdL_zero {r:Rw} (ok:r.ok) (b:Bool) {s:Nat} (hs:s<plc r):sdL r b s 0=(List.replicate (plc r) (-1)).set s 0:=by
 refine gi_ext (by rw [sdL,upl_len];simp) fun i hi=>?_
 have hi:i<plc r:=by rw [sdL,upl_len] at hi;exact hi
 rw [sdL,upl_at hi,gi_set (by simp;exact hs)]
 have hr:gi (List.replicate (plc r) (-1)) i = -1:=by simp [gi,List.getD_eq_getElem?_getD,hi]
 rw [hr]
 have hd:=lev_dst (nb:=nbr r b) (s:=(s:Int)) (v:=(i:Int)) (k:=0)
 rw [dsk_zero] at hd
 have hg:=lev_ge (nbr r b) s i
 by_cases q:i=s
 ·rw [if_pos q,hd.2 (by omega)];rfl
 ·rw [if_neg q]
  have:lev (nbr r b) s i≠((0:Nat):Int):=fun h=>q (by have:=hd.1 h;omega)
  split<;>omega
theorem sdL_len (r:Rw) (b:Bool) (s d:Nat):(sdL r b s d).length=plc r:=upl_len ..
theorem sdF_pl {r:Rw} (ok:r.ok) (b:Bool) {s:Nat} (hs:s<plc r) (d:Nat):∀ v∈sdF r b s d,0≤v∧v<plc r:=fun v hv=>
 Wk_pl (nbr_plc ok b) (s:=(s:Int)) ⟨by omega,by omega⟩ (((frt_spec (nbr_plc ok b) (s:=(s:Int)) ⟨by omega,by omega⟩ d).front v).1 hv).1
theorem sdF_len {r:Rw} (ok:r.ok) (b:Bool) {s:Nat} (hs:s<plc r) (d:Nat):(sdF r b s d).length≤200:=by
 have hi:=ok.f.hi
 have F:=frt_spec (nbr_plc ok b) (s:=(s:Int)) ⟨by omega,by omega⟩ d
 have:=F.nd.length_le_of_subset (l₂:=(List.range (plc r)).map fun i:Nat=>(i:Int)) (fun x hx=>by
  have:=sdF_pl ok b hs d x hx
  exact List.mem_map.2 ⟨x.toNat,by simp;omega,by omega⟩)
 simp at this
 unfold sdF
 unfold plc at *
 omega
noncomputable def sdC (r:Rw) (b:Bool) (s d:Nat):List AV:=[ldC r b,.vec 1 (ints (sdL r b s d)),.vec 1 (ints (sdF r b s d))]
theorem new_run {r:Rw} {b:Bool} (hr:okR r) (ok:r.ok) {s:Nat} (hs:s<plc r):runP tab 1374 [.agg (rwS r),.int .i64 (s:Int),ldC r b] []=some (.box (sdC r b s 0),[]):=by
 refine runP_fn t1374 rfl ?_
 have lo:=ok.f.lo
 have hi:=ok.f.hi
 have hn:((r.off.length:Int) - 1)=(plc r:Int):=by unfold plc;omega
 have g2:=many_run hr
 rw [hn] at g2
 have g3:=repeat_run (x:=-1) (n:=plc r) (by unfold plc;omega)
 have hz:=sdL_zero ok b hs
 have hf:sdF r b s 0=[(s:Int)]:=rfl
 have hl:(List.replicate (plc r) (-1:Int)).length=plc r:=by simp
 have h1:ints [(s:Int)]=[.int .i64 (s:Int)]:=rfl
 unfold sdC
 rw [hz,hf,h1]
 simp only [rwS] at g2
 simp (disch:=omega) only [go_sem,d1374,rwS,ldC,g2,g3,hl]
theorem out8_run {r:Rw} (hr:okR r) (ok:r.ok) {s:Nat} (hs:s<plc r):runP tab 1365 [.agg (rwS r),.int .i64 (s:Int)] []=some (.box (sdC r false s 0),[]):=by
 refine runP_fn t1365 rfl ?_
 have g:=new_run (b:=false) hr ok hs
 unfold sdC at *
 simp only [rwS,ldC,ldK,Bool.false_eq_true,if_false] at g
 simp (disch:=omega) only [go_sem,d1365,rwS,ldC,ldK,g]
theorem into_run {r:Rw} (hr:okR r) (ok:r.ok) {s:Nat} (hs:s<plc r):runP tab 1363 [.agg (rwS r),.int .i64 (s:Int)] []=some (.box (sdC r true s 0),[]):=by
 refine runP_fn t1363 rfl ?_
 have g:=new_run (b:=true) hr ok hs
 unfold sdC at *
 simp only [rwS,ldC,ldK,if_true] at g
 simp (disch:=omega) only [go_sem,d1363,rwS,ldC,ldK,g]
def spS (r:Rw) (b:Bool) (F:List Int) (t:List Int × List Int) (i:Nat):St:=⟨[(0,.ref 0 0),(3,.own 1 2),(11,.own 1 1),(12,.int .i64 (F.length:Int)),(13,.int .i64 (i:Int))],[.row false [ldC r b,.vec 1 (ints t.1),.own 1 1],.row false (ints F),.row false (ints t.2)],1,[(0,3,[0,3,11,12,13],[(0,0),(3,2),(11,1)])]⟩
def spT (r:Rw) (b:Bool) (F R:List Int) (v:Nat) (t:List Int × List Int) (i j:Nat):St:=⟨[(0,.ref 0 0),(3,.own 1 2),(5,.int .i64 (v:Int)),(11,.own 1 1),(12,.int .i64 (F.length:Int)),(13,.int .i64 (i:Int)),(22,.sl 1 (ints R)),(23,.int .i64 (R.length:Int)),(24,.int .i64 (j:Int))],[.row false [ldC r b,.vec 1 (ints t.1),.own 1 1],.row false (ints F),.row false (ints t.2)],1,[(1,3,[0,3,5,11,12,13,22,23,24],[(0,0),(3,2),(11,1)]),(0,3,[0,3,11,12,13],[(0,0),(3,2),(11,1)])]⟩
theorem sp_num {r:Rw} {b:Bool} {F R:List Int} {v i j w d:Nat} {t:List Int × List Int} (hj:j<R.length) (hR:R.length≤2000) (hw2:R.getD j 0=w) (hw:w<t.1.length) (hv:v<t.1.length) (hd:t.1.getD v 0=d) (hd2:d≤1000) (ht:t.2.length≤1000000):Ev tab d1364_b1 (spT r b F R v t i j) (fun x st=>x=.normal∧st=spT r b F R v (st1 ((d+1:Nat):Int) t (w:Int)) i (j+1)):=by
 obtain ⟨t1,t2⟩:=t
 simp only at hw hv hd ht
 have ea:gi t1 w=t1.getD w 0:=rfl
 by_cases q:gi t1 w<0
 ·rw [show st1 ((d+1:Nat):Int) (t1,t2) (w:Int)=(t1.set w ((d+1:Nat):Int),t2++[(w:Int)]) by rw [st1,Int.toNat_natCast,if_pos q]]
  rw [ea] at q
  have e:((d+1:Nat):Int)=(d:Int)+1:=by omega
  rw [e]
  simp (disch:=omega) only [go_sem,d1364_b1,spT,ldC,rwS,hw2,hd]
 ·rw [show st1 ((d+1:Nat):Int) (t1,t2) (w:Int)=(t1,t2) by rw [st1,Int.toNat_natCast,if_neg q]]
  rw [ea] at q
  simp (disch:=omega) only [go_sem,d1364_b1,spT,ldC,rwS,hw2,hd]
theorem stR_len2 {d:Int}:∀ (R:List Int) (t:List Int × List Int),(R.foldl (st1 d) t).2.length≤t.2.length+R.length
 | [],t=>Nat.le_refl _
 |w::R,t=>by
  rw [List.foldl_cons]
  have h1:=stR_len2 (d:=d) R (st1 d t w)
  have h2:(st1 d t w).2.length≤t.2.length+1:=by unfold st1;split<;>simp
  rw [List.length_cons];omega
theorem stV_len2 {nb:Int→List Int} {M:Nat} {d:Int}:∀ (l:List Int) (t:List Int × List Int),(∀ v∈l,(nb v).length≤M)→(l.foldl (stV nb d) t).2.length≤t.2.length+l.length*M
 | [],t,_=>by simp
 |v::l,t,h=>by
  rw [List.foldl_cons]
  have h1:=stV_len2 (d:=d) l (stV nb d t v) (fun x hx=>h x (by simp [hx]))
  have h2:=stR_len2 (d:=d) (nb v) t
  have h3:=h v (by simp)
  rw [List.length_cons,Nat.succ_mul]
  unfold stV at h1 ⊢
  omega
theorem step_run {r:Rw} {b:Bool} (ok:r.ok) {s d:Nat} (hs:s<plc r) (hd:d≤900):runP tab 1364 [.ref 0 0] [.row false (sdC r b s d)]=some (.bool (decide (sdF r b s (d+1)≠[])),[.row false (sdC r b s (d+1))]):=by
 refine runP_fn t1364 rfl ?_
 have hl:=sdL_len r b s d
 have hf:=sdF_len ok b hs d
 have he:=sd_step ok b hs d
 have hp:=sdF_pl ok b hs d
 have hpl:plc r≤200:=by have:=ok.f.hi;unfold plc;omega
 have H:=nbr_plc ok b
 have T0:=sd_tog ok b hs d
 have hlv:∀ v∈sdF r b s d,gi (sdL r b s d) v.toNat=d:=fun v hv=>by
  have:=hp v hv
  have hk:=((frt_spec H (s:=(s:Int)) ⟨by omega,by omega⟩ d).front v).1 hv
  rw [sdL,upl_at (by omega),show ((v.toNat:Nat):Int)=v by omega,lev_yes hk,if_pos (by omega)]
 unfold sdC
 generalize sdL r b s d=L at *
 generalize sdF r b s d=F at *
 have hTog:∀ l:List Int,(∀ v∈l,v∈F)→Tog L ((d+1:Nat):Int) (plc r) (l.foldl (stV (nbr r b) ((d+1:Nat):Int)) (L,[])) (l.foldl (beyV (nbr r b)) ((frt (nbr r b) (plc r) s d).1,[])):=fun l hl=>T0.rows (by omega) (fun v hv w hw=>H v (hp v (hl v hv)).1 (hp v (hl v hv)).2 w hw)
 simp (disch:=omega) only [go_sem,d1364,rwS,ldC]
 refine Ev_loop0 (fun i=>spS r b F ((F.take i).foldl (stV (nbr r b) ((d+1:Nat):Int)) (L,[])) i) F.length (by simp [spS,ldC,rwS,ints]) (fun i hi=>?_) ?_
 ·have e:=foldl_snoc (stV (nbr r b) ((d+1:Nat):Int)) 0 hi (L,[])
  have T:=hTog (F.take i) (fun v hv=>List.mem_of_mem_take hv)
  have hm:F.getD i 0∈F:=getD_mem hi
  have hv:=hp _ hm
  have hlv1:=hlv _ hm
  have hl2:=stV_len2 (nb:=nbr r b) (M:=2000) (d:=((d+1:Nat):Int)) (F.take i) (L,[]) (fun v hx=>by
   have:=hp v (List.mem_of_mem_take hx)
   exact nbr_len ok b this.1 this.2)
  rw [List.length_take] at hl2
  simp only [List.length_nil] at hl2
  have h3:min i F.length*2000≤400000:=by omega
  rw [e]
  generalize (F.take i).foldl (stV (nbr r b) ((d+1:Nat):Int)) (L,[])=t at *
  generalize (F.take i).foldl (beyV (nbr r b)) ((frt (nbr r b) (plc r) s d).1,[])=u at *
  obtain ⟨v,hv2⟩:∃ v:Nat,F.getD i 0=v:=⟨(F.getD i 0).toNat,by omega⟩
  rw [hv2] at hv hlv1 ⊢
  rw [Int.toNat_natCast] at hlv1
  have hvn:v<plc r:=by omega
  have g:=ld_run ok b hv.1 hv.2
  have hR:=nbr_len ok b hv.1 hv.2
  have hpR:=H _ hv.1 hv.2
  have ev:stV (nbr r b) ((d+1:Nat):Int) t (v:Int)=(nbr r b (v:Int)).foldl (st1 ((d+1:Nat):Int)) t:=rfl
  rw [ev]
  simp only [rwS] at g
  generalize nbr r b (v:Int)=R at *
  simp (disch:=omega) only [go_sem,d1364_b0,spS,ldC,rwS,hv2,g]
  refine Ev_loop0 (fun j=>spT r b F R v ((R.take j).foldl (st1 ((d+1:Nat):Int)) t) i j) R.length (by simp [spT,ldC,rwS]) (fun j hj=>?_) ?_
  ·have e:=foldl_snoc (st1 ((d+1:Nat):Int)) 0 hj t
   have Tj:=T.row (by omega) (R:=R.take j) (fun w hw=>hpR w (List.mem_of_mem_take hw))
   have h2:=stR_len2 (d:=((d+1:Nat):Int)) (R.take j) t
   rw [List.length_take] at h2
   have hwm:=hpR _ (getD_mem (d:=0) hj)
   obtain ⟨w,hw2⟩:∃ w:Nat,R.getD j 0=w:=⟨(R.getD j 0).toNat,by omega⟩
   rw [hw2] at hwm
   have hlj:=Tj.lv v hvn
   rw [hlv1,if_pos (by omega)] at hlj
   rw [e,hw2]
   exact sp_num hj hR hw2 (by rw [Tj.len1];omega) (by rw [Tj.len1];exact hvn) hlj (by omega) (by omega)
  ·rw [List.take_length]
   simp (disch:=omega) only [go_sem,d1364_b1,spT,ldC,rwS]
 ·rw [List.take_length,he]
  generalize sdL r b s (d+1)=L2 at *
  have hf2:=sdF_len ok b hs (d+1)
  generalize sdF r b s (d+1)=F2 at *
  by_cases hF:F2=[]
  ·subst hF
   simp (disch:=omega) only [go_sem,d1364_b0,spS,ldC,rwS]
   rfl
  ·have hpos:0<F2.length:=List.length_pos_iff.2 hF
   have hdd:decide (F2≠[])=true:=by simpa using hF
   simp (disch:=omega) only [go_sem,d1364_b0,spS,ldC,rwS,hdd]
def lst1 (a b:List Int) (m:Int) (v:Nat):Int:=if gi a v<0∨gi b v<0 then m else if m<0∨gi a v+gi b v<m then gi a v+gi b v else m
def lst (a b:List Int) (k:Nat):Int:=(List.range k).foldl (lst1 a b) (-1)
theorem lst_succ (a b:List Int) (k:Nat):lst a b (k+1)=lst1 a b (lst a b k) k:=by simp [lst,List.range_succ]
structure Lst (a b:List Int) (k:Nat) (m:Int):Prop where
 ge:-1≤m
 no:m<0→∀ v,v<k→gi a v<0∨gi b v<0
 is:0≤m→∃ v,v<k∧0≤gi a v∧0≤gi b v∧m=gi a v+gi b v
 le:∀ v,v<k→0≤gi a v→0≤gi b v→0≤m∧m≤gi a v+gi b v
theorem lst_spec (a b:List Int):∀ k,Lst a b k (lst a b k)
 |0=>⟨by simp [lst],fun _ v h=>by omega,fun h=>by simp [lst] at h,fun v h=>by omega⟩
 |k+1=>by
  have ih:=lst_spec a b k
  rw [lst_succ]
  unfold lst1
  by_cases h:gi a k<0∨gi b k<0
  ·rw [if_pos h]
   refine ⟨ih.ge,fun hm v hv=>?_,fun hm=>?_,fun v hv h1 h2=>?_⟩
   ·by_cases e:v=k
    ·subst e;exact h
    ·exact ih.no hm v (by omega)
   ·obtain ⟨v,h1,h2⟩:=ih.is hm
    exact ⟨v,by omega,h2⟩
   ·by_cases e:v=k
    ·subst e;omega
    ·exact ih.le v (by omega) h1 h2
  ·rw [if_neg h]
   have ha:0≤gi a k:=by omega
   have hb:0≤gi b k:=by omega
   by_cases q:lst a b k<0∨gi a k+gi b k<lst a b k
   ·rw [if_pos q]
    refine ⟨by omega,fun hm=>by omega,fun _=>⟨k,by omega,ha,hb,rfl⟩,fun v hv h1 h2=>?_⟩
    by_cases e:v=k
    ·subst e;omega
    ·have:=ih.le v (by omega) h1 h2
     omega
   ·rw [if_neg q]
    refine ⟨ih.ge,fun hm=>by omega,fun hm=>?_,fun v hv h1 h2=>?_⟩
    ·obtain ⟨v,h1,h2⟩:=ih.is hm
     exact ⟨v,by omega,h2⟩
    ·by_cases e:v=k
     ·subst e;omega
     ·exact ih.le v (by omega) h1 h2
theorem lst_hi {a b:List Int} {M:Int} (ha:∀ i,gi a i≤M) (hb:∀ i,gi b i≤M) (hM:0≤M) (k:Nat):lst a b k≤2*M:=by
 have S:=lst_spec a b k
 by_cases h:0≤lst a b k
 ·obtain ⟨v,_,_,_,e⟩:=S.is h
  have:=ha v
  have:=hb v
  omega
 ·omega
theorem least_run {r:Rw} {L1 L2 F1 F2:List Int} (hl:L1.length=L2.length) (hn:L1.length≤1000) (h1:∀ i,-1≤gi L1 i∧gi L1 i≤1000) (h2:∀ i,-1≤gi L2 i∧gi L2 i≤1000):runP tab 1373 [.ip [ldC r false,.sl 1 (ints L1),.sl 1 (ints F1)],.ip [ldC r true,.sl 1 (ints L2),.sl 1 (ints F2)]] []=some (.int .i64 (lst L1 L2 L1.length),[]):=by
 refine runP_fn t1373 rfl ?_
 simp (disch:=omega) only [go_sem,d1373,ldC,rwS]
 refine Ev_loop0 (fun i=>⟨[(0,.ip [ldC r false,.sl 1 (ints L1),.sl 1 (ints F1)]),(1,.ip [ldC r true,.sl 1 (ints L2),.sl 1 (ints F2)]),(5,.int .i64 (lst L1 L2 i)),(12,.int .i64 (L1.length:Int)),(13,.int .i64 (i:Int))],[],0,[(0,0,[0,1,5,12,13],[])]⟩) L1.length (by simp [lst,ldC,rwS]) (fun i hi=>?_) ?_
 ·have a1:=h1 i
  have a2:=h2 i
  have e1:L1.getD i 0=gi L1 i:=rfl
  have e2:L2.getD i 0=gi L2 i:=rfl
  have hm:=lst_hi (M:=1000) (fun i=>(h1 i).2) (fun i=>(h2 i).2) (by omega) i
  have hm2:=(lst_spec L1 L2 i).ge
  rw [lst_succ]
  unfold lst1
  generalize lst L1 L2 i=m at *
  generalize gi L1 i=x at *
  generalize gi L2 i=y at *
  obtain ⟨a11,a12⟩:=a1
  obtain ⟨a21,a22⟩:=a2
  clear h1 h2
  by_cases q1:x<0
  ·rw [if_pos (.inl q1)]
   simp (disch:=omega) only [go_sem,d1373_b0,ldC,rwS,e1,e2]
  ·by_cases q2:y<0
   ·rw [if_pos (.inr q2)]
    simp (disch:=omega) only [go_sem,d1373_b0,ldC,rwS,e1,e2]
   ·rw [if_neg (by omega)]
    by_cases q3:m<0
    ·rw [if_pos (.inl q3)]
     simp (disch:=omega) only [go_sem,d1373_b0,ldC,rwS,e1,e2]
    ·by_cases q4:x+y<m
     ·rw [if_pos (.inr q4)]
      simp (disch:=omega) only [go_sem,d1373_b0,ldC,rwS,e1,e2]
     ·rw [if_neg (by omega)]
      simp (disch:=omega) only [go_sem,d1373_b0,ldC,rwS,e1,e2]
 ·simp (disch:=omega) only [go_sem,d1373_b0,ldC,rwS]
noncomputable def dK (r:Rw) (s t k:Nat):Int:=lst (sdL r false s k) (sdL r true t k) (plc r)
theorem sdL_get {r:Rw} {b:Bool} {s d i:Nat} (h:i<plc r):gi (sdL r b s d) i=if lev (nbr r b) s i≤d then lev (nbr r b) s i else -1:=by
 rw [sdL,upl_at h]
 congr 1
 refine propext ⟨?_,?_⟩<;>intro h<;>omega
theorem sdL_rng {r:Rw} (ok:r.ok) {b:Bool} {s d:Nat} (hs:s<plc r) (i:Nat):-1≤gi (sdL r b s d) i∧gi (sdL r b s d) i≤200:=by
 by_cases h:i<plc r
 ·rw [sdL_get h]
  have:=lev_lt ok b hs i
  have:=lev_ge (nbr r b) s i
  split<;>omega
 ·rw [gi_out (by rw [sdL_len];omega)];omega
theorem dK_meets {r:Rw} (ok:r.ok) {s t k:Nat} (hs:s<plc r) (ht:t<plc r):0≤dK r s t k↔∃ d:Nat,d≤2*k∧dsk (nbr r false) s d t:=by
 have H:=nbr_plc ok false
 have H2:=nbr_plc ok true
 have M:=nbr_mirror ok false
 rw [←meets_iff H H2 M (s:=(s:Int)) (t:=(t:Int)) ⟨by omega,by omega⟩ ⟨by omega,by omega⟩]
 have S:=lst_spec (sdL r false s k) (sdL r true t k) (plc r)
 constructor
 ·intro h
  obtain ⟨v,hv,h1,h2,_⟩:=S.is h
  rw [sdL_get hv] at h1 h2
  rcases lev_cases (nbr r false) s v with ⟨i,hi,ei⟩ | ⟨_,ei⟩
  ·rcases lev_cases (nbr r true) t v with ⟨j,hj,ej⟩ | ⟨_,ej⟩
   ·rw [ei] at h1
    rw [ej] at h2
    refine ⟨v,i,j,?_,?_,hi,hj⟩
    ·by_cases q:(i:Int)≤k
     ·omega
     ·rw [if_neg q] at h1;omega
    ·by_cases q:(j:Int)≤k
     ·omega
     ·rw [if_neg q] at h2;omega
   ·rw [ej] at h2;split at h2<;>omega
  ·rw [ei] at h1;split at h1<;>omega
 ·rintro ⟨x,i,j,hi,hj,h1,h2⟩
  have hx:=Wk_pl H (s:=(s:Int)) ⟨by omega,by omega⟩ h1.1
  obtain ⟨v,rfl⟩:∃ v:Nat,x=v:=⟨x.toNat,by omega⟩
  have hv:v<plc r:=by omega
  refine (S.le v hv ?_ ?_).1
  ·rw [sdL_get hv,lev_yes h1,if_pos (by omega)];omega
  ·rw [sdL_get hv,lev_yes h2,if_pos (by omega)];omega
theorem dK_is {r:Rw} (ok:r.ok) {s t d:Nat} (hs:s<plc r) (ht:t<plc r) (hd:dsk (nbr r false) s d t):dK r s t ((d+1) / 2)=d:=by
 have H:=nbr_plc ok false
 have H2:=nbr_plc ok true
 have M:=nbr_mirror ok false
 have S:=lst_spec (sdL r false s ((d+1) / 2)) (sdL r true t ((d+1) / 2)) (plc r)
 have h0:0≤dK r s t ((d+1) / 2):=(dK_meets ok hs ht).2 ⟨d,by omega,hd⟩
 obtain ⟨x,h1,h2⟩:=meets_of H H2 M (s:=(s:Int)) (t:=(t:Int)) ⟨by omega,by omega⟩ ⟨by omega,by omega⟩ hd (i:=(d+1) / 2) (by omega)
 have hx:=Wk_pl H (s:=(s:Int)) ⟨by omega,by omega⟩ h1.1
 obtain ⟨v,rfl⟩:∃ v:Nat,x=v:=⟨x.toNat,by omega⟩
 have hv:v<plc r:=by omega
 have hle:=S.le v hv (by rw [sdL_get hv,lev_yes h1,if_pos (by omega)];omega) (by rw [sdL_get hv,lev_yes h2,if_pos (by omega)];omega)
 rw [sdL_get hv,sdL_get hv,lev_yes h1,lev_yes h2,if_pos (by omega),if_pos (by omega)] at hle
 obtain ⟨u,hu,g1,g2,ge⟩:=S.is h0
 rw [sdL_get hu,sdL_get hu] at ge
 rw [sdL_get hu] at g1 g2
 unfold dK at *
 rcases lev_cases (nbr r false) s u with ⟨i,hi,ei⟩ | ⟨_,ei⟩
 ·rcases lev_cases (nbr r true) t u with ⟨j,hj,ej⟩ | ⟨_,ej⟩
  ·obtain ⟨e,he,de⟩:=meets_sum H H2 M (s:=(s:Int)) (t:=(t:Int)) ⟨by omega,by omega⟩ ⟨by omega,by omega⟩ hi hj
   have:=dsk_eq de hd
   rw [ei] at ge g1
   rw [ej] at ge g2
   have q1:(i:Int)≤((d+1) / 2:Nat):=by
    by_cases q:(i:Int)≤((d+1) / 2:Nat)
    ·exact q
    ·rw [if_neg q] at g1;omega
   have q2:(j:Int)≤((d+1) / 2:Nat):=by
    by_cases q:(j:Int)≤((d+1) / 2:Nat)
    ·exact q
    ·rw [if_neg q] at g2;omega
   rw [if_pos q1,if_pos q2] at ge
   omega
  ·rw [ej] at g2;split at g2<;>omega
 ·rw [ei] at g1;split at g1<;>omega
theorem dK_neg {r:Rw} {s t k:Nat} (h:¬ 0≤dK r s t k):dK r s t k = -1:=by
 have:=(lst_spec (sdL r false s k) (sdL r true t k) (plc r)).ge
 unfold dK at *
 omega
theorem sdF_some {r:Rw} (ok:r.ok) {b:Bool} {s:Nat} (hs:s<plc r) {j:Nat} {x:Int} (h:dsk (nbr r b) s j x):sdF r b s j≠[]:=by
 intro e
 have:=((frt_spec (nbr_plc ok b) (s:=(s:Int)) ⟨by omega,by omega⟩ j).front x).2 h
 unfold sdF at e
 rw [e] at this
 cases this
def kUf (p:Nat→Bool):Nat→Nat→Nat
 |0,k=>k
 |f+1,k=>if p k then kUf p f (k+1) else k
theorem kUf_spec {p:Nat→Bool}:∀ {f k m:Nat},k≤m→m<k+f→p m=false→(∀ j,k≤j→j<kUf p f k→p j=true)∧p (kUf p f k)=false∧kUf p f k≤m
 |0,k,m,h1,h2,_=>by omega
 |f+1,k,m,h1,h2,hm=>by
  unfold kUf
  by_cases h:p k=true
  ·rw [if_pos h]
   have hk:k≠m:=by rintro rfl;rw [h] at hm;cases hm
   obtain ⟨a,b,c⟩:=kUf_spec (p:=p) (f:=f) (k:=k+1) (m:=m) (by omega) (by omega) hm
   refine ⟨fun j h3 h4=>?_,b,c⟩
   by_cases e:j=k
   ·rw [e];exact h
   ·exact a j (by omega) h4
  ·rw [if_neg h]
   exact ⟨fun j h3 h4=>by omega,by simpa using h,h1⟩
def goOn (r:Rw) (s t:Nat) (k:Nat):Bool:=decide (sdF r false s (k+1)≠[]) && decide (sdF r true t (k+1)≠[])
noncomputable def mtN (r:Rw) (s t:Nat):Nat:=if 0≤lev (nbr r false) s t then ((lev (nbr r false) s t).toNat+1) / 2 else kUf (goOn r s t) (plc r+1) 0
theorem sdF_end {r:Rw} (ok:r.ok) (b:Bool) {s:Nat} (hs:s<plc r):sdF r b s (plc r)=[]:=by
 rw [List.eq_nil_iff_forall_not_mem]
 intro x hx
 have:=dsk_lt (nbr_plc ok b) (s:=(s:Int)) ⟨by omega,by omega⟩ (((frt_spec (nbr_plc ok b) (s:=(s:Int)) ⟨by omega,by omega⟩ (plc r)).front x).1 hx)
 omega
theorem mt_spec {r:Rw} (ok:r.ok) {s t:Nat} (hs:s<plc r) (ht:t<plc r):(∀ j,j<mtN r s t→dK r s t j = -1∧goOn r s t j=true)∧dK r s t (mtN r s t)=lev (nbr r false) s t∧(lev (nbr r false) s t<0→goOn r s t (mtN r s t)=false)∧mtN r s t≤plc r:=by
 have H:=nbr_plc ok false
 have H2:=nbr_plc ok true
 have M:=nbr_mirror ok false
 rcases lev_cases (nbr r false) s t with ⟨d,hd,e⟩ | ⟨hn,e⟩
 ·have em:mtN r s t=(d+1) / 2:=by rw [mtN,e,if_pos (by omega),Int.toNat_natCast]
  have hdl:=dsk_lt H (s:=(s:Int)) ⟨by omega,by omega⟩ hd
  rw [em,e]
  refine ⟨fun j hj=>⟨dK_neg fun h=>?_,?_⟩,dK_is ok hs ht hd,fun h=>by omega,by omega⟩
  ·obtain ⟨d2,h2,hd2⟩:=(dK_meets ok hs ht).1 h
   have:=dsk_eq hd hd2
   omega
  ·obtain ⟨x,h1,_⟩:=meets_of H H2 M (s:=(s:Int)) (t:=(t:Int)) ⟨by omega,by omega⟩ ⟨by omega,by omega⟩ hd (i:=j+1) (by omega)
   obtain ⟨y,_,h4⟩:=meets_of H H2 M (s:=(s:Int)) (t:=(t:Int)) ⟨by omega,by omega⟩ ⟨by omega,by omega⟩ hd (i:=d - (j+1)) (by omega)
   rw [show d - (d - (j+1))=j+1 by omega] at h4
   rw [goOn,decide_eq_true (sdF_some ok hs h1),decide_eq_true (sdF_some ok ht h4)];rfl
 ·have em:mtN r s t=kUf (goOn r s t) (plc r+1) 0:=by rw [mtN,e,if_neg (by omega)]
  have hp:goOn r s t (plc r - 1)=false:=by
   rw [goOn,show plc r - 1+1=plc r by omega,sdF_end ok false hs];simp
  obtain ⟨a,b,c⟩:=kUf_spec (p:=goOn r s t) (f:=plc r+1) (k:=0) (m:=plc r - 1) (by omega) (by omega) hp
  have hneg:∀ j,dK r s t j = -1:=fun j=>dK_neg fun h=>by
   obtain ⟨d2,_,hd2⟩:=(dK_meets ok hs ht).1 h
   exact hn d2 hd2.1
  rw [em,e]
  exact ⟨fun j hj=>⟨hneg j,a j (by omega) hj⟩,hneg _,fun _=>b,by omega⟩
noncomputable def sdP (r:Rw) (b:Bool) (s d:Nat):List AV:=[ldC r b,.sl 1 (ints (sdL r b s d)),.sl 1 (ints (sdF r b s d))]
theorem dK_run {r:Rw} (ok:r.ok) {s t k:Nat} (hs:s<plc r) (ht:t<plc r):runP tab 1373 [.ip (sdP r false s k),.ip (sdP r true t k)] []=some (.int .i64 (dK r s t k),[]):=by
 have hi:=ok.f.hi
 have g:=least_run (r:=r) (L1:=sdL r false s k) (L2:=sdL r true t k) (F1:=sdF r false s k) (F2:=sdF r true t k) (by rw [sdL_len,sdL_len]) (by rw [sdL_len];unfold plc;omega) (fun i=>by have:=sdL_rng ok (b:=false) (d:=k) hs i;omega) (fun i=>by have:=sdL_rng ok (b:=true) (d:=k) ht i;omega)
 rw [sdL_len] at g
 exact g
theorem Ev_imp {T:Nat→Option Entry} {b:Stmt} {st:St} {Q Q':AX→St→Prop} (h:Ev T b st Q) (k:∀ x st,Q x st→Q' x st):Ev T b st Q':=by
 obtain ⟨r,h1,h2⟩:=h
 exact ⟨r,h1,k _ _ h2⟩
noncomputable def mtS (r:Rw) (s t k:Nat):St:=⟨[(8,.int .i64 (k:Int)),(9,.ref 1 0),(10,.ref 2 0),(11,.int .i64 (dK r s t k))],[.row false (rwS r),.row false (sdC r false s k),.row false (sdC r true t k)],0,[(0,3,[8,9,10,11],[(9,1),(10,2)])]⟩
noncomputable def mtI (r:Rw) (s t k i ka kb:Nat):St:=⟨[(8,.int .i64 (k:Int)),(9,.ref 1 0),(10,.ref 2 0),(11,.int .i64 (dK r s t k)),(27,.agg [.ref 1 0,.ref 2 0]),(28,.int .i64 (i:Int))],[.row false (rwS r),.row false (sdC r false s ka),.row false (sdC r true t kb)],0,[(1,3,[8,9,10,11,27,28],[(9,1),(10,2)]),(0,3,[8,9,10,11],[(9,1),(10,2)])]⟩
theorem mt_a {r:Rw} (ok:r.ok) {s t k:Nat} (hs:s<plc r) (hk:k≤300) (h:sdF r false s (k+1)≠[]):Ev tab d1359_b1 (mtI r s t k 0 k k) (fun x st=>x=.normal∧st=mtI r s t k 1 (k+1) k):=by
 have g:=step_run (b:=false) (s:=s) (d:=k) ok hs (by omega)
 rw [decide_eq_true h] at g
 unfold sdC ldC at g
 simp only [rwS] at g
 unfold mtI sdC
 generalize dK r s t k=D
 generalize sdL r false s k=L1 at *
 generalize sdF r false s k=F1 at *
 generalize sdL r false s (k+1)=L1' at *
 generalize sdF r false s (k+1)=F1' at *
 generalize sdL r true t k=L2 at *
 generalize sdF r true t k=F2 at *
 simp (disch:=omega) only [go_sem,d1359_b1,ldC,rwS,g,Int.reduceAdd]
theorem mt_b {r:Rw} (ok:r.ok) {s t k:Nat} (ht:t<plc r) (hk:k≤300) (h:sdF r true t (k+1)≠[]):Ev tab d1359_b1 (mtI r s t k 1 (k+1) k) (fun x st=>x=.normal∧st=mtI r s t k 2 (k+1) (k+1)):=by
 have g:=step_run (b:=true) (s:=t) (d:=k) ok ht (by omega)
 rw [decide_eq_true h] at g
 unfold sdC ldC at g
 simp only [rwS] at g
 unfold mtI sdC
 generalize dK r s t k=D
 generalize sdL r true t k=L1 at *
 generalize sdF r true t k=F1 at *
 generalize sdL r true t (k+1)=L1' at *
 generalize sdF r true t (k+1)=F1' at *
 generalize sdL r false s (k+1)=L2 at *
 generalize sdF r false s (k+1)=F2 at *
 simp (disch:=omega) only [go_sem,d1359_b1,ldC,rwS,g,Int.reduceAdd]
theorem mt_go {r:Rw} (ok:r.ok) {s t k:Nat} (hs:s<plc r) (ht:t<plc r) (hk:k≤300) (h:goOn r s t k=true) (hd:dK r s t k = -1):Ev tab d1359_b0 (mtS r s t k) (fun x st=>x=.normal∧st=mtS r s t (k+1)):=by
 simp only [goOn,Bool.and_eq_true,decide_eq_true_eq] at h
 obtain ⟨ha,hb⟩:=h
 have m1:=mt_a (t:=t) ok hs hk ha
 have m2:=mt_b (s:=s) ok ht hk hb
 have g:=dK_run (k:=k+1) ok hs ht
 unfold sdP ldC at g
 simp only [rwS] at g
 unfold mtI sdC ldC at m1 m2
 simp only [rwS] at m1 m2
 unfold mtS sdC
 rw [hd] at m1 m2 ⊢
 generalize dK r s t (k+1)=D at *
 generalize sdL r false s k=A0 at *
 generalize sdF r false s k=A1 at *
 generalize sdL r true t k=B0 at *
 generalize sdF r true t k=B1 at *
 generalize sdL r false s (k+1)=A2 at *
 generalize sdF r false s (k+1)=A3 at *
 generalize sdL r true t (k+1)=B2 at *
 generalize sdF r true t (k+1)=B3 at *
 simp (disch:=omega) only [go_sem,d1359_b0,ldC,rwS]
 refine Ev_step m1 (Ev_step m2 (Ev_stop ?_))
 simp (disch:=omega) only [go_sem,d1359_b1,g]
theorem meet_run {r:Rw} (hr:okR r) (ok:r.ok) {s t:Nat} (hs:s<plc r) (ht:t<plc r):runP tab 1359 [.agg (rwS r),.int .i64 (s:Int),.int .i64 (t:Int)] []=some (.tup [.int .i64 (mtN r s t:Int),.int .i64 (lev (nbr r false) s t)],[]):=by
 refine runP_fn t1359 rfl ?_
 obtain ⟨q1,q2,q3,q4⟩:=mt_spec ok hs ht
 have hpl:plc r≤200:=by have:=ok.f.hi;unfold plc;omega
 have g1:=out8_run hr ok hs
 have g2:=into_run hr ok ht
 have g3:=dK_run (k:=0) ok hs ht
 have main:Ev tab (.loop d1359_b0) (mtS r s t 0) (fun x st=>x=.exit 0∧st.lo=0∧lk st.env 8=.int .i64 (mtN r s t:Int)∧lk st.env 11=.int .i64 (lev (nbr r false) s t)∧True):=by
  refine Ev_loop0 (mtS r s t) (mtN r s t) rfl (fun k hk=>mt_go ok hs ht (by omega) (q1 k hk).2 (q1 k hk).1) ?_
  by_cases hD:lev (nbr r false) s t<0
  ·have hg:=q3 hD
   have hD1:lev (nbr r false) s t = -1:=by have:=lev_ge (nbr r false) s t;omega
   rw [hD1] at q2 ⊢
   generalize mtN r s t=k at *
   have gb:=step_run (b:=true) (s:=t) (d:=k) ok ht (by omega)
   have ga:=step_run (b:=false) (s:=s) (d:=k) ok hs (by omega)
   simp only [goOn,Bool.and_eq_false_iff,decide_eq_false_iff_not,ne_eq,Decidable.not_not] at hg
   by_cases ha:sdF r false s (k+1)=[]
   ·rw [decide_eq_false (by simpa using ha)] at ga
    unfold sdC ldC at ga
    simp only [rwS] at ga
    unfold mtS sdC
    rw [q2]
    generalize sdL r false s k=A0 at *
    generalize sdF r false s k=A1 at *
    generalize sdL r true t k=B0 at *
    generalize sdF r true t k=B1 at *
    generalize sdL r false s (k+1)=A2 at *
    generalize sdF r false s (k+1)=A3 at *
    simp (disch:=omega) only [go_sem,d1359_b0,ldC,rwS]
    refine Ev_stop ?_
    simp (disch:=omega) only [go_sem,d1359_b1,ga]
   ·have hb:sdF r true t (k+1)=[]:=by
     rcases hg with h | h
     ·exact absurd h ha
     ·exact h
    have m1:=mt_a (t:=t) ok hs (by omega) ha
    rw [decide_eq_false (by simpa using hb)] at gb
    unfold sdC ldC at gb
    simp only [rwS] at gb
    unfold mtI sdC ldC at m1
    simp only [rwS] at m1
    unfold mtS sdC
    rw [q2] at m1 ⊢
    generalize sdL r false s k=A0 at *
    generalize sdF r false s k=A1 at *
    generalize sdL r true t k=B0 at *
    generalize sdF r true t k=B1 at *
    generalize sdL r false s (k+1)=A2 at *
    generalize sdF r false s (k+1)=A3 at *
    generalize sdL r true t (k+1)=B2 at *
    generalize sdF r true t (k+1)=B3 at *
    simp (disch:=omega) only [go_sem,d1359_b0,ldC,rwS]
    refine Ev_step m1 (Ev_stop ?_)
    simp (disch:=omega) only [go_sem,d1359_b1,gb]
  ·unfold mtS sdC
   rw [q2]
   generalize lev (nbr r false) s t=D at *
   simp (disch:=omega) only [go_sem,d1359_b0,ldC,rwS]
 unfold sdP ldC at g3
 unfold sdC ldC at g1 g2
 simp only [rwS] at g1 g2 g3
 unfold mtS sdC ldC at main
 simp only [rwS] at main
 generalize dK r s t 0=D0 at *
 generalize sdL r false s 0=A0 at *
 generalize sdF r false s 0=A1 at *
 generalize sdL r true t 0=B0 at *
 generalize sdF r true t 0=B1 at *
 simp (disch:=omega) only [go_sem,d1359,rwS,g1,g2,g3]
 refine Ev_imp main fun x st h=>?_
 obtain ⟨env,hp,lo,mks⟩:=st
 obtain ⟨rfl,_,e8,e11,_⟩:=h
 simp only at e8 e11
 simp (disch:=omega) only [go_sem,e8,e11]
theorem pchk2 (r:Rw) (s t:Int):(¬ chk r=true∧pchk r [s,t]=40)∨(chk r=true∧¬ ((0≤s∧s<plc r)∧0≤t∧t<plc r)∧pchk r [s,t]=1)∨(chk r=true∧((0≤s∧s<plc r)∧0≤t∧t<plc r)∧pchk r [s,t]=0):=by
 by_cases hc:chk r=true
 ·have ok:=chk_iff.1 hc
  have lo:=ok.f.lo
  have hn:((r.off.length:Int) - 1)=(plc r:Int):=by unfold plc;omega
  have e:allPl ((r.off.length:Int) - 1) [s,t]=decide ((0≤s∧s<plc r)∧0≤t∧t<plc r):=by
   rw [hn]
   simp [allPl]
  by_cases h:(0≤s∧s<plc r)∧0≤t∧t<plc r
  ·exact .inr (.inr ⟨hc,h,by rw [pchk,if_pos hc,e,decide_eq_true h];rfl⟩)
  ·exact .inr (.inl ⟨hc,h,by rw [pchk,if_pos hc,e,decide_eq_false h];rfl⟩)
 ·exact .inl ⟨hc,by rw [pchk,if_neg hc]⟩
noncomputable def dsT (r:Rw) (s t:Int):AV:=if pchk r [s,t]=0 then (if 0≤lev (nbr r false) s t then .tup [.int .i64 (lev (nbr r false) s t),.bool true,.int .i64 0] else .tup [.int .i64 0,.bool false,.int .i64 0]) else .tup [.int .i64 0,.bool false,.int .i64 (pchk r [s,t])]
theorem ints2 (s t:Int):ints [s,t]=[.int .i64 s,.int .i64 t]:=rfl
theorem dist_run {r:Rw} {s t:Int} (hr:okR r):runP tab 1344 [.agg (rwS r),.int .i64 s,.int .i64 t] []=some (dsT r s t,[]):=by
 refine runP_fn t1344 rfl ?_
 have g1:=pcheck_run (r:=r) (l:=[s,t]) hr (by simp)
 rw [ints2] at g1
 simp only [rwS] at g1
 unfold dsT
 rcases pchk2 r s t with ⟨hc,e⟩ | ⟨hc,h,e⟩ | ⟨hc,⟨hs,ht⟩,e⟩
 ·rw [e] at g1 ⊢
  rw [if_neg (by decide)]
  simp (disch:=omega) only [go_sem,d1344,rwS,g1]
 ·rw [e] at g1 ⊢
  rw [if_neg (by decide)]
  simp (disch:=omega) only [go_sem,d1344,rwS,g1]
 ·rw [e] at g1 ⊢
  rw [if_pos rfl]
  obtain ⟨s,rfl⟩:∃ n:Nat,s=n:=⟨s.toNat,by omega⟩
  obtain ⟨t,rfl⟩:∃ n:Nat,t=n:=⟨t.toNat,by omega⟩
  have g2:=meet_run hr (chk_iff.1 hc) (s:=s) (t:=t) (by omega) (by omega)
  simp only [rwS] at g2
  generalize mtN r s t=k at *
  generalize lev (nbr r false) s t=D at *
  by_cases hD:0≤D
  ·rw [if_pos hD]
   simp (disch:=omega) only [go_sem,d1344,rwS,g1,g2]
  ·rw [if_neg hD]
   simp (disch:=omega) only [go_sem,d1344,rwS,g1,g2]
end Go.Proofs.Ytgiofefdfcaibaa
