import Derived.Test.YtgiofefdfcaibaaGreatVc
import Derived.Test.YtgiofefdfcaibaaGreatHy
namespace Go.Proofs.YtgiofefdfcaibaaGreat
set_option linter.unusedSimpArgs false
set_option linter.unusedVariables false
set_option maxHeartbeats 4000000
set_option maxRecDepth 100000
theorem many_run {r:Rw} (hr:okR r):runP tab 1192 [.agg (rwS r)] []=some (.int .i64 ((r.off.length:Int) - 1),[]):=by
 refine runP_fn t1192 rfl ?_
 have h1:=hr.a
 simp (disch:=omega) only [go_sem,d1192,rwS]
theorem phas_run {r:Rw} {v:Int} (hr:okR r):runP tab 1369 [.agg (rwS r),.int .i64 v] []=some (.bool (decide (0≤v∧v<(r.off.length:Int) - 1)),[]):=by
 refine runP_fn t1369 rfl ?_
 have g:=many_run hr
 simp only [rwS] at g
 by_cases h0:0≤v
 ·simp (disch:=omega) only [go_sem,d1369,rwS,g,h0]
 ·have e:decide (0≤v∧v<(r.off.length:Int) - 1)=false:=by simp;omega
  rw [e]
  simp (disch:=omega) only [go_sem,d1369,rwS,g]
noncomputable def pchk (r:Rw) (l:List Int):Int:=if chk r=true then (if allPl ((r.off.length:Int) - 1) l=true then 0 else 1) else 40
theorem pcheck_run {r:Rw} {l:List Int} (hr:okR r) (hl:l.length≤1000000):runP tab 1355 [.agg (rwS r),.sl 1 (ints l)] []=some (.int .i64 (pchk r l),[]):=by
 refine runP_fn t1355 rfl ?_
 have gc:=hr.check
 unfold pchk
 simp only [rwS] at gc
 cases hc:chk r with
 |false=>
  rw [hc] at gc
  rw [if_neg (by simp)]
  simp (disch:=omega) only [go_sem,d1355,rwS,gc]
 |true=>
  rw [hc] at gc
  rw [if_pos rfl]
  simp (disch:=omega) only [go_sem,d1355,rwS,gc]
  let S:Nat→St:=fun i=>⟨[(2,.ref 0 0),(10,.sl 1 (ints l)),(11,.int .i64 (l.length:Int)),(12,.int .i64 (i:Int))],[.row false (rwS r)],0,[(0,1,[2,10,11,12],[(2,0)])]⟩
  rcases first_at 0 (fun v=>decide (0≤v∧v<(r.off.length:Int) - 1)) l with ⟨q1,q2⟩ | ⟨k,q1,q2,q3,q4⟩
  ·rw [show allPl ((r.off.length:Int) - 1) l=true from q2,if_pos rfl]
   refine Ev_loop0 S l.length (by simp [S,rwS]) (fun i hi=>?_) ?_
   ·have g:=phas_run (v:=l.getD i 0) hr
    rw [q1 i hi] at g
    simp only [rwS] at g
    simp (disch:=omega) only [go_sem,d1355_b0,rwS,S,g]
   ·simp (disch:=omega) only [go_sem,d1355_b0,rwS,S]
  ·rw [show allPl ((r.off.length:Int) - 1) l=false from q4,if_neg (by simp)]
   refine Ev_loop0 S k (by simp [S,rwS]) (fun i hi=>?_) ?_
   ·have g:=phas_run (v:=l.getD i 0) hr
    rw [q2 i hi] at g
    simp only [rwS] at g
    simp (disch:=omega) only [go_sem,d1355_b0,rwS,S,g]
   ·have g:=phas_run (v:=l.getD k 0) hr
    rw [q3] at g
    simp only [rwS] at g
    simp (disch:=omega) only [go_sem,d1355_b0,rwS,S,g]
def nbr (r:Rw) (back:Bool) (v:Int):List Int:=if back then rowI r.roff r.rev v.toNat else rowI r.off r.to v.toNat
def plc (r:Rw):Nat:=r.off.length - 1
theorem nbr_plc {r:Rw} (h:r.ok) (b:Bool):Plc (nbr r b) (plc r):=by
 intro v h1 h2 x hx
 have lo:=h.f.lo
 have l:=h.l
 unfold plc at *
 cases b with
 |false=>
  have:=h.f.row_pl (v:=v.toNat) (by omega) hx
  omega
 |true=>
  have:=h.b.row_pl (v:=v.toNat) (by omega) hx
  omega
theorem nbr_mirror {r:Rw} (h:r.ok) (b:Bool):Mrr (nbr r b) (nbr r !b) (plc r):=by
 have lo:=h.f.lo
 have l:=h.l
 have key:Mrr (nbr r false) (nbr r true) (plc r):=by
  intro u v a1 a2 b1 b2
  unfold plc at *
  have:=rows_mirror h (v:=u.toNat) (w:=v.toNat) (by omega) (by omega)
  rw [show ((v.toNat:Nat):Int)=v by omega,show ((u.toNat:Nat):Int)=u by omega] at this
  exact this
 cases b with
 |false=>exact key
 |true=>exact key.symm
theorem nbr_len {r:Rw} (h:r.ok) (b:Bool) {v:Int} (h1:0≤v) (h2:v<plc r):(nbr r b v).length≤2000:=by
 have lo:=h.f.lo
 have l:=h.l
 unfold plc at h2
 cases b with
 |false=>exact row_le h (v:=v.toNat) (by omega)
 |true=>exact row_le' h (v:=v.toNat) (by omega)
def ldK (b:Bool):Nat:=if b then 1370 else 1371
def ldC (r:Rw) (b:Bool):AV:=.clo (ldK b) [.agg (rwS r)] []
theorem wout_run {r:Rw} (h:r.ok) {v:Int} (h1:0≤v) (h2:v<plc r):runP tab 1371 [.agg (rwS r),.int .i64 v] []=some (.sl 1 (ints (nbr r false v)),[]):=by
 refine runP_fn t1371 rfl ?_
 obtain ⟨w,rfl⟩:∃ w:Nat,v=w:=⟨v.toNat,by omega⟩
 have lo:=h.f.lo
 have hi:=h.f.hi
 have tl:=h.f.tl
 unfold plc at h2
 have a1:=h.f.gn (v:=w) (by omega)
 have a2:=h.f.gn (v:=w+1) (by omega)
 have a3:=h.f.om (v:=w) (by omega)
 have a4:=h.f.ole (v:=w+1) (by omega)
 simp only [gi] at a1 a2
 have q2:((w:Int)+1).toNat=w+1:=by omega
 have e:nbr r false (w:Int)=(r.to.drop (oi r.off w)).take (oi r.off (w+1) - oi r.off w):=rfl
 rw [e]
 simp (disch:=omega) only [go_sem,d1371,rwS,a1,a2,q2]
theorem win_run {r:Rw} (h:r.ok) {v:Int} (h1:0≤v) (h2:v<plc r):runP tab 1370 [.agg (rwS r),.int .i64 v] []=some (.sl 1 (ints (nbr r true v)),[]):=by
 refine runP_fn t1370 rfl ?_
 obtain ⟨w,rfl⟩:∃ w:Nat,v=w:=⟨v.toNat,by omega⟩
 have lo:=h.b.lo
 have hi:=h.b.hi
 have tl:=h.b.tl
 have l:=h.l
 unfold plc at h2
 have a1:=h.b.gn (v:=w) (by omega)
 have a2:=h.b.gn (v:=w+1) (by omega)
 have a3:=h.b.om (v:=w) (by omega)
 have a4:=h.b.ole (v:=w+1) (by omega)
 simp only [gi] at a1 a2
 have q2:((w:Int)+1).toNat=w+1:=by omega
 have e:nbr r true (w:Int)=(r.rev.drop (oi r.roff w)).take (oi r.roff (w+1) - oi r.roff w):=rfl
 rw [e]
 simp (disch:=omega) only [go_sem,d1370,rwS,a1,a2,q2]
theorem ld_run {r:Rw} (h:r.ok) (b:Bool) {v:Int} (h1:0≤v) (h2:v<plc r):runP tab (ldK b) [.agg (rwS r),.int .i64 v] []=some (.sl 1 (ints (nbr r b v)),[]):=by
 cases b with
 |false=>exact wout_run h h1 h2
 |true=>exact win_run h h1 h2
theorem lead_run {r:Rw} (hr:okR r) (b:Bool):runP tab 1357 [.agg (rwS r),.bool b] []=some (ldC r b,[]):=by
 refine runP_fn t1357 rfl ?_
 have h1:=hr.a
 cases b<;>simp (disch:=omega) only [go_sem,d1357,rwS,ldC,ldK]<;>trace_state
theorem bey1_len1 (t:List Bool × List Int) (w:Int):(bey1 t w).1.length=t.1.length:=by unfold bey1;split<;>simp
theorem bey1_len2 (t:List Bool × List Int) (w:Int):(bey1 t w).2.length≤t.2.length+1:=by unfold bey1;split<;>simp
theorem beyR_len1:∀ (R:List Int) (t:List Bool × List Int),(R.foldl bey1 t).1.length=t.1.length
 | [],t=>rfl
 |w::R,t=>by rw [List.foldl_cons,beyR_len1 R,bey1_len1]
theorem beyR_len2:∀ (R:List Int) (t:List Bool × List Int),(R.foldl bey1 t).2.length≤t.2.length+R.length
 | [],t=>Nat.le_refl _
 |w::R,t=>by
  rw [List.foldl_cons];have:=beyR_len2 R (bey1 t w);have:=bey1_len2 t w;rw [List.length_cons];omega
theorem beyV_len1 (nb:Int→List Int):∀ (l:List Int) (t:List Bool × List Int),(l.foldl (beyV nb) t).1.length=t.1.length
 | [],t=>rfl
 |v::l,t=>by rw [List.foldl_cons,beyV_len1 nb l,beyV,beyR_len1]
theorem beyV_len2 {nb:Int→List Int} {M:Nat}:∀ (l:List Int) (t:List Bool × List Int),(∀ v∈l,(nb v).length≤M)→(l.foldl (beyV nb) t).2.length≤t.2.length+l.length*M
 | [],t,_=>by simp
 |v::l,t,h=>by
  rw [List.foldl_cons]
  have h1:=beyV_len2 l (beyV nb t v) (fun x hx=>h x (by simp [hx]))
  have h2:=beyR_len2 (nb v) t
  have h3:=h v (by simp)
  rw [List.length_cons,Nat.succ_mul]
  unfold beyV at h1 ⊢
  omega
theorem foldl_snoc {α β:Type} (f:β→α→β) {l:List α} {i:Nat} (d:α) (h:i<l.length) (b:β):(l.take (i+1)).foldl f b=f ((l.take i).foldl f b) (l.getD i d):=by
 rw [take_snoc d h,List.foldl_append];rfl
def byBT (r:Rw) (b:Bool) (l R:List Int) (i j:Nat) (t:List Bool × List Int):St:=⟨[(1,.own 1 1),(2,ldC r b),(7,.own 1 2),(12,.own 1 0),(13,.int .i64 (l.length:Int)),(14,.int .i64 (i:Int)),(20,.sl 1 (ints R)),(21,.int .i64 (R.length:Int)),(22,.int .i64 (j:Int))],[.row false (ints l),.row false (bls t.1),.row false (ints t.2)],2,[(1,3,[1,2,7,12,13,14,20,21,22],[(1,1),(7,2),(12,0)]),(0,3,[1,2,7,12,13,14],[(1,1),(7,2),(12,0)])]⟩
def byBS (r:Rw) (b:Bool) (l:List Int) (i:Nat) (t:List Bool × List Int):St:=⟨[(1,.own 1 1),(2,ldC r b),(7,.own 1 2),(12,.own 1 0),(13,.int .i64 (l.length:Int)),(14,.int .i64 (i:Int))],[.row false (ints l),.row false (bls t.1),.row false (ints t.2)],2,[(0,3,[1,2,7,12,13,14],[(1,1),(7,2),(12,0)])]⟩
theorem byB_num {r:Rw} {b:Bool} {l R:List Int} {i j:Nat} {t:List Bool × List Int} (hj:j<R.length) (hw:0≤R.getD j 0∧R.getD j 0<t.1.length) (ht:t.2.length≤1000000000000) (hR:R.length≤1000000):Ev tab d1356_b1 (byBT r b l R i j t) (fun x st=>x=.normal∧st=byBT r b l R i (j+1) (bey1 t (R.getD j 0))):=by
 obtain ⟨w,hw2⟩:∃ w:Nat,R.getD j 0=w:=⟨(R.getD j 0).toNat,by omega⟩
 obtain ⟨t1,t2⟩:=t
 simp only at hw ht
 have hw3:w<t1.length:=by omega
 rw [hw2]
 cases hs:t1.getD w false with
 |true=>
  have e:bey1 (t1,t2) (w:Int)=(t1,t2):=by rw [bey1,if_pos (by simpa [sne] using hs)]
  rw [e]
  simp (disch:=omega) only [go_sem,d1356_b1,byBT,ldC,rwS,hw2,hs]
 |false=>
  have e:bey1 (t1,t2) (w:Int)=(t1.set w true,t2++[(w:Int)]):=by rw [bey1,if_neg (by show ¬ (t1.getD ((w:Int)).toNat false=true);rw [Int.toNat_natCast,hs];simp)];rfl
  rw [e]
  simp (disch:=omega) only [go_sem,d1356_b1,byBT,ldC,rwS,hw2,hs]
theorem byB_place {r:Rw} {b:Bool} (ok:r.ok) {l:List Int} {i:Nat} {t:List Bool × List Int} (hi:i<l.length) (hv:0≤l.getD i 0∧l.getD i 0<plc r) (ht1:t.1.length=plc r) (ht:t.2.length≤100000000000) (hl:l.length≤1000000):Ev tab d1356_b0 (byBS r b l i t) (fun x st=>x=.normal∧st=byBS r b l (i+1) (beyV (nbr r b) t (l.getD i 0))):=by
 have g:=ld_run ok b hv.1 hv.2
 have hR:=nbr_len ok b hv.1 hv.2
 have hp:=nbr_plc ok b _ hv.1 hv.2
 have ev:beyV (nbr r b) t (l.getD i 0)=(nbr r b (l.getD i 0)).foldl bey1 t:=rfl
 rw [ev]
 simp only [rwS] at g
 generalize hv2:l.getD i 0=v at *
 generalize hR2:nbr r b v=R at *
 simp (disch:=omega) only [go_sem,d1356_b0,byBS,ldC,rwS,hv2,g]
 refine Ev_loop0 (fun j=>byBT r b l R i j ((R.take j).foldl bey1 t)) R.length (by simp [byBT,ldC,rwS]) (fun j hj=>?_) ?_
 ·have e:=foldl_snoc bey1 0 hj t
  have h1:=beyR_len1 (R.take j) t
  have h2:=beyR_len2 (R.take j) t
  rw [List.length_take] at h2
  have hm:=hp _ (getD_mem (d:=0) hj)
  rw [e]
  exact byB_num hj (by rw [h1,ht1];exact hm) (by omega) (by omega)
 ·rw [List.take_length]
  simp (disch:=omega) only [go_sem,d1356_b1,byBT,ldC,rwS]
theorem byB_run {r:Rw} {b:Bool} (ok:r.ok) {l:List Int} {s:List Bool} (hl:l.length≤1000000) (hv:∀ v∈l,0≤v∧v<plc r) (hs:s.length=plc r):runP tab 1356 [.own 1 0,.own 1 1,ldC r b] [.row false (ints l),.row false (bls s)]=some (.vec 1 (ints (bey (nbr r b) l s).2),[.row false (ints l),.row false (bls (bey (nbr r b) l s).1)]):=by
 refine runP_fn t1356 rfl ?_
 have h0:∀ t:List Bool × List Int,(l.foldl (beyV (nbr r b)) t)=l.foldl (beyV (nbr r b)) t:=fun _=>rfl
 simp (disch:=omega) only [go_sem,d1356,ldC,rwS]
 refine Ev_loop0 (fun i=>byBS r b l i ((l.take i).foldl (beyV (nbr r b)) (s,[]))) l.length (by simp [byBS,ldC,rwS,ints]) (fun i hi=>?_) ?_
 ·have e:=foldl_snoc (beyV (nbr r b)) 0 hi (s,[])
  have h1:=beyV_len1 (nbr r b) (l.take i) (s,[])
  have h2:=beyV_len2 (nb:=nbr r b) (M:=2000) (l.take i) (s,[]) (fun v hx=>by
   have:=hv v (List.mem_of_mem_take hx)
   exact nbr_len ok b this.1 this.2)
  rw [List.length_take] at h2
  simp only [List.length_nil] at h2
  have h3:min i l.length*2000≤2000000000:=by omega
  rw [e]
  exact byB_place ok hi (hv _ (getD_mem hi)) (by rw [h1];exact hs) (by omega) hl
 ·rw [List.take_length]
  have e:l.foldl (beyV (nbr r b)) (s,[])=bey (nbr r b) l s:=rfl
  rw [e]
  generalize bey (nbr r b) l s=t at *
  obtain ⟨t1,t2⟩:=t
  simp (disch:=omega) only [go_sem,d1356_b0,byBS,ldC,rwS]
theorem fronts_run {from_ n:Int} {r:Rw} {b:Bool}:runP tab 1368 [.int .i64 from_,.int .i64 n,ldC r b] []=some (.clo 1378 [] [.box [.int .i64 n],.box [.int .i64 from_],.box [ldC r b]],[]):=by
 refine runP_fn t1368 rfl ?_
 simp (disch:=omega) only [go_sem,d1368,ldC,rwS]
noncomputable def upl (nb:Int→List Int) (s:Int) (n:Nat) (d:Int):List Int:=(List.range n).map fun i:Nat=>if lev nb s i<d then lev nb s i else -1
theorem upl_len (nb:Int→List Int) (s:Int) (n:Nat) (d:Int):(upl nb s n d).length=n:=by simp [upl]
theorem upl_at {nb:Int→List Int} {s:Int} {n:Nat} {d:Int} {i:Nat} (h:i<n):gi (upl nb s n d) i=if lev nb s i<d then lev nb s i else -1:=by
 simp [upl,gi,List.getD_eq_getElem?_getD,h]
theorem lev_ge (nb:Int→List Int) (s v:Int):-1≤lev nb s v:=by
 rcases lev_cases nb s v with ⟨k,_,e⟩ | ⟨_,e⟩<;>omega
theorem upl_zero (nb:Int→List Int) (s:Int) (n:Nat):upl nb s n 0=List.replicate n (-1):=by
 refine gi_ext (by simp [upl]) fun i hi=>?_
 rw [upl_len] at hi
 rw [upl_at hi]
 have:gi (List.replicate n (-1)) i = -1:=by simp [gi,List.getD_eq_getElem?_getD,hi]
 rw [this]
 have:=lev_ge nb s i
 split<;>omega
def setD (d:Int) (L:List Int) (v:Int):List Int:=L.set v.toNat d
theorem setD_len (d:Int):∀ (l L:List Int),(l.foldl (setD d) L).length=L.length
 | [],L=>rfl
 |v::l,L=>by rw [List.foldl_cons,setD_len d l];simp [setD]
theorem setD_at {d:Int} {n:Nat}:∀ {l L:List Int} {i:Nat},L.length=n→(∀ v∈l,0≤v∧v<n)→i<n→gi (l.foldl (setD d) L) i=if (i:Int)∈l then d else gi L i
 | [],L,i,_,_,_=>by simp
 |v::l,L,i,hL,hl,hi=>by
  have hv:=hl v (by simp)
  rw [List.foldl_cons,setD_at (n:=n) (by simp [setD,hL]) (fun x hx=>hl x (by simp [hx])) hi]
  unfold setD
  rw [gi_set (by rw [hL];omega)]
  by_cases h1:(i:Int)∈l
  ·rw [if_pos h1,if_pos (by simp [h1])]
  ·rw [if_neg h1]
   by_cases h2:i=v.toNat
   ·rw [if_pos h2,if_pos (by rw [List.mem_cons];exact .inl (by omega))]
   ·rw [if_neg h2,if_neg (by rw [List.mem_cons];rintro (h | h);exact h2 (by omega);exact h1 h)]
theorem upl_succ {nb:Int→List Int} {n:Nat} (H:Plc nb n) {s:Int} (hs:0≤s∧s<n) (d:Nat):(frt nb n s d).2.foldl (setD d) (upl nb s n d)=upl nb s n ((d+1:Nat):Int):=by
 have F:=frt_spec H hs d
 have hf:∀ v∈(frt nb n s d).2,0≤v∧v<n:=fun v hv=>Wk_pl H hs ((F.front v).1 hv).1
 refine gi_ext (by rw [setD_len,upl_len,upl_len]) fun i hi=>?_
 rw [setD_len,upl_len] at hi
 rw [setD_at (upl_len ..) hf hi,upl_at hi,upl_at hi]
 have hm:=F.front (i:Int)
 by_cases h:(i:Int)∈(frt nb n s d).2
 ·rw [if_pos h,lev_yes (hm.1 h),if_pos (by omega)]
 ·rw [if_neg h]
  have:lev nb s i≠d:=fun e=>h (hm.2 (lev_dst.1 e))
  by_cases h2:lev nb s i<d
  ·rw [if_pos h2,if_pos (by omega)]
  ·rw [if_neg h2,if_neg (by omega)]
theorem frt_ends {nb:Int→List Int} {n:Nat} (H:Plc nb n) {s:Int} (hs:0≤s∧s<n):∃ m,m≤n∧(∀ d,d<m→(frt nb n s d).2≠[])∧(frt nb n s m).2=[]:=by
 have he:(frt nb n s n).2=[]:=by
  rw [List.eq_nil_iff_forall_not_mem]
  intro x hx
  have:=dsk_lt H hs (((frt_spec H hs n).front x).1 hx)
  omega
 rcases first_ix' (fun d=>(frt nb n s d).2≠[]) (n+1) with h | ⟨m,h1,h2,h3⟩
 ·exact absurd he (h n (by omega))
 ·exact ⟨m,by omega,h2,by simpa using h3⟩
theorem frt_below {nb:Int→List Int} {n:Nat} (H:Plc nb n) {s:Int} (hs:0≤s∧s<n) {m:Nat} (h:(frt nb n s m).2=[]) (i:Nat):lev nb s i<m:=by
 rcases lev_cases nb s i with ⟨k,hk,e⟩ | ⟨_,e⟩
 ·rw [e]
  rcases Nat.lt_or_ge k m with h2 | h2
  ·omega
  ·obtain ⟨j,rfl⟩:∃ j,k=m+j:=⟨k - m,by omega⟩
   obtain ⟨u,hu,_⟩:=Wk_split hk.1
   obtain ⟨i2,hi2,hd⟩:=Wk_dsk hu
   obtain ⟨u2,hu2,hr⟩:=Wk_split (j:=m) (k:=j) hk.1
   exfalso
   have:∀ q:Nat,∀ v,dsk nb s (m+q) v→∃ x,dsk nb s m x:=fun q=>by
    induction q with
    |zero=>intro v hv;exact ⟨v,hv⟩
    |succ q ih=>intro v hv;obtain ⟨u,hu,_⟩:=dsk_pred hv;exact ih u hu
   obtain ⟨x,hx⟩:=this j _ hk
   have:=((frt_spec H hs m).front x).2 hx
   rw [h] at this
   cases this
 ·rw [e];omega
noncomputable def uplv (nb:Int→List Int) (s:Int) (n:Nat) (rad:Int):List Int:=(List.range n).map fun i:Nat=>if lev nb s i≤rad then lev nb s i else -1
theorem uplv_len (nb:Int→List Int) (s:Int) (n:Nat) (rad:Int):(uplv nb s n rad).length=n:=by simp [uplv]
theorem uplv_at {nb:Int→List Int} {s:Int} {n:Nat} {rad:Int} {i:Nat} (h:i<n):gi (uplv nb s n rad) i=if lev nb s i≤rad then lev nb s i else -1:=by
 simp [uplv,gi,List.getD_eq_getElem?_getD,h]
theorem uplv_eq {nb:Int→List Int} {s:Int} {n:Nat} {rad d:Int} (h:∀ i:Nat,lev nb s i<d↔(lev nb s i≤rad∨lev nb s i = -1∧0≤d)):upl nb s n d=uplv nb s n rad:=by
 refine gi_ext (by rw [upl_len,uplv_len]) fun i hi=>?_
 rw [upl_len] at hi
 rw [upl_at hi,uplv_at hi]
 have:=h i
 by_cases h1:lev nb s i<d<;>by_cases h2:lev nb s i≤rad
 ·rw [if_pos h1,if_pos h2]
 ·rw [if_pos h1,if_neg h2];rcases this.1 h1 with h | h;exact absurd h h2;exact h.1
 ·exact absurd (this.2 (.inl h2)) h1
 ·rw [if_neg h1,if_neg h2]
def upA:Stmt:=d1353_r0a
def upB:Stmt:=d1353_r0
theorem ev_upA (st:St) (Q:AX→St→Prop):Ev tab upA st Q=Ev tab d1353_r0a st Q:=rfl
theorem ev_upB (st:St) (Q:AX→St→Prop):Ev tab upB st Q=Ev tab d1353_r0 st Q:=rfl
def upH (r:Rw) (b:Bool) (s:Nat) (rad:Int) (L:List Int) (lst:Nat) (t:List Bool × List Int):List Blk:=[.row false (rwS r),.row false [.int .i64 rad],.dead,.row false [.own 1 7],.row false [.int .i64 (plc r:Int)],.row false [.int .i64 (s:Int)],.row false [ldC r b],.row false (ints L),.lp lst [(6,.ref 1 0),(8,.nils),(9,.int .i64 0),(11,.ref 3 0),(33,.clo 1378 [] [.ref 4 0,.ref 5 0,.ref 6 0])] [34,35] upA upB .normal,.row false (bls t.1),.row false (ints t.2)]
noncomputable def upS (r:Rw) (b:Bool) (s:Nat) (rad:Int) (d:Nat):St:=⟨[(0,.yld 8),(3,.ref 6 0),(5,.own 1 9),(6,.own 1 10),(7,.int .i64 (d:Int))],upH r b s rad (upl (nbr r b) s (plc r) d) 0 (frt (nbr r b) (plc r) s d),9,[(0,11,[0,3,5,6,7],[(0,8),(3,6),(5,9),(6,10)])]⟩
def upI (r:Rw) (b:Bool) (s:Nat) (rad:Int) (L:List Int) (t:List Bool × List Int) (d i:Nat):St:=⟨[(6,.ref 1 0),(11,.ref 3 0),(12,.int .i64 (d:Int)),(36,.own 1 10),(37,.int .i64 (t.2.length:Int)),(38,.int .i64 (i:Int))],upH r b s rad L 1 t,11,[(0,11,[6,11,12,36,37,38],[(6,1),(11,3),(36,10)])]⟩
theorem up_round {r:Rw} {s:Nat} {rad:Int} {b:Bool} (ok:r.ok) (h:s<plc r) (d:Nat) (hd2:d≤1000000) (hd:(d:Int)≤rad) (hne:(frt (nbr r b) (plc r) s d).2≠[]):Ev tab d1378_b0 (upS r b s rad d) (fun x st=>x=.normal∧st=upS r b s rad (d+1)):=by
 have H:=nbr_plc ok b
 have F:=frt_spec H (s:=(s:Int)) ⟨by omega,by omega⟩ d
 have ef:frt (nbr r b) (plc r) s (d+1)=((bey (nbr r b) (frt (nbr r b) (plc r) s d).2 (frt (nbr r b) (plc r) s d).1).1,(bey (nbr r b) (frt (nbr r b) (plc r) s d).2 (frt (nbr r b) (plc r) s d).1).2):=rfl
 have eu:=upl_succ H (s:=(s:Int)) ⟨by omega,by omega⟩ d
 have hf:∀ v∈(frt (nbr r b) (plc r) s d).2,0≤v∧v<plc r:=fun v hv=>Wk_pl H ⟨by omega,by omega⟩ ((F.front v).1 hv).1
 have hlo:=ok.f.lo
 have hhi:=ok.f.hi
 have hpl:plc r=r.off.length - 1:=rfl
 have hlen:(frt (nbr r b) (plc r) s d).2.length≤1000000:=by
  have:=F.nd.length_le_of_subset (l₂:=(List.range (plc r)).map fun i:Nat=>(i:Int)) (fun x hx=>by
   have:=hf x hx
   exact List.mem_map.2 ⟨x.toNat,by simp;omega,by omega⟩)
  simp at this
  omega
 have hul:=upl_len (nbr r b) s (plc r) d
 have gb:=byB_run (b:=b) ok hlen hf F.len
 simp only [ldC,rwS] at gb
 unfold upS
 rw [ef]
 generalize frt (nbr r b) (plc r) s d=t at *
 generalize upl (nbr r b) s (plc r) d=L at *
 have hpos:0<t.2.length:=List.length_pos_iff.2 hne
 simp (disch:=omega) only [go_sem,d1378_b0,upH,ldC,rwS]
 refine EvR_eq rfl rfl ?_
 simp (disch:=omega) only [go_sem,ev_upA,ev_upB,d1353_r0a,d1353_r0]
 refine Ev_loop0 (fun i=>upI r b s rad ((t.2.take i).foldl (setD d) L) t d i) t.2.length (by simp [upI,upH,ldC,rwS]) (fun i hi=>?_) ?_
 ·have e:=foldl_snoc (setD (d:Int)) 0 hi L
  have hv:=hf _ (getD_mem (d:=0) hi)
  have hl2:=setD_len (d:Int) (t.2.take i) L
  rw [hul] at hl2
  obtain ⟨w,hw⟩:∃ w:Nat,t.2.getD i 0=w:=⟨(t.2.getD i 0).toNat,by omega⟩
  rw [e,hw]
  have e2:setD (d:Int) ((t.2.take i).foldl (setD d) L) (w:Int)=((t.2.take i).foldl (setD d) L).set w d:=rfl
  rw [e2]
  generalize (t.2.take i).foldl (setD (d:Int)) L=M at *
  simp (disch:=omega) only [go_sem,d1353_b0,upI,upH,ldC,rwS,hw]
 ·rw [List.take_length,eu]
  have e3:(((d+1:Nat):Int))=(d:Int)+1:=by omega
  rw [e3]
  have dd:dedup [10,9] []=[10,9]:=rfl
  simp (disch:=omega) only [go_sem,d1353_b0,upI,upH,ldC,rwS,gb,dd]
theorem upTo_run {r:Rw} {s:Nat} {rad:Int} {b:Bool} (hr:okR r) (hc:chk r=true) (h:s<plc r):runP tab 1353 [.agg (rwS r),.int .i64 (s:Int),.int .i64 rad,.bool b] []=some (.tup [.vec 1 (ints (uplv (nbr r b) s (plc r) rad)),.int .i64 0],[]):=by
 refine runP_fn t1353 rfl ?_
 have ok:=chk_iff.1 hc
 have lo:=ok.f.lo
 have hi:=ok.f.hi
 have hpl:plc r=r.off.length - 1:=rfl
 have hn:((r.off.length:Int) - 1)=(plc r:Int):=by unfold plc;omega
 have g1:=pcheck_run (r:=r) (l:=[(s:Int)]) hr (by simp)
 rw [show pchk r [(s:Int)]=0 by
  rw [pchk,if_pos hc,if_pos]
  unfold plc at h
  simp [allPl];omega] at g1
 have g2:=many_run hr
 rw [hn] at g2
 have g3:=repeat_run (x:=-1) (n:=plc r) (by unfold plc;omega)
 have g4:=lead_run hr b
 have g5:=fronts_run (from_:=(s:Int)) (n:=(plc r:Int)) (r:=r) (b:=b)
 rw [show ints [(s:Int)]=[.int .i64 (s:Int)] from rfl] at g1
 simp only [rwS,ldC] at g1 g2 g4 g5
 simp (disch:=omega) only [go_sem,d1353,rwS,ldC,g1,g2,g3,g4,g5]
 refine Ev_rangef rfl ?_
 refine EvC_fn t1378 rfl ?_
 have el:(List.replicate (plc r) false).length=plc r:=by simp
 have e1:ints [(s:Int)]=[.int .i64 (s:Int)]:=rfl
 simp (disch:=omega) only [go_sem,d1378,el]
 have H:=nbr_plc ok b
 have hs:0≤(s:Int)∧(s:Int)<plc r:=⟨by omega,by omega⟩
 obtain ⟨m0,m1,m2,m3⟩:=frt_ends H hs
 have hb:=frt_below H hs m3
 have u0:=upl_zero (nbr r b) s (plc r)
 have f0:frt (nbr r b) (plc r) s 0=((List.replicate (plc r) false).set s true,[(s:Int)]):=rfl
 rcases Int.lt_or_le (rad+1) m0 with hlt | hge
 ·obtain ⟨m,hm⟩:∃ m:Nat,m=(rad+1).toNat:=⟨_,rfl⟩
  have hu:upl (nbr r b) s (plc r) m=uplv (nbr r b) s (plc r) rad:=uplv_eq fun i=>by
   have:=lev_ge (nbr r b) s i
   omega
  have hm0:m0≠0:=by rintro rfl;rw [f0] at m3;cases m3
  have hmm:m<m0:=by omega
  refine Ev_loop0 (upS r b s rad) m (by simp [upS,upH,ldC,rwS,u0,f0,upA,upB,ints]) (fun d hd=>up_round ok h d (by omega) (by omega) (m2 d (by omega))) ?_
  have F:=frt_spec H hs m
  have hne:=m2 m hmm
  have hf:∀ v∈(frt (nbr r b) (plc r) s m).2,0≤v∧v<plc r:=fun v hv=>Wk_pl H hs ((F.front v).1 hv).1
  have hlen:(frt (nbr r b) (plc r) s m).2.length≤1000000:=by
   have:=F.nd.length_le_of_subset (l₂:=(List.range (plc r)).map fun i:Nat=>(i:Int)) (fun x hx=>by
    have:=hf x hx
    exact List.mem_map.2 ⟨x.toNat,by simp;omega,by omega⟩)
   simp at this
   omega
  rw [←hu]
  unfold upS
  generalize frt (nbr r b) (plc r) s m=t at *
  generalize upl (nbr r b) s (plc r) m=L at *
  have hpos:0<t.2.length:=List.length_pos_iff.2 hne
  simp (disch:=omega) only [go_sem,d1378_b0,upH,ldC,rwS]
  refine EvR_eq rfl rfl ?_
  simp (disch:=omega) only [go_sem,ev_upA,ev_upB,d1353_r0a,d1353_r0]
  refine Ev_loop0 (fun i=>upI r b s rad L t m i) 0 (by simp [upI,upH,ldC,rwS]) (fun i hi=>by omega) ?_
  have e0:rdc (ints t.2) none=some (.int .i64 (t.2.getD 0 0)):=by have:=ints_rdc0 hpos;rwa [List.drop_zero] at this
  simp (disch:=omega) only [go_sem,d1353_b0,upI,upH,ldC,rwS,e0]
 ·have hu:upl (nbr r b) s (plc r) m0=uplv (nbr r b) s (plc r) rad:=uplv_eq fun i=>by
   have:=hb i
   omega
  refine Ev_loop0 (upS r b s rad) m0 (by simp [upS,upH,ldC,rwS,u0,f0,upA,upB,ints]) (fun d hd=>up_round ok h d (by omega) (by omega) (m2 d hd)) ?_
  have F:=frt_spec H hs m0
  rw [←hu]
  unfold upS
  generalize frt (nbr r b) (plc r) s m0=t at *
  have m3:t.2=[]:=m3
  simp (disch:=omega) only [go_sem,d1378_b0,upH,ldC,rwS,m3,List.length_nil]
end Go.Proofs.YtgiofefdfcaibaaGreat
