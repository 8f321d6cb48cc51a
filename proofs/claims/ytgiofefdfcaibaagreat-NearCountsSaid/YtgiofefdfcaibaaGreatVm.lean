import Derived.Test.YtgiofefdfcaibaaGreatVf
import Derived.Test.YtgiofefdfcaibaaGreatIb
import Derived.Test.YtgiofefdfcaibaaGreatSi4
namespace Go.Proofs.YtgiofefdfcaibaaGreat
set_option linter.unusedSimpArgs false
set_option linter.unusedVariables false
set_option maxHeartbeats 4000000
set_option maxRecDepth 100000
theorem prs_fst {l:List Ed} {i:Nat} (h:i<l.length):rdc (prs (l.drop i)) none=some (.int .i64 (l.getD i default).1):=by
 rw [List.drop_eq_getElem_cons h,prs_cons,List.getD_eq_getElem?_getD,List.getElem?_eq_getElem h];rfl
theorem prs_snd {l:List Ed} {i:Nat} (h:i<l.length):rdc ((prs l).drop (i*2+1)) none=some (.int .i64 (l.getD i default).2):=by
 rw [←List.drop_drop,prs_drop,List.drop_eq_getElem_cons h,prs_cons,List.getD_eq_getElem?_getD,List.getElem?_eq_getElem h];rfl
def eds (r:Rw) (b:Bool):List Ed:=if b then (edU r (plc r)).map fun e=>(e.2,e.1) else edU r (plc r)
theorem eds_run {r:Rw} {b:Bool} (hr:okR r):runP tab 1354 [.agg (rwS r),.bool b] []=some (if chk r=true then .tup [.vec 2 (prs (eds r b)),.int .i64 0] else .tup [.vec 2 [],.int .i64 40],[]):=by
 refine runP_fn t1354 rfl ?_
 have g:=redges_run hr
 unfold toldE at g
 simp only [rwS] at g
 by_cases hc:chk r=true
 ·rw [if_pos hc] at g ⊢
  have ok:=chk_iff.1 hc
  have hl:=edU_len ok.f (v:=plc r) (by have:=ok.f.lo;unfold plc;omega)
  have h3:=ok.f.tl
  have h4:=ok.f.ole (v:=plc r) (by have:=ok.f.lo;unfold plc;omega)
  rw [show r.off.length - 1=plc r from rfl] at g
  unfold eds
  cases b with
  |false=>
   simp (disch:=omega) only [go_sem,d1354,rwS,g]
  |true=>
   generalize edU r (plc r)=E at *
   simp (disch:=omega) only [go_sem,d1354,rwS,g]
   refine Ev_loop0 (fun i=>⟨[(6,.own 2 1),(8,.own 2 2),(9,.int .i64 (i:Int))],[.row false (rwS r),.row false (prs E),.row false (prs ((E.take i).map fun e=>(e.2,e.1)))],0,[(0,3,[6,8,9],[(6,1),(8,2)])]⟩) E.length (by simp [rwS,prs]) (fun i hi=>?_) ?_
   ·have e1:=prs_fst hi
    have e2:=prs_snd hi
    have hm:((E.take i).map fun e=>(e.2,e.1)).length=i:=by rw [List.length_map,List.length_take];omega
    have e3:((E.take (i+1)).map fun e=>(e.2,e.1))=((E.take i).map fun e=>(e.2,e.1))++[((E.getD i default).2,(E.getD i default).1)]:=by
     rw [take_snoc default hi,List.map_append];rfl
    rw [e3]
    generalize ((E.take i).map fun e=>(e.2,e.1))=X at *
    generalize E.getD i default=e at *
    simp (disch:=omega) only [go_sem,d1354_b0,rwS,e1,e2,prs_snoc,hm]
   ·rw [List.take_length]
    simp (disch:=omega) only [go_sem,d1354_b0,rwS]
 ·rw [if_neg hc] at g ⊢
  simp (disch:=omega) only [go_sem,d1354,rwS,g]
noncomputable def lvT (r:Rw) (s:Int) (L:List Int):AV:=if chk r=true then (if 0≤s∧s<plc r then .tup [.vec 1 (ints L),.int .i64 0] else .tup [.vec 1 [],.int .i64 1]) else .tup [.vec 1 [],.int .i64 40]
theorem eds_ok {r:Rw} (ok:r.ok) (b:Bool):(∀ e∈eds r b,e.2∈nbr r b e.1∧0≤e.1∧e.1<plc r)∧∀ u:Int,0≤u→u<plc r→∀ v∈nbr r b u,(u,v)∈eds r b:=by
 have mem:∀ u v:Int,(u,v)∈edU r (plc r)↔(0≤u∧u<plc r)∧v∈nbr r false u:=by
  intro u v
  simp only [edU,edV,List.mem_flatMap,List.mem_range,List.mem_map,Prod.mk.injEq]
  constructor
  ·rintro ⟨w,hw,x,hx,rfl,rfl⟩
   exact ⟨⟨by omega,by omega⟩,by simpa [nbr] using hx⟩
  ·rintro ⟨⟨h1,h2⟩,h3⟩
   exact ⟨u.toNat,by omega,v,by simpa [nbr] using h3,by omega,rfl⟩
 cases b with
 |false=>
  refine ⟨fun e he=>?_,fun u h1 h2 v hv=>(mem u v).2 ⟨⟨h1,h2⟩,hv⟩⟩
  obtain ⟨⟨h1,h2⟩,h3⟩:=(mem e.1 e.2).1 he
  exact ⟨h3,h1,h2⟩
 |true=>
  have M:=nbr_mirror ok true
  have H:=nbr_plc ok true
  have H0:=nbr_plc ok false
  refine ⟨fun e he=>?_,fun u h1 h2 v hv=>?_⟩
  ·obtain ⟨⟨a,c⟩,ha,rfl⟩:=List.mem_map.1 he
   obtain ⟨⟨h1,h2⟩,h3⟩:=(mem a c).1 ha
   have hc:=H0 a h1 h2 c h3
   exact ⟨(M c a hc.1 hc.2 h1 h2).2 h3,hc.1,hc.2⟩
  ·have hv2:=H u h1 h2 v hv
   exact List.mem_map.2 ⟨(v,u),(mem v u).2 ⟨hv2,(M u v h1 h2 hv2.1 hv2.2).1 hv⟩,rfl⟩
theorem eds_len {r:Rw} (ok:r.ok) (b:Bool):(eds r b).length≤2000:=by
 have hl:=edU_len ok.f (v:=plc r) (by have:=ok.f.lo;unfold plc;omega)
 have h3:=ok.f.tl
 have h4:=ok.f.ole (v:=plc r) (by have:=ok.f.lo;unfold plc;omega)
 unfold eds
 cases b
 ·simp;omega
 ·simp;omega
theorem rlx_len (l:List (Int × Int)):∀ o:List Int,(l.foldl rlx o).length=o.length:=by
 induction l with
 |nil=>intro o;rfl
 |cons e l ih=>intro o;rw [List.foldl_cons,ih];unfold rlx;split<;>simp
theorem rounds_len (l:List (Int × Int)) (o:List Int):∀ t,(rounds l o t).length=o.length
 |0=>rfl
 |t+1=>by rw [rounds,rlx_len,rounds_len]
theorem rlx_at (o:List Int) {a b:Nat}:rlx o ((a:Int),(b:Int))=if 0≤gi o a∧(gi o b<0∨gi o a+1<gi o b) then o.set b (gi o a+1) else o:=rfl
def bnd (B:Int) (o:List Int):Prop:=∀ k,-1≤gi o k∧gi o k≤B
theorem gi_out {l:List Int} {i:Nat} (h:l.length≤i):gi l i=0:=by simp [gi,List.getD_eq_getElem?_getD,List.getElem?_eq_none h]
theorem gi_set' {l:List Int} {i j:Nat} {x:Int}:gi (l.set i x) j=if j=i∧i<l.length then x else gi l j:=by
 by_cases h:i<l.length
 ·rw [gi_set h];simp [h]
 ·rw [List.set_eq_of_length_le (by omega),if_neg (fun h2=>h h2.2)]
theorem rlx_bnd {B:Int} {o:List Int} (h:bnd B o) (hB:0≤B) (e:Int × Int):bnd (B+1) (rlx o e):=by
 intro k
 have h1:=h k
 have h2:=h e.1.toNat
 unfold rlx
 split
 ·rw [gi_set']
  split<;>omega
 ·omega
theorem rlxs_bnd:∀ {l:List (Int × Int)} {B:Int} {o:List Int},bnd B o→0≤B→bnd (B+l.length) (l.foldl rlx o)
 | [],B,o,h,_=>by simpa using h
 |e::l,B,o,h,hB=>by
  have:=rlxs_bnd (l:=l) (rlx_bnd h hB e) (by omega)
  rw [List.foldl_cons,List.length_cons]
  intro k
  have:=this k
  omega
theorem rounds_bnd {l:List (Int × Int)} {o:List Int} (h:bnd 0 o):∀ t:Nat,bnd ((t*l.length:Nat):Int) (rounds l o t)
 |0=>by simpa [rounds] using h
 |t+1=>by
  have:=rlxs_bnd (l:=l) (rounds_bnd (l:=l) h t) (by omega)
  rw [rounds]
  intro k
  have:=this k
  rw [Nat.succ_mul]
  omega
def rvO (r:Rw) (E:List Ed) (s n v:Nat):St:=⟨[(1,.int .i64 (s:Int)),(8,.own 2 1),(10,.int .i64 (n:Int)),(11,.own 1 2),(12,.int .i64 (v:Int))],[.row false (rwS r),.row false (prs E),.row false (ints (rpz n v (-1)))],0,[(0,3,[1,8,10,11,12],[(8,1),(11,2)])]⟩
def rvT (r:Rw) (E:List Ed) (n t:Nat) (o:List Int):St:=⟨[(8,.own 2 1),(10,.int .i64 (n:Int)),(11,.own 1 2),(13,.int .i64 (t:Int))],[.row false (rwS r),.row false (prs E),.row false (ints o)],0,[(1,3,[8,10,11,13],[(8,1),(11,2)]),(0,3,[1,8,10,11,12],[(8,1),(11,2)])]⟩
def rvI (r:Rw) (E:List Ed) (n t i:Nat) (o:List Int):St:=⟨[(8,.own 2 1),(10,.int .i64 (n:Int)),(11,.own 1 2),(13,.int .i64 (t:Int)),(14,.int .i64 (i:Int))],[.row false (rwS r),.row false (prs E),.row false (ints o)],0,[(2,3,[8,10,11,13,14],[(8,1),(11,2)]),(1,3,[8,10,11,13],[(8,1),(11,2)]),(0,3,[1,8,10,11,12],[(8,1),(11,2)])]⟩
theorem rv_edge {r:Rw} {E:List Ed} {n t i:Nat} {o:List Int} (hi:i<E.length) (hE:E.length≤1000000) (ho:o.length=n) (hb:bnd 1000000000 o) (h1:0≤(E.getD i default).1∧(E.getD i default).1<n) (h2:0≤(E.getD i default).2∧(E.getD i default).2<n):Ev tab d1336_b2 (rvI r E n t i o) (fun x st=>x=.normal∧st=rvI r E n t (i+1) (rlx o (E.getD i default))):=by
 have e1:=prs_fst hi
 have e2:=prs_snd hi
 generalize E.getD i default=e at *
 obtain ⟨a,b⟩:=e
 simp only at h1 h2 e1 e2
 obtain ⟨a,rfl⟩:∃ m:Nat,a=m:=⟨a.toNat,by omega⟩
 obtain ⟨b,rfl⟩:∃ m:Nat,b=m:=⟨b.toNat,by omega⟩
 rw [rlx_at]
 have ba:=hb a
 have bb:=hb b
 have ea:o.getD a 0=gi o a:=rfl
 have eb:o.getD b 0=gi o b:=rfl
 by_cases q1:0≤gi o a
 ·by_cases q2:gi o b<0
  ·rw [if_pos ⟨q1,.inl q2⟩]
   simp (disch:=omega) only [go_sem,d1336_b2,rvI,rwS,e1,e2,ea,eb]
  ·by_cases q3:gi o a+1<gi o b
   ·rw [if_pos ⟨q1,.inr q3⟩]
    simp (disch:=omega) only [go_sem,d1336_b2,rvI,rwS,e1,e2,ea,eb]
   ·rw [if_neg (by omega)]
    simp (disch:=omega) only [go_sem,d1336_b2,rvI,rwS,e1,e2,ea,eb]
 ·rw [if_neg (by omega)]
  simp (disch:=omega) only [go_sem,d1336_b2,rvI,rwS,e1,e2,ea,eb]
theorem rlevels_ok {r:Rw} {s:Nat} {b:Bool} (hr:okR r) (hc:chk r=true) (h:s<plc r):runP tab 1336 [.agg (rwS r),.int .i64 (s:Int),.bool b] []=some (.tup [.vec 1 (ints (levs (nbr r b) s (plc r))),.int .i64 0],[]):=by
 refine runP_fn t1336 rfl ?_
 have ok:=chk_iff.1 hc
 have lo:=ok.f.lo
 have hi:=ok.f.hi
 have hpl:plc r=r.off.length - 1:=rfl
 have hn:((r.off.length:Int) - 1)=(plc r:Int):=by unfold plc;omega
 have g:=eds_run (b:=b) hr
 rw [if_pos hc] at g
 have hE:=eds_len ok b
 obtain ⟨k1,k2⟩:=eds_ok ok b
 have hs:0≤(s:Int)∧(s:Int)<plc r:=⟨by omega,by omega⟩
 have hrl:=rounds_levs (nbr_plc ok b) hs k1 k2
 have hz:=rpz_zero (plc r) (-1)
 have ha:=rpz_all (plc r) (-1)
 simp only [rwS] at g
 generalize hEE:eds r b=E at *
 simp (disch:=omega) only [go_sem,d1336,rwS,g,hn]
 rw [tile_ints,←hz]
 refine Ev_loop0 (rvO r E s (plc r)) (plc r) (by simp [rvO,rwS]) (fun v hv=>?_) ?_
 ·have hl:=rpz_len (n:=plc r) (m:=v) (x:=-1) (by omega)
  have hset:=rpz_set (n:=plc r) (m:=v) (x:=-1) hv
  simp (disch:=omega) only [go_sem,d1336_b0,rvO,rwS,hl,hset]
 ·have hl:=rpz_len (n:=plc r) (m:=plc r) (x:=-1) (by omega)
  have hl2:(List.replicate (plc r) (-1:Int)).length=plc r:=by simp
  simp (disch:=omega) only [go_sem,d1336_b0,rvO,rwS,ha,hl2]
  rw [Int.toNat_natCast] at hrl
  have hb0:bnd 0 ((List.replicate (plc r) (-1:Int)).set s 0):=fun k=>by
   rw [gi_set']
   split
   ·omega
   ·simp only [gi,List.getD_eq_getElem?_getD,List.getElem?_replicate]
    split<;>simp
  have ho2:((List.replicate (plc r) (-1:Int)).set s 0).length=plc r:=by simp
  generalize (List.replicate (plc r) (-1:Int)).set s 0=o at *
  refine Ev_loop0 (fun t=>rvT r E (plc r) t (rounds E o t)) (plc r) (by simp [rvT,rwS,rounds]) (fun t ht=>?_) ?_
  ·have hbt:=rounds_bnd (l:=E) hb0 t
   have hlt:=rounds_len E o t
   have er:rounds E o (t+1)=E.foldl rlx (rounds E o t):=rfl
   have hm:t*E.length≤400000:=by
    have:=Nat.mul_le_mul (show t≤200 by omega) hE
    omega
   rw [er]
   generalize rounds E o t=q at *
   simp (disch:=omega) only [go_sem,d1336_b1,rvT,rwS]
   refine Ev_loop0 (fun i=>rvI r E (plc r) t i ((E.take i).foldl rlx q)) E.length (by simp [rvI,rwS]) (fun i hi=>?_) ?_
   ·have e:=foldl_snoc rlx default hi q
    have hbi:=rlxs_bnd (l:=E.take i) hbt (by omega)
    have hli:=rlx_len (E.take i) q
    have hme:E.getD i default∈E:=getD_mem hi
    obtain ⟨c1,c2,c3⟩:=k1 _ hme
    have c4:=nbr_plc ok b _ c2 c3 _ c1
    rw [e]
    refine rv_edge hi (by omega) (by rw [hli,hlt,ho2]) (fun k=>?_) ⟨c2,c3⟩ c4
    have:=hbi k
    rw [List.length_take] at this
    omega
   ·rw [List.take_length]
    simp (disch:=omega) only [go_sem,d1336_b2,rvI,rwS]
  ·rw [hrl]
   simp (disch:=omega) only [go_sem,d1336_b1,rvT,rwS]
theorem lev_lt {r:Rw} (ok:r.ok) (b:Bool) {s:Nat} (h:s<plc r) (v:Int):lev (nbr r b) s v≤200:=by
 have hi:=ok.f.hi
 rcases lev_cases (nbr r b) s v with ⟨k,hk,e⟩ | ⟨_,e⟩
 ·have:=dsk_lt (nbr_plc ok b) (s:=(s:Int)) ⟨by omega,by omega⟩ hk
  rw [e]
  unfold plc at this
  omega
 ·omega
theorem uplv_all {r:Rw} (ok:r.ok) (b:Bool) {s:Nat} (h:s<plc r):uplv (nbr r b) s (plc r) 200=levs (nbr r b) s (plc r):=by
 refine gi_ext (by rw [uplv_len,levs_len]) fun i hi=>?_
 rw [uplv_len] at hi
 rw [uplv_at hi,if_pos (lev_lt ok b h _)]
 have:=levs_at (nb:=nbr r b) (s:=(s:Int)) (n:=plc r) (x:=(i:Int)) (by omega) (by omega)
 rw [Int.toNat_natCast] at this
 exact this.symm
theorem pchk_one {r:Rw} {s:Int} (hc:chk r=true) (h:¬ (0≤s∧s<plc r)) (hr:r.ok):pchk r [s]=1:=by
 have:=hr.f.lo
 unfold plc at h
 rw [pchk,if_pos hc,if_neg]
 simp [allPl];omega
theorem pchk_no {r:Rw} {l:List Int} (hc:¬ chk r=true):pchk r l=40:=by rw [pchk,if_neg hc]
theorem upTo_bad {r:Rw} {s rad:Int} {b:Bool} (hr:okR r) (h:pchk r [s]≠0):runP tab 1353 [.agg (rwS r),.int .i64 s,.int .i64 rad,.bool b] []=some (.tup [.vec 1 (ints []),.int .i64 (pchk r [s])],[]):=by
 refine runP_fn t1353 rfl ?_
 have g1:=pcheck_run (r:=r) (l:=[s]) hr (by simp)
 rw [show ints [s]=[.int .i64 s] from rfl] at g1
 simp only [rwS] at g1
 generalize pchk r [s]=e at *
 simp (disch:=omega) only [go_sem,d1353,rwS,g1]
 rfl
theorem upTo_told {r:Rw} {s rad:Int} {b:Bool} (hr:okR r):runP tab 1353 [.agg (rwS r),.int .i64 s,.int .i64 rad,.bool b] []=some (lvT r s (uplv (nbr r b) s (plc r) rad),[]):=by
 unfold lvT
 by_cases hc:chk r=true
 ·have ok:=chk_iff.1 hc
  rw [if_pos hc]
  by_cases h:0≤s∧s<plc r
  ·rw [if_pos h]
   obtain ⟨n,rfl⟩:∃ n:Nat,s=n:=⟨s.toNat,by omega⟩
   exact upTo_run hr hc (by omega)
  ·rw [if_neg h]
   have:=pchk_one hc h ok
   rw [upTo_bad hr (by omega),this];rfl
 ·rw [if_neg hc]
  have:=pchk_no (l:=[s]) hc
  rw [upTo_bad hr (by omega),this];rfl
theorem lvT_congr {r:Rw} {s:Int} {L M:List Int} (h:r.ok→0≤s→s<plc r→L=M):lvT r s L=lvT r s M:=by
 unfold lvT
 by_cases hc:chk r=true
 ·rw [if_pos hc,if_pos hc]
  by_cases h2:0≤s∧s<plc r
  ·rw [if_pos h2,if_pos h2,h (chk_iff.1 hc) h2.1 h2.2]
  ·rw [if_neg h2,if_neg h2]
 ·rw [if_neg hc,if_neg hc]
theorem levels_run {r:Rw} {s:Int} {b:Bool} (hr:okR r):runP tab 1335 [.agg (rwS r),.int .i64 s,.bool b] []=some (lvT r s (levs (nbr r b) s (plc r)),[]):=by
 refine runP_fn t1335 rfl ?_
 have g:=upTo_told (s:=s) (rad:=200) (b:=b) hr
 rw [lvT_congr (M:=levs (nbr r b) s (plc r)) (fun ok h1 h2=>by
  obtain ⟨n,rfl⟩:∃ n:Nat,s=n:=⟨s.toNat,by omega⟩
  exact uplv_all ok b (by omega))] at g
 unfold lvT at *
 simp only [rwS] at g
 by_cases hc:chk r=true
 ·rw [if_pos hc] at g ⊢
  by_cases h:0≤s∧s<plc r
  ·rw [if_pos h] at g ⊢
   simp (disch:=omega) only [go_sem,d1335,rwS,g]
  ·rw [if_neg h] at g ⊢
   simp (disch:=omega) only [go_sem,d1335,rwS,g]
 ·rw [if_neg hc] at g ⊢
  simp (disch:=omega) only [go_sem,d1335,rwS,g]
theorem rlevels_run {r:Rw} {s:Int} {b:Bool} (hr:okR r):runP tab 1336 [.agg (rwS r),.int .i64 s,.bool b] []=some (lvT r s (levs (nbr r b) s (plc r)),[]):=by
 unfold lvT
 have ge:=eds_run (b:=b) hr
 simp only [rwS] at ge
 by_cases hc:chk r=true
 ·have ok:=chk_iff.1 hc
  have lo:=ok.f.lo
  have hi:=ok.f.hi
  have hn:((r.off.length:Int) - 1)=(plc r:Int):=by unfold plc;omega
  rw [if_pos hc] at ge ⊢
  by_cases h:0≤s∧s<plc r
  ·rw [if_pos h]
   obtain ⟨n,rfl⟩:∃ n:Nat,s=n:=⟨s.toNat,by omega⟩
   exact rlevels_ok hr hc (by omega)
  ·rw [if_neg h]
   refine runP_fn t1336 rfl ?_
   by_cases h0:s<0
   ·simp (disch:=omega) only [go_sem,d1336,rwS,ge,hn]
   ·simp (disch:=omega) only [go_sem,d1336,rwS,ge,hn]
 ·rw [if_neg hc] at ge ⊢
  refine runP_fn t1336 rfl ?_
  simp (disch:=omega) only [go_sem,d1336,rwS,ge]
noncomputable def ballL (nb:Int→List Int) (s:Int) (n:Nat) (rad:Int) (k:Nat):List Int:=((List.range k).filter fun i:Nat=>decide (0≤lev nb s i∧lev nb s i≤rad)).map fun i:Nat=>(i:Int)
theorem ballL_succ_yes {nb:Int→List Int} {s:Int} {n:Nat} {rad:Int} {k:Nat} (h:0≤lev nb s k∧lev nb s k≤rad):ballL nb s n rad (k+1)=ballL nb s n rad k++[(k:Int)]:=by
 simp [ballL,List.range_succ,List.filter_append,h]
theorem ballL_succ_no {nb:Int→List Int} {s:Int} {n:Nat} {rad:Int} {k:Nat} (h:¬ (0≤lev nb s k∧lev nb s k≤rad)):ballL nb s n rad (k+1)=ballL nb s n rad k:=by
 simp [ballL,List.range_succ,List.filter_append,h]
theorem ballL_len (nb:Int→List Int) (s:Int) (n:Nat) (rad:Int) (k:Nat):(ballL nb s n rad k).length≤k:=by
 unfold ballL
 rw [List.length_map]
 have:=List.length_filter_le (fun i:Nat=>decide (0≤lev nb s i∧lev nb s i≤rad)) (List.range k)
 simpa using this
noncomputable def blT (r:Rw) (s rad:Int) (L:List Int):AV:=if chk r=true then (if 0≤s∧s<plc r then (if rad<0 then .tup [.vec 1 [],.int .i64 1] else .tup [.vec 1 (ints L),.int .i64 0]) else .tup [.vec 1 [],.int .i64 1]) else .tup [.vec 1 [],.int .i64 40]
theorem ball_run {r:Rw} {s rad:Int} {b:Bool} (hr:okR r):runP tab 1341 [.agg (rwS r),.int .i64 s,.int .i64 rad,.bool b] []=some (blT r s rad (ballL (nbr r b) s (plc r) rad (plc r)),[]):=by
 refine runP_fn t1341 rfl ?_
 have g:=upTo_told (s:=s) (rad:=rad) (b:=b) hr
 unfold lvT at g
 unfold blT
 simp only [rwS] at g
 by_cases hc:chk r=true
 ·have ok:=chk_iff.1 hc
  have hi:=ok.f.hi
  have hpl:plc r=r.off.length - 1:=rfl
  rw [if_pos hc] at g ⊢
  by_cases h:0≤s∧s<plc r
  ·rw [if_pos h] at g ⊢
   by_cases h0:rad<0
   ·rw [if_pos h0]
    generalize uplv (nbr r b) s (plc r) rad=L at *
    simp (disch:=omega) only [go_sem,d1341,rwS,g]
   ·rw [if_neg h0]
    have hl:=uplv_len (nbr r b) s (plc r) rad
    have ha:=fun i=>uplv_at (nb:=nbr r b) (s:=s) (n:=plc r) (rad:=rad) (i:=i)
    simp only [gi] at ha
    generalize uplv (nbr r b) s (plc r) rad=L at *
    simp (disch:=omega) only [go_sem,d1341,rwS,g,hl]
    refine Ev_loop0 (fun i=>⟨[(12,.own 1 2),(28,.own 1 1),(29,.int .i64 (plc r:Int)),(30,.int .i64 (i:Int))],[.row false (rwS r),.row false (ints L),.row false (ints (ballL (nbr r b) s (plc r) rad i))],0,[(0,3,[12,28,29,30],[(12,2),(28,1)])]⟩) (plc r) (by simp [rwS,ballL,ints]) (fun i hi2=>?_) ?_
    ·have a:=ha i hi2
     have hbl:=ballL_len (nbr r b) s (plc r) rad i
     by_cases h1:0≤lev (nbr r b) s i∧lev (nbr r b) s i≤rad
     ·rw [ballL_succ_yes h1]
      rw [if_pos h1.2] at a
      generalize ballL (nbr r b) s (plc r) rad i=X at *
      simp (disch:=omega) only [go_sem,d1341_b0,rwS,a]
     ·rw [ballL_succ_no h1]
      have a2:L.getD i 0 = -1:=by
       have:=lev_ge (nbr r b) s i
       rw [a];split<;>omega
      generalize ballL (nbr r b) s (plc r) rad i=X at *
      simp (disch:=omega) only [go_sem,d1341_b0,rwS,a2]
    ·have hbl:=ballL_len (nbr r b) s (plc r) rad (plc r)
     simp (disch:=omega) only [go_sem,d1341_b0,rwS]
  ·rw [if_neg h] at g ⊢
   simp (disch:=omega) only [go_sem,d1341,rwS,g]
 ·rw [if_neg hc] at g ⊢
  simp (disch:=omega) only [go_sem,d1341,rwS,g]
theorem levs_by {r:Rw} (ok:r.ok) (b:Bool) {s:Nat} (h:s<plc r):levs (nbr r b) s (plc r)=rounds (eds r b) ((List.replicate (plc r) (-1:Int)).set s 0) (plc r):=by
 obtain ⟨k1,k2⟩:=eds_ok ok b
 have:=rounds_levs (nbr_plc ok b) (s:=(s:Int)) ⟨by omega,by omega⟩ k1 k2
 rw [Int.toNat_natCast] at this
 exact this.symm
theorem lvT_yes {r:Rw} {s:Int} {L:List Int} (h:chk r=true) (h2:0≤s∧s<plc r):lvT r s L=.tup [.vec 1 (ints L),.int .i64 0]:=by rw [lvT,if_pos h,if_pos h2]
theorem lvT_far {r:Rw} {s:Int} {L:List Int} (h:chk r=true) (h2:¬ (0≤s∧s<plc r)):lvT r s L=.tup [.vec 1 [],.int .i64 1]:=by rw [lvT,if_pos h,if_neg h2]
theorem lvT_no {r:Rw} {s:Int} {L:List Int} (h:¬ chk r=true):lvT r s L=.tup [.vec 1 [],.int .i64 40]:=by rw [lvT,if_neg h]
theorem plc_small {r:Rw} (h:okR r):plc r≤2100:=by have:=h.a;unfold plc;omega
theorem nbr_rev {r:Rw} (ok:r.ok) {v w:Nat} (hv:v<plc r) (hw:w<plc r):lev (nbr r false) v w=lev (nbr r true) w v:=
 lev_rev (nbr_plc ok false) (nbr_plc ok true) (nbr_mirror ok false) ⟨by omega,by omega⟩ ⟨by omega,by omega⟩
theorem ball_mem {nb:Int→List Int} {s:Int} {n:Nat} {rad x:Int}:x∈ballL nb s n rad n↔(0≤x∧x<n)∧0≤lev nb s x∧lev nb s x≤rad:=by
 unfold ballL
 simp only [List.mem_map,List.mem_filter,List.mem_range,decide_eq_true_eq]
 constructor
 ·rintro ⟨i,⟨h1,h2⟩,rfl⟩;exact ⟨⟨by omega,by omega⟩,h2⟩
 ·rintro ⟨⟨h1,h2⟩,h3⟩
  exact ⟨x.toNat,⟨by omega,by rw [show ((x.toNat:Nat):Int)=x by omega];exact h3⟩,by omega⟩
theorem ball_inc (nb:Int→List Int) (s:Int) (n:Nat) (rad:Int) (k:Nat):(ballL nb s n rad k).Pairwise (·<·):=by
 unfold ballL
 rw [List.pairwise_map]
 have hp:((List.range k).filter fun i:Nat=>decide (0≤lev nb s i∧lev nb s i≤rad)).Pairwise (·<·):=List.Pairwise.filter _ List.pairwise_lt_range
 exact hp.imp fun h=>by omega
end Go.Proofs.YtgiofefdfcaibaaGreat
