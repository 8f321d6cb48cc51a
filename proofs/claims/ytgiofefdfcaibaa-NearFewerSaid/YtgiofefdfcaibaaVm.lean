import Derived.Test.YtgiofefdfcaibaaVf
import Derived.Test.YtgiofefdfcaibaaIb
import Derived.Test.YtgiofefdfcaibaaSi4
namespace Go.Proofs.Ytgiofefdfcaibaa
set_option linter.unusedSimpArgs false
set_option linter.unusedVariables false
set_option maxHeartbeats 4000000
set_option maxRecDepth 100000
theorem prs_fst {l:List Ed} {i:Nat} (h:i<l.length):rdc (prs (l.drop i)) none=some (.int .i64 (l.getD i default).1):=by
 rw [List.drop_eq_getElem_cons h,prs_cons,List.getD_eq_getElem?_getD,List.getElem?_eq_getElem h];rfl
theorem prs_snd {l:List Ed} {i:Nat} (h:i<l.length):rdc ((prs l).drop (i*2+1)) none=some (.int .i64 (l.getD i default).2):=by
 rw [←List.drop_drop,prs_drop,List.drop_eq_getElem_cons h,prs_cons,List.getD_eq_getElem?_getD,List.getElem?_eq_getElem h];rfl
def eds (r:Rw) (b:Bool):List Ed:=if b then (edU r (plc r)).map fun e=>(e.2,e.1) else edU r (plc r)
noncomputable def lvT (r:Rw) (s:Int) (L:List Int):AV:=if chk r=true then (if 0≤s∧s<plc r then .tup [.vec 1 (ints L),.int .i64 0] else .tup [.vec 1 [],.int .i64 1]) else .tup [.vec 1 [],.int .i64 40]
theorem eds_ok {r:Rw} (ok:r.ok) (b:Bool):(∀ e∈eds r b,e.2∈nbr r b e.1∧0≤e.1∧e.1<plc r)∧∀ u:Int,0≤u→u<plc r→∀ v∈nbr r b u,(u,v)∈eds r b:=by
 have mem:∀ u v:Int,(u,v)∈edU r (plc r)↔(0≤u∧u<plc r)∧v∈nbr r false u:=by
  intro u v
  simp only [edU,edV,List.mem_flatMap,List.mem_range,List.mem_map,Prod.mk.injEq]
  constructor
  ·rintro ⟨w,hw,x,hx,rfl,rfl⟩
   exact ⟨⟨by omega,by omega⟩,by simpa [nbr] using hx⟩
  ·rintro ⟨⟨h1,h2⟩,h3⟩
   exact ⟨u.toNat,by omega,v,by simpa [nbr] using h3,by omega,rfl⟩
 cases b with
 |false=>
  refine ⟨fun e he=>?_,fun u h1 h2 v hv=>(mem u v).2 ⟨⟨h1,h2⟩,hv⟩⟩
  obtain ⟨⟨h1,h2⟩,h3⟩:=(mem e.1 e.2).1 he
  exact ⟨h3,h1,h2⟩
 |true=>
  have M:=nbr_mirror ok true
  have H:=nbr_plc ok true
  have H0:=nbr_plc ok false
  refine ⟨fun e he=>?_,fun u h1 h2 v hv=>?_⟩
  ·obtain ⟨⟨a,c⟩,ha,rfl⟩:=List.mem_map.1 he
   obtain ⟨⟨h1,h2⟩,h3⟩:=(mem a c).1 ha
   have hc:=H0 a h1 h2 c h3
   exact ⟨(M c a hc.1 hc.2 h1 h2).2 h3,hc.1,hc.2⟩
  ·have hv2:=H u h1 h2 v hv
   exact List.mem_map.2 ⟨(v,u),(mem v u).2 ⟨hv2,(M u v h1 h2 hv2.1 hv2.2).1 hv⟩,rfl⟩
theorem gi_out {l:List Int} {i:Nat} (h:l.length≤i):gi l i=0:=by simp [gi,List.getD_eq_getElem?_getD,List.getElem?_eq_none h]
theorem gi_set' {l:List Int} {i j:Nat} {x:Int}:gi (l.set i x) j=if j=i∧i<l.length then x else gi l j:=by
 by_cases h:i<l.length
 ·rw [gi_set h];simp [h]
 ·rw [List.set_eq_of_length_le (by omega),if_neg (fun h2=>h h2.2)]
theorem lev_lt {r:Rw} (ok:r.ok) (b:Bool) {s:Nat} (h:s<plc r) (v:Int):lev (nbr r b) s v≤200:=by
 have hi:=ok.f.hi
 rcases lev_cases (nbr r b) s v with ⟨k,hk,e⟩ | ⟨_,e⟩
 ·have:=dsk_lt (nbr_plc ok b) (s:=(s:Int)) ⟨by omega,by omega⟩ hk
  rw [e]
  unfold plc at this
  omega
 ·omega
theorem uplv_all {r:Rw} (ok:r.ok) (b:Bool) {s:Nat} (h:s<plc r):uplv (nbr r b) s (plc r) 200=levs (nbr r b) s (plc r):=by
 refine gi_ext (by rw [uplv_len,levs_len]) fun i hi=>?_
 rw [uplv_len] at hi
 rw [uplv_at hi,if_pos (lev_lt ok b h _)]
 have:=levs_at (nb:=nbr r b) (s:=(s:Int)) (n:=plc r) (x:=(i:Int)) (by omega) (by omega)
 rw [Int.toNat_natCast] at this
 exact this.symm
theorem pchk_one {r:Rw} {s:Int} (hc:chk r=true) (h:¬ (0≤s∧s<plc r)) (hr:r.ok):pchk r [s]=1:=by
 have:=hr.f.lo
 unfold plc at h
 rw [pchk,if_pos hc,if_neg]
 simp [allPl];omega
theorem pchk_no {r:Rw} {l:List Int} (hc:¬ chk r=true):pchk r l=40:=by rw [pchk,if_neg hc]
theorem upTo_bad {r:Rw} {s rad:Int} {b:Bool} (hr:okR r) (h:pchk r [s]≠0):runP tab 1353 [.agg (rwS r),.int .i64 s,.int .i64 rad,.bool b] []=some (.tup [.vec 1 (ints []),.int .i64 (pchk r [s])],[]):=by
 refine runP_fn t1353 rfl ?_
 have g1:=pcheck_run (r:=r) (l:=[s]) hr (by simp)
 rw [show ints [s]=[.int .i64 s] from rfl] at g1
 simp only [rwS] at g1
 generalize pchk r [s]=e at *
 simp (disch:=omega) only [go_sem,d1353,rwS,g1]
 rfl
theorem upTo_told {r:Rw} {s rad:Int} {b:Bool} (hr:okR r):runP tab 1353 [.agg (rwS r),.int .i64 s,.int .i64 rad,.bool b] []=some (lvT r s (uplv (nbr r b) s (plc r) rad),[]):=by
 unfold lvT
 by_cases hc:chk r=true
 ·have ok:=chk_iff.1 hc
  rw [if_pos hc]
  by_cases h:0≤s∧s<plc r
  ·rw [if_pos h]
   obtain ⟨n,rfl⟩:∃ n:Nat,s=n:=⟨s.toNat,by omega⟩
   exact upTo_run hr hc (by omega)
  ·rw [if_neg h]
   have:=pchk_one hc h ok
   rw [upTo_bad hr (by omega),this];rfl
 ·rw [if_neg hc]
  have:=pchk_no (l:=[s]) hc
  rw [upTo_bad hr (by omega),this];rfl
theorem lvT_congr {r:Rw} {s:Int} {L M:List Int} (h:r.ok→0≤s→s<plc r→L=M):lvT r s L=lvT r s M:=by
 unfold lvT
 by_cases hc:chk r=true
 ·rw [if_pos hc,if_pos hc]
  by_cases h2:0≤s∧s<plc r
  ·rw [if_pos h2,if_pos h2,h (chk_iff.1 hc) h2.1 h2.2]
  ·rw [if_neg h2,if_neg h2]
 ·rw [if_neg hc,if_neg hc]
theorem levels_run {r:Rw} {s:Int} {b:Bool} (hr:okR r):runP tab 1335 [.agg (rwS r),.int .i64 s,.bool b] []=some (lvT r s (levs (nbr r b) s (plc r)),[]):=by
 refine runP_fn t1335 rfl ?_
 have g:=upTo_told (s:=s) (rad:=200) (b:=b) hr
 rw [lvT_congr (M:=levs (nbr r b) s (plc r)) (fun ok h1 h2=>by
  obtain ⟨n,rfl⟩:∃ n:Nat,s=n:=⟨s.toNat,by omega⟩
  exact uplv_all ok b (by omega))] at g
 unfold lvT at *
 simp only [rwS] at g
 by_cases hc:chk r=true
 ·rw [if_pos hc] at g ⊢
  by_cases h:0≤s∧s<plc r
  ·rw [if_pos h] at g ⊢
   simp (disch:=omega) only [go_sem,d1335,rwS,g]
  ·rw [if_neg h] at g ⊢
   simp (disch:=omega) only [go_sem,d1335,rwS,g]
 ·rw [if_neg hc] at g ⊢
  simp (disch:=omega) only [go_sem,d1335,rwS,g]
noncomputable def ballL (nb:Int→List Int) (s:Int) (n:Nat) (rad:Int) (k:Nat):List Int:=((List.range k).filter fun i:Nat=>decide (0≤lev nb s i∧lev nb s i≤rad)).map fun i:Nat=>(i:Int)
theorem ballL_succ_yes {nb:Int→List Int} {s:Int} {n:Nat} {rad:Int} {k:Nat} (h:0≤lev nb s k∧lev nb s k≤rad):ballL nb s n rad (k+1)=ballL nb s n rad k++[(k:Int)]:=by
 simp [ballL,List.range_succ,List.filter_append,h]
theorem ballL_succ_no {nb:Int→List Int} {s:Int} {n:Nat} {rad:Int} {k:Nat} (h:¬ (0≤lev nb s k∧lev nb s k≤rad)):ballL nb s n rad (k+1)=ballL nb s n rad k:=by
 simp [ballL,List.range_succ,List.filter_append,h]
theorem ballL_len (nb:Int→List Int) (s:Int) (n:Nat) (rad:Int) (k:Nat):(ballL nb s n rad k).length≤k:=by
 unfold ballL
 rw [List.length_map]
 have:=List.length_filter_le (fun i:Nat=>decide (0≤lev nb s i∧lev nb s i≤rad)) (List.range k)
 simpa using this
noncomputable def blT (r:Rw) (s rad:Int) (L:List Int):AV:=if chk r=true then (if 0≤s∧s<plc r then (if rad<0 then .tup [.vec 1 [],.int .i64 1] else .tup [.vec 1 (ints L),.int .i64 0]) else .tup [.vec 1 [],.int .i64 1]) else .tup [.vec 1 [],.int .i64 40]
theorem ball_run {r:Rw} {s rad:Int} {b:Bool} (hr:okR r):runP tab 1341 [.agg (rwS r),.int .i64 s,.int .i64 rad,.bool b] []=some (blT r s rad (ballL (nbr r b) s (plc r) rad (plc r)),[]):=by
 refine runP_fn t1341 rfl ?_
 have g:=upTo_told (s:=s) (rad:=rad) (b:=b) hr
 unfold lvT at g
 unfold blT
 simp only [rwS] at g
 by_cases hc:chk r=true
 ·have ok:=chk_iff.1 hc
  have hi:=ok.f.hi
  have hpl:plc r=r.off.length - 1:=rfl
  rw [if_pos hc] at g ⊢
  by_cases h:0≤s∧s<plc r
  ·rw [if_pos h] at g ⊢
   by_cases h0:rad<0
   ·rw [if_pos h0]
    generalize uplv (nbr r b) s (plc r) rad=L at *
    simp (disch:=omega) only [go_sem,d1341,rwS,g]
   ·rw [if_neg h0]
    have hl:=uplv_len (nbr r b) s (plc r) rad
    have ha:=fun i=>uplv_at (nb:=nbr r b) (s:=s) (n:=plc r) (rad:=rad) (i:=i)
    simp only [gi] at ha
    generalize uplv (nbr r b) s (plc r) rad=L at *
    simp (disch:=omega) only [go_sem,d1341,rwS,g,hl]
    refine Ev_loop0 (fun i=>⟨[(12,.own 1 2),(28,.own 1 1),(29,.int .i64 (plc r:Int)),(30,.int .i64 (i:Int))],[.row false (rwS r),.row false (ints L),.row false (ints (ballL (nbr r b) s (plc r) rad i))],0,[(0,3,[12,28,29,30],[(12,2),(28,1)])]⟩) (plc r) (by simp [rwS,ballL,ints]) (fun i hi2=>?_) ?_
    ·have a:=ha i hi2
     have hbl:=ballL_len (nbr r b) s (plc r) rad i
     by_cases h1:0≤lev (nbr r b) s i∧lev (nbr r b) s i≤rad
     ·rw [ballL_succ_yes h1]
      rw [if_pos h1.2] at a
      generalize ballL (nbr r b) s (plc r) rad i=X at *
      simp (disch:=omega) only [go_sem,d1341_b0,rwS,a]
     ·rw [ballL_succ_no h1]
      have a2:L.getD i 0 = -1:=by
       have:=lev_ge (nbr r b) s i
       rw [a];split<;>omega
      generalize ballL (nbr r b) s (plc r) rad i=X at *
      simp (disch:=omega) only [go_sem,d1341_b0,rwS,a2]
    ·have hbl:=ballL_len (nbr r b) s (plc r) rad (plc r)
     simp (disch:=omega) only [go_sem,d1341_b0,rwS]
  ·rw [if_neg h] at g ⊢
   simp (disch:=omega) only [go_sem,d1341,rwS,g]
 ·rw [if_neg hc] at g ⊢
  simp (disch:=omega) only [go_sem,d1341,rwS,g]
theorem levs_by {r:Rw} (ok:r.ok) (b:Bool) {s:Nat} (h:s<plc r):levs (nbr r b) s (plc r)=rounds (eds r b) ((List.replicate (plc r) (-1:Int)).set s 0) (plc r):=by
 obtain ⟨k1,k2⟩:=eds_ok ok b
 have:=rounds_levs (nbr_plc ok b) (s:=(s:Int)) ⟨by omega,by omega⟩ k1 k2
 rw [Int.toNat_natCast] at this
 exact this.symm
theorem lvT_yes {r:Rw} {s:Int} {L:List Int} (h:chk r=true) (h2:0≤s∧s<plc r):lvT r s L=.tup [.vec 1 (ints L),.int .i64 0]:=by rw [lvT,if_pos h,if_pos h2]
theorem lvT_far {r:Rw} {s:Int} {L:List Int} (h:chk r=true) (h2:¬ (0≤s∧s<plc r)):lvT r s L=.tup [.vec 1 [],.int .i64 1]:=by rw [lvT,if_pos h,if_neg h2]
theorem plc_small {r:Rw} (h:okR r):plc r≤2100:=by have:=h.a;unfold plc;omega
theorem ball_mem {nb:Int→List Int} {s:Int} {n:Nat} {rad x:Int}:x∈ballL nb s n rad n↔(0≤x∧x<n)∧0≤lev nb s x∧lev nb s x≤rad:=by
 unfold ballL
 simp only [List.mem_map,List.mem_filter,List.mem_range,decide_eq_true_eq]
 constructor
 ·rintro ⟨i,⟨h1,h2⟩,rfl⟩;exact ⟨⟨by omega,by omega⟩,h2⟩
 ·rintro ⟨⟨h1,h2⟩,h3⟩
  exact ⟨x.toNat,⟨by omega,by rw [show ((x.toNat:Nat):Int)=x by omega];exact h3⟩,by omega⟩
theorem ball_inc (nb:Int→List Int) (s:Int) (n:Nat) (rad:Int) (k:Nat):(ballL nb s n rad k).Pairwise (·<·):=by
 unfold ballL
 rw [List.pairwise_map]
 have hp:((List.range k).filter fun i:Nat=>decide (0≤lev nb s i∧lev nb s i≤rad)).Pairwise (·<·):=List.Pairwise.filter _ List.pairwise_lt_range
 exact hp.imp fun h=>by omega
end Go.Proofs.Ytgiofefdfcaibaa
