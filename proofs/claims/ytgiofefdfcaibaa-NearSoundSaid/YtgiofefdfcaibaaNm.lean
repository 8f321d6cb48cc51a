import Derived.Test.YtgiofefdfcaibaaNk
import Derived.Test.YtgiofefdfcaibaaWe
namespace Go.Proofs.Ytgiofefdfcaibaa
set_option linter.unusedSimpArgs false
set_option linter.unusedVariables false
set_option maxHeartbeats 4000000
set_option maxRecDepth 100000
noncomputable def isH (r:Rw) (P:List Po) (s:Int) (ws:List Txt) (rad:Int) (v:Nat):Bool:=decide ((0≤lev (nbr r false) s v∧lev (nbr r false) s v≤rad)∧(v:Int)∈allP P ws)
noncomputable def cntH (r:Rw) (P:List Po) (s:Int) (ws:List Txt) (rad:Int) (i:Nat):Nat:=((List.range i).filter (isH r P s ws rad)).length
theorem cntH_succ (r:Rw) (P:List Po) (s:Int) (ws:List Txt) (rad:Int) (i:Nat):cntH r P s ws rad (i+1)=cntH r P s ws rad i+(if isH r P s ws rad i=true then 1 else 0):=by
 unfold cntH
 rw [List.range_succ,List.filter_append,List.length_append]
 by_cases h:isH r P s ws rad i=true
 ·rw [List.filter_cons_of_pos h,if_pos h];rfl
 ·rw [List.filter_cons_of_neg h,if_neg h];rfl
theorem cntH_le (r:Rw) (P:List Po) (s:Int) (ws:List Txt) (rad:Int) (i:Nat):cntH r P s ws rad i≤i:=by
 unfold cntH
 have:=List.length_filter_le (isH r P s ws rad) (List.range i)
 rwa [List.length_range] at this
theorem cntH_all (r:Rw) (P:List Po) (s:Int) (ws:List Txt) (rad:Int):cntH r P s ws rad (plc r)=(hitsL r P s ws rad).length:=by
 have h:((List.range (plc r)).filter (isH r P s ws rad)).map (fun v:Nat=>(v:Int))=(plcs r (allP P ws)).filter fun v=>decide (0≤lev (nbr r false) s v∧lev (nbr r false) s v≤rad):=by
  refine inc_ext ?_ (List.Pairwise.filter _ (plcs_inc (allP_asc ws))) fun x=>?_
  ·rw [List.pairwise_map]
   exact (List.Pairwise.filter _ List.pairwise_lt_range).imp fun h=>by omega
  ·simp only [List.mem_map,List.mem_filter,List.mem_range,isH,decide_eq_true_eq,plcs_mem]
   constructor
   ·rintro ⟨v,⟨h1,h2,h3⟩,rfl⟩;exact ⟨⟨h3,by omega,by omega⟩,h2⟩
   ·rintro ⟨⟨h1,h2,h3⟩,h4⟩
    have e:((x.toNat:Nat):Int)=x:=by omega
    exact ⟨x.toNat,⟨by omega,by rw [e];exact ⟨h4,h1⟩⟩,e⟩
 have h2:=congrArg List.length h
 rw [List.length_map] at h2
 unfold cntH
 rw [h2]
 unfold hitsL hitF
 rw [sorted_len,List.length_map]
theorem asc_getD' {a:List Ed} (h:asc ltH a) {i j:Nat} (hij:i<j) (hj:j<a.length):ltH (a.getD i default) (a.getD j default)=true:=by
 have:=List.pairwise_iff_getElem.1 h i j (by omega) hj hij
 rw [List.getD_eq_getElem?_getD,List.getD_eq_getElem?_getD,List.getElem?_eq_getElem hj,List.getElem?_eq_getElem (by omega)]
 exact this
theorem sound_law {r:Rw} {P:List Po} {s:Int} {ws:List Txt} {rad:Int} (h:Ft r P ws):runP tab 1683 [.agg (rwS r),.sl 2 (poS P),.int .i64 s,.sl 1 (strs ws),.int .i64 rad] []=some (.bool true,[]):=by
 refine runP_fn t1683 rfl ?_
 have gf:=far_run h
 have gn:=nears_run
 simp only [rwS] at gf
 cases hb:farB r P ws with
 |true=>
  rw [hb] at gf
  simp (disch:=omega) only [go_sem,d1683,rwS,gf]
 |false=>
  rw [hb] at gf
  have N:=farB_no hb
  have hn:=N.n
  have g1:=nhits_run (s:=s) (rad:=rad) N.ok N.p (ws:=ws) (by omega)
  have g2:=all05_run N.p (ws:=ws) (by omega)
  have l1:=hitsL_small N.p r s ws rad
  have lp:=allP_len N.p ws
  have Lp:=ints_length (allP P ws)
  rw [htT] at g1
  rcases ern_cases r s ws rad with ⟨e,_⟩ | ⟨e,_⟩ | ⟨e,c1,c2,c3,c4⟩
  ·rw [e,if_neg (by decide)] at g1
   generalize (if ws=[] then (1:Int) else 0)=ew at *
   simp only [rwS] at g1
   simp (disch:=omega) only [go_sem,d1683,rwS,gf,g1,g2,gn,prs,List.flatMap_nil]
  ·rw [e,if_neg (by decide)] at g1
   generalize (if ws=[] then (1:Int) else 0)=ew at *
   simp only [rwS] at g1
   simp (disch:=omega) only [go_sem,d1683,rwS,gf,g1,g2,gn,prs,List.flatMap_nil]
  rw [e,if_pos rfl] at g1
  rw [if_neg c2] at g2
  have hm:=many9 N.ok c1
  have hpl:=plc_small N.ok
  have hd:∀ v:Int,0≤v→v<plc r→runP tab 1344 [.agg (rwS r),.int .i64 s,.int .i64 v] []=some (if 0≤lev (nbr r false) s v then .tup [.int .i64 (lev (nbr r false) s v),.bool true,.int .i64 0] else .tup [.int .i64 0,.bool false,.int .i64 0],[]):=fun v h1 h2=>by
   have:=dist_run (s:=s) (t:=v) N.ok
   rwa [dsT,if_pos (by
    rcases pchk2 r s v with ⟨q,_⟩ | ⟨_,q,_⟩ | ⟨_,_,q⟩
    ·exact absurd c1 q
    ·exact absurd ⟨c4,h1,h2⟩ q
    ·exact q)] at this
  have hi20:∀ v:Int,runP tab 1020 [.sl 1 (ints (allP P ws)),.int .i64 v] []=some (.bool (decide (v∈allP P ws)),[]):=fun v=>qin_run (by omega)
  have hc:=cntH_all r P s ws rad
  have hat:∀ i,i<(hitsL r P s ws rad).length→_:=fun i hi=>hitsL_mem.1 (getD_mem (d:=default) hi)
  have hasc:=hitsL_asc r P s ws rad
  have hcs:=cntH_succ r P s ws rad
  have hcl:=cntH_le r P s ws rad
  have hh:∀ v:Nat,isH r P s ws rad v=decide ((0≤lev (nbr r false) s v∧lev (nbr r false) s v≤rad)∧(v:Int)∈allP P ws):=fun v=>rfl
  generalize hitsL r P s ws rad=A at *
  generalize allP P ws=Z at *
  generalize cntH r P s ws rad=cn at *
  have La:=prs_len A
  simp only [rwS] at g1 hd
  simp (disch:=omega) only [go_sem,d1683,rwS,gf,g1,g2,gn]
  refine Ev_loop0 (fun i=>⟨[(2,.int .i64 s),(4,.int .i64 rad),(5,.ref 0 0),(11,.own 2 1),(13,.own 1 2),(14,.int .i64 0),(15,.int .i64 (cn i:Int)),(16,.int .i64 (i:Int))],[.row false (rwS r),.row false (prs A),.row false (ints Z)],0,[(0,3,[2,4,5,11,13,14,15,16],[(5,0),(11,1),(13,2)])]⟩) (plc r) (by have:=hcl 0;simp [rwS];omega) (fun i hi=>?_) ?_
  ·have g:=hd i (by omega) (by omega)
   have gi:=hi20 i
   have q:=hcs i
   have qi:=hh i
   have qc:=hcl i
   by_cases b1:0≤lev (nbr r false) s i
   ·rw [if_pos b1] at g
    by_cases b2:lev (nbr r false) s i≤rad
    ·by_cases b3:(i:Int)∈Z
     ·rw [decide_eq_true ⟨⟨b1,b2⟩,b3⟩] at qi
      rw [if_pos qi] at q
      rw [decide_eq_true b3] at gi
      rw [q]
      generalize cn i=c at *
      simp (disch:=omega) only [go_sem,d1683_b0,rwS,hm,g,gi,b2]
     ·rw [decide_eq_false (fun h=>b3 h.2)] at qi
      rw [if_neg (by rw [qi];decide),Nat.add_zero] at q
      rw [decide_eq_false b3] at gi
      rw [q]
      generalize cn i=c at *
      simp (disch:=omega) only [go_sem,d1683_b0,rwS,hm,g,gi,b2]
    ·rw [decide_eq_false (fun h=>b2 h.1.2)] at qi
     rw [if_neg (by rw [qi];decide),Nat.add_zero] at q
     rw [q]
     generalize cn i=c at *
     simp (disch:=omega) only [go_sem,d1683_b0,rwS,hm,g,b2]
   ·rw [if_neg b1] at g
    rw [decide_eq_false (fun h=>b1 h.1.1)] at qi
    rw [if_neg (by rw [qi];decide),Nat.add_zero] at q
    rw [q]
    generalize cn i=c at *
    simp (disch:=omega) only [go_sem,d1683_b0,rwS,hm,g]
  ·rw [hc]
   simp (disch:=omega) only [go_sem,d1683_b0,rwS,hm]
   refine Ev_loop0 (fun i=>⟨[(2,.int .i64 s),(4,.int .i64 rad),(5,.ref 0 0),(11,.own 2 1),(13,.own 1 2),(14,.int .i64 0),(15,.int .i64 (A.length:Int)),(20,.int .i64 (i:Int))],[.row false (rwS r),.row false (prs A),.row false (ints Z)],0,[(1,3,[2,4,5,11,13,14,15,20],[(5,0),(11,1),(13,2)]),(0,3,[2,4,5,11,13,14,15,16],[(5,0),(11,1),(13,2)])]⟩) A.length (by simp [rwS]) (fun i hi=>?_) ?_
   ·obtain ⟨⟨h1,h2,h3⟩,h4,h5,h6⟩:=hat i hi
    have g:=hd (A.getD i default).1 h2 h3
    have gi:=hi20 (A.getD i default).1
    rw [if_pos (by omega),←h4] at g
    rw [decide_eq_true h1] at gi
    have e1:=prs_fst hi
    have e2:=prs_snd hi
    have e3:=prs_at hi
    rcases Nat.eq_zero_or_pos i with rfl | hp
    ·rw [List.drop_zero] at e1 e3
     rw [Nat.zero_mul,Nat.zero_add] at e2
     generalize A.getD 0 default=x at *
     simp (disch:=omega) only [go_sem,d1683_b1,rwS,La,g,gi,e1,e2,h6]
    ·have e4:=prs_at (l:=A) (i:=i - 1) (by omega)
     have ga:=aheadN_run (a:=A.getD (i - 1) default) (b:=A.getD i default)
     rw [asc_getD' hasc (show i - 1<i by omega) hi] at ga
     have ek:(i:Int) - 1=((i - 1:Nat):Int):=by omega
     simp only [htA] at ga
     generalize A.getD i default=x at *
     generalize A.getD (i - 1) default=y at *
     simp (disch:=omega) only [go_sem,d1683_b1,rwS,La,g,gi,e1,e2,e3,e4,ga,ek,h6]
   ·simp (disch:=omega) only [go_sem,d1683_b1,rwS,La,gn]
end Go.Proofs.Ytgiofefdfcaibaa
