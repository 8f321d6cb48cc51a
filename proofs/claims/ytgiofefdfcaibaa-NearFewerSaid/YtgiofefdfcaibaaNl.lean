import Derived.Test.YtgiofefdfcaibaaNk
namespace Go.Proofs.Ytgiofefdfcaibaa
set_option linter.unusedSimpArgs false
set_option linter.unusedVariables false
set_option maxHeartbeats 4000000
set_option maxRecDepth 100000
def apos (a b:List Ed) (i:Nat):Nat:=if i=0 then 0 else a.idxOf (b.getD (i - 1) default)
theorem asc_getD {a:List Ed} (h:asc ltH a) {i j:Nat} (hij:i<j) (hj:j<a.length):ltH (a.getD i default) (a.getD j default)=true:=by
 have:=List.pairwise_iff_getElem.1 h i j (by omega) hj hij
 rw [List.getD_eq_getElem?_getD,List.getD_eq_getElem?_getD,List.getElem?_eq_getElem hj,List.getElem?_eq_getElem (by omega)]
 exact this
theorem idx_at {a:List Ed} {x:Ed} (h:x∈a):a.idxOf x<a.length∧a.getD (a.idxOf x) default=x∧∀ k,k<a.idxOf x→a.getD k default≠x:=by
 have h1:=List.idxOf_lt_length_of_mem h
 refine ⟨h1,?_,fun k hk e=>?_⟩
 ·rw [List.getD_eq_getElem?_getD,List.getElem?_eq_getElem h1]
  simp
 ·have h2:=List.not_of_lt_findIdx (p:=(· == x)) (xs:=a) (i:=k) hk
  rw [List.getD_eq_getElem?_getD,List.getElem?_eq_getElem (by omega)] at e
  simp only [Option.getD_some] at e
  simp [e] at h2
theorem apos_le {a b:List Ed} (ha:asc ltH a) (hb:asc ltH b) (hs:∀ x∈b,x∈a) {i:Nat} (hi:i<b.length):apos a b i≤a.idxOf (b.getD i default):=by
 unfold apos
 split
 ·exact Nat.zero_le _
 ·rename_i h0
  obtain ⟨p1,p2,_⟩:=idx_at (hs _ (getD_mem (d:=default) hi))
  obtain ⟨q1,q2,_⟩:=idx_at (hs _ (getD_mem (d:=default) (show i - 1<b.length by omega)))
  have h1:=asc_getD hb (show i - 1<i by omega) hi
  rcases Nat.lt_or_ge (a.idxOf (b.getD i default)) (a.idxOf (b.getD (i - 1) default)) with h | h
  ·have h2:=asc_getD ha h q1
   rw [p2,q2,ordrH.asym h1] at h2
   cases h2
  ·exact h
theorem first_same {r:Rw} {P:List Po} {s:Int} {ws:List Txt} {rad:Int} (e:ern r s ws rad=0) (h:hitsL r P s ws rad≠[]):hitsL r P s ws 200≠[]∧(hitsL r P s ws 200).getD 0 default=(hitsL r P s ws rad).getD 0 default:=by
 by_cases h1:rad≤200
 ·rw [hitsL_wider h1]
  generalize hitsL r P s ws rad=A at *
  cases A with
  |nil=>exact absurd rfl h
  |cons x A=>exact ⟨by simp,rfl⟩
 ·have h2:=hitsL_wider (r:=r) (P:=P) (s:=s) (ws:=ws) (show (200:Int)≤rad by omega)
  have h3:(hitsL r P s ws rad).filter (fun x=>decide (200<x.2))=[]:=by
   rw [List.filter_eq_nil_iff]
   intro x hx
   rw [hitsL_mem] at hx
   rcases ern_cases r s ws rad with ⟨q,_⟩ | ⟨q,_⟩ | ⟨_,c1,c2,c3,c4⟩
   ·omega
   ·omega
   ·obtain ⟨s,rfl⟩:∃ n:Nat,s=n:=⟨s.toNat,by omega⟩
    have:=lev_lt (chk_iff.1 c1) false (s:=s) (by omega) x.1
    simp only [decide_eq_true_eq]
    omega
  rw [h3,List.append_nil] at h2
  rw [h2] at h ⊢
  exact ⟨h,rfl⟩
theorem ern_snoc {r:Rw} {s:Int} {ws:List Txt} {w:Txt} {rad:Int} (e:ern r s ws rad=0):ern r s (ws++[w]) rad=0:=by
 rcases ern_cases r s ws rad with ⟨q,_⟩ | ⟨q,_⟩ | ⟨_,h1,h2,h3,h4⟩
 ·omega
 ·omega
 ·rw [ern,if_pos h1,if_neg]
  simp only [not_or]
  exact ⟨by simp,by omega,by simpa using h4⟩
theorem prs_nilN:prs []=[]:=rfl
theorem fewer_law {r:Rw} {P:List Po} {s:Int} {ws:List Txt} {w:Txt} {rad:Int} (h:Ft r P ws) (hw:w.length≤9223372036854775807):runP tab 1685 [.agg (rwS r),.sl 2 (poS P),.int .i64 s,.sl 1 (strs ws),.str w,.int .i64 rad] []=some (.bool true,[]):=by
 refine runP_fn t1685 rfl ?_
 have gf:=far_run h
 have gn:=nears_run
 simp only [rwS] at gf
 cases hb:farB r P ws with
 |true=>
  rw [hb] at gf
  simp (disch:=omega) only [go_sem,d1685,rwS,gf]
 |false=>
  rw [hb] at gf
  have N:=farB_no hb
  by_cases hw2:60<w.length
  ·simp (disch:=omega) only [go_sem,d1685,rwS,gf]
  have hn:=N.n
  have go:=otx9_run (l:=ws) (by omega)
  have g1:=nhits_run (s:=s) (rad:=rad) N.ok N.p (ws:=ws) (by omega)
  have g2:=nhits_run (s:=s) (rad:=rad) N.ok N.p (ws:=ws++[w]) (by simp;omega)
  have g3:=nfirst_run (s:=s) N.ok N.p (ws:=ws) (by omega)
  have l1:=hitsL_small N.p r s ws rad
  have l2:=hitsL_small N.p r s (ws++[w]) rad
  have ew:strs ws++[AV.str w]=strs (ws++[w]):=by simp [strs]
  have Ls:=strs_length ws
  rw [htT] at g1 g2
  by_cases e:ern r s ws rad=0
  case neg=>
   rw [if_neg e] at g1
   generalize (if ern r s (ws++[w]) rad=0 then hitsL r P s (ws++[w]) rad else [])=B at *
   simp only [rwS] at g1 g2
   simp (disch:=omega) only [go_sem,d1685,rwS,gf,go,Ls,ew,g1,g2,gn,e]
  have hws:ws≠[]:=by
   rcases ern_cases r s ws rad with ⟨q,_⟩ | ⟨q,_⟩ | ⟨_,h1,h2,h3,h4⟩
   ·omega
   ·omega
   ·exact h2
  have e2:=ern_snoc (w:=w) e
  have e3:ern r s ws 200=0:=by
   rcases ern_cases r s ws rad with ⟨q,_⟩ | ⟨q,_⟩ | ⟨_,h1,h2,h3,h4⟩
   ·omega
   ·omega
   ·rw [ern,if_pos h1,if_neg]
    simp only [not_or]
    exact ⟨h2,by omega,by simpa using h4⟩
  rw [e,if_pos rfl] at g1
  rw [e2,if_pos rfl] at g2
  rw [fsT,e3,if_pos rfl] at g3
  have hf:=fun q=>first_same (r:=r) (P:=P) (s:=s) (ws:=ws) (rad:=rad) e q
  have aA:=hitsL_asc r P s ws rad
  have aB:=hitsL_asc r P s (ws++[w]) rad
  have hsub:∀ x∈hitsL r P s (ws++[w]) rad,x∈hitsL r P s ws rad:=fun x hx=>(hitsL_fewer (r:=r) (P:=P) (s:=s) (rad:=rad) (w:=w) hws).subset hx
  generalize hitsL r P s ws rad=A at *
  generalize hitsL r P s (ws++[w]) rad=B at *
  generalize hitsL r P s ws 200=D at *
  have La:=prs_len A
  have Lb:=prs_len B
  simp only [rwS] at g1 g2 g3
  simp (disch:=omega) only [go_sem,d1685,rwS,gf,go,Ls,ew,g1,g2,gn]
  refine Ev_loop0 (fun i=>⟨[(1,.sl 2 (poS P)),(2,.int .i64 s),(3,.sl 1 (strs ws)),(6,.ref 0 0),(14,.own 2 3),(16,.own 2 4),(18,.int .i64 (apos A B i:Int)),(19,.int .i64 (i:Int))],[.row false (rwS r),.dead,.row false (strs (ws++[w])),.row false (prs A),.row false (prs B)],0,[(0,5,[1,2,3,6,14,16,18,19],[(6,0),(14,3),(16,4)])]⟩) B.length (by simp [rwS,apos]) (fun i hi=>?_) ?_
  ·have hx:=hsub _ (getD_mem (d:=default) hi)
   obtain ⟨p1,p2,p3⟩:=idx_at hx
   have hle:=apos_le aA aB hsub hi
   have hnx:apos A B (i+1)=A.idxOf (B.getD i default):=by unfold apos;rw [if_neg (by omega)];rfl
   have eB:=prs_at (l:=B) hi
   rw [hnx]
   generalize A.idxOf (B.getD i default)=z at *
   generalize apos A B i=y at *
   generalize B.getD i default=x at *
   simp (disch:=omega) only [go_sem,d1685_b0,rwS,Lb]
   refine Ev_loop0 (fun j=>⟨[(1,.sl 2 (poS P)),(2,.int .i64 s),(3,.sl 1 (strs ws)),(6,.ref 0 0),(14,.own 2 3),(16,.own 2 4),(18,.int .i64 ((y+j:Nat):Int)),(19,.int .i64 (i:Int))],[.row false (rwS r),.dead,.row false (strs (ws++[w])),.row false (prs A),.row false (prs B)],0,[(1,5,[1,2,3,6,14,16,18,19],[(6,0),(14,3),(16,4)]),(0,5,[1,2,3,6,14,16,18,19],[(6,0),(14,3),(16,4)])]⟩) (z - y) (by simp [rwS]) (fun j hj=>?_) ?_
   ·have e1:=prs_at (l:=A) (i:=y+j) (by omega)
    have c:=ed_eq (A.getD (y+j) default) x
    rw [decide_eq_false (p3 (y+j) (by omega))] at c
    rw [show y+(j+1)=y+j+1 by omega]
    have hk:y+j<A.length:=by omega
    generalize y+j=k at *
    simp (disch:=omega) only [go_sem,d1685_b1,rwS,La,e1,eB,c,encA,digA]
   ·have e1:=prs_at (l:=A) (i:=z) p1
    have c:=ed_eq (A.getD z default) x
    rw [decide_eq_true p2] at c
    rw [show y+(z - y)=z by omega]
    simp (disch:=omega) only [go_sem,d1685_b1,rwS,La,e1,eB,c,encA,digA]
  ·by_cases hA:A=[]
   ·subst hA
    generalize D.getD 0 default=x at *
    generalize decide (True∧D≠[])=q at *
    simp (disch:=omega) only [go_sem,d1685_b0,rwS,Lb,g3,gn,La,prs_nilN]
   ·obtain ⟨q1,q2⟩:=hf hA
    rw [decide_eq_true (show True∧D≠[] from ⟨trivial,q1⟩),q2] at g3
    have hpos:0<A.length:=List.length_pos_iff.2 hA
    have e1:=prs_at (l:=A) (i:=0) hpos
    rw [List.drop_zero] at e1
    have c:=ed_eq (A.getD 0 default) (A.getD 0 default)
    rw [decide_eq_true rfl] at c
    simp (disch:=omega) only [go_sem,d1685_b0,rwS,Lb,g3,gn,La,e1,c,encA,digA]
end Go.Proofs.Ytgiofefdfcaibaa
