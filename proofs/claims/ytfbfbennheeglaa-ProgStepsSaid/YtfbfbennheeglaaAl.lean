import Derived.Test.YtfbfbennheeglaaSh4
import Derived.Test.YtfbfbennheeglaaHq
import Derived.Test.YtfbfbennheeglaaAe
import Derived.Test.YtfbfbennheeglaaNd
namespace Go.Proofs.Ytfbfbennheeglaa
set_option linter.unusedSimpArgs false
set_option linter.unusedVariables false
open Go.Sort (SWO)
set_option maxHeartbeats 4000000
set_option maxRecDepth 100000
section
variable {α:Type} [Inhabited α] (lt:α→α→Bool)
def upO (o:List α) (x:α):Nat:=(o.takeWhile fun y=>!lt x y).length
def insO (o:List α) (x:α):List α:=o.take (upO lt o x)++x::o.drop (upO lt o x)
variable {lt}
theorem upO_le {β:Type} {lt:β→β→Bool} (o:List β) (x:β):upO lt o x≤o.length:=(List.takeWhile_prefix _).length_le
theorem upO_before:∀ {o:List α} {x:α} {i:Nat},i<upO lt o x→lt x (o.getD i default)=false
 | [],x,i,h=>by simp [upO] at h
 |y::o,x,i,h=>by
  unfold upO at h
  rw [List.takeWhile_cons] at h
  cases hy:lt x y with
  |false=>
   rw [hy] at h
   cases i with
   |zero=>exact hy
   |succ i=>exact upO_before (o:=o) (x:=x) (i:=i) (by simpa [upO] using h)
  |true=>rw [hy] at h;simp at h
theorem upO_at:∀ {o:List α} {x:α},upO lt o x<o.length→lt x (o.getD (upO lt o x) default)=true
 | [],x,h=>by simp [upO] at h
 |y::o,x,h=>by
  unfold upO at h ⊢
  rw [List.takeWhile_cons] at h ⊢
  cases hy:lt x y with
  |false=>
   rw [hy] at h
   have:=upO_at (o:=o) (x:=x) (by simpa [upO] using h)
   simpa [upO] using this
  |true=>simpa using hy
theorem insO_perm {β:Type} {lt:β→β→Bool} (o:List β) (x:β):(insO lt o x).Perm (x::o):=by
 unfold insO
 refine (List.perm_middle).trans ?_
 rw [List.take_append_drop]
theorem insO_srtd (O:Ordr lt) {o:List α} (h:srtd lt o) (x:α):srtd lt (insO lt o x):=by
 unfold insO srtd
 rw [List.pairwise_append,List.pairwise_cons]
 have hbef:∀ a∈o.take (upO lt o x),lt x a=false:=by
  intro a ha
  obtain ⟨i,hi,rfl⟩:=List.getElem_of_mem ha
  rw [List.length_take] at hi
  have:=upO_before (lt:=lt) (o:=o) (x:=x) (i:=i) (by omega)
  rw [List.getD_eq_getElem?_getD,List.getElem?_eq_getElem (by omega)] at this
  simpa using this
 have haft:∀ a∈o.drop (upO lt o x),lt a x=false:=by
  intro a ha
  by_cases hu:upO lt o x<o.length
  ·have h1:=upO_at hu
   have h2:o.drop (upO lt o x)=o.getD (upO lt o x) default::o.drop (upO lt o x+1):=by
    rw [List.drop_eq_getElem_cons hu,List.getD_eq_getElem?_getD,List.getElem?_eq_getElem hu];rfl
   have h3:srtd lt (o.drop (upO lt o x)):=List.Pairwise.sublist (List.drop_sublist _ _) h
   rw [h2] at ha h3
   rcases List.mem_cons.1 ha with rfl | ha
   ·exact O.asym h1
   ·have h4:=(List.pairwise_cons.1 h3).1 a ha
    exact O.swo.ntrans _ _ _ h4 (O.asym h1)
  ·rw [List.drop_eq_nil_of_le (by omega)] at ha;cases ha
 refine ⟨List.Pairwise.sublist (List.take_sublist _ _) h,⟨haft,List.Pairwise.sublist (List.drop_sublist _ _) h⟩,fun a ha b hb=>?_⟩
 rcases List.mem_cons.1 hb with rfl | hb
 ·exact hbef a ha
 ·exact O.swo.ntrans _ _ _ (haft b hb) (hbef a ha)
theorem insO_sorted (O:Ordr lt) (l:List α) (x:α):insO lt (sorted lt l) x=sorted lt (x::l):=
 srtd_uni O (insO_srtd O (sorted_srtd O l) x) (sorted_srtd O _) (((insO_perm _ x).trans (List.Perm.cons x (sorted_perm l))).trans (sorted_perm _).symm)
theorem sorted_cong {β:Type} {lt:β→β→Bool} (O:Ordr lt) {a b:List β} (h:a.Perm b):sorted lt a=sorted lt b:=
 srtd_uni O (sorted_srtd O a) (sorted_srtd O b) (((sorted_perm a).trans h).trans (sorted_perm b).symm)
end
theorem prs_take_h (l:List Ed) (i:Nat):(prs l).take (i*2)=prs (l.take i):=by
 induction i generalizing l with
 |zero=>simp [prs]
 |succ i ih=>cases l with
  |nil=>simp [prs]
  |cons r l=>rw [prs_cons,show (i+1)*2=i*2+1+1 by omega,List.take_succ_cons,List.take_succ_cons,ih l,List.take_succ_cons,prs_cons]
def htA (x:Ed):AV:=.agg [.int .i64 x.1,.int .i64 x.2]
theorem sortH_run {l:List Ed} (hl:l.length≤60000):runP tab 1497 [.own 2 0,.clo 1495 [] []] [.row false (prs l)]=some (.tup [],[.row false (prs (sorted ltH l))]):=by simpa using hsf_run hl
theorem clone_h {l:List Ed} (h:l.length≤1000000):runP tab 1496 [.sl 2 (prs l)] []=some (.vec 2 (prs l),[]):=by
 rw [runP_orc t1496]
 have h2:noinlL (prs l)=true:=prs_noinl' l
 have h3:noidL (prs l)=true:=prs_noid' l
 simp only [cloneG,true_or,h2,h3,true_and,prs_len,mul2_div,prs_okc]
 rw [if_pos (by constructor<;>first | trivial | omega)]
theorem prs_snocB (l:List Ed) (x:Ed):prs l++[.int .i64 x.1,.int .i64 x.2]=prs (l++[x]):=by simp [prs]
theorem takeS {l:List Ed} {i:Nat} (h:i<l.length):l.take (i+1)=l.take i++[l.getD i default]:=by
 rw [List.take_succ_eq_append_getElem h,List.getD_eq_getElem?_getD,List.getElem?_eq_getElem h];rfl
theorem hsorted_run {l:List Ed} (hl:l.length≤60000):runP tab 1493 [.sl 2 (prs l)] []=some (.vec 2 (prs (sorted ltH l)),[]):=by
 refine runP_fn t1493 rfl ?_
 have g1:=clone_h (l:=l) (by omega)
 have g2:=sortH_run hl
 have hz:=sorted_len (lt:=ltH) l
 simp (disch:=omega) only [go_sem,d1493,g1,g2]
 generalize sorted ltH l=s at *
 refine Ev_loop0 (fun i=>⟨[(4,.own 2 1),(11,.own 2 0),(12,.int .i64 (s.length:Int)),(13,.int .i64 (i:Int))],[.row false (prs s),.row false (prs (s.take i))],0,[(0,2,[4,11,12,13],[(4,1),(11,0)])]⟩) s.length (by simp [prs,hz]) (fun i hi=>?_) ?_
 ·have e1:=takeS hi
  have e2:(s.take i).length=i:=by rw [List.length_take];omega
  simp (disch:=omega) only [go_sem,d1493_b0,prs_at,prs_snocB,e1,e2]
 ·simp (disch:=omega) only [go_sem,d1493_b0,List.take_length]
def fst1 (l:List Ed) (k:Int):List Ed:=(sorted ltH l).take (min k.toNat l.length)
theorem qfirst_run {l:List Ed} {k:Int} (hl:l.length≤60000):runP tab 1485 [.sl 2 (prs l),.int .i64 k] []=some (.vec 2 (prs (fst1 l k)),[]):=by
 refine runP_fn t1485 rfl ?_
 have g:=hsorted_run (l:=l) hl
 have hz:=sorted_len (lt:=ltH) l
 simp (disch:=omega) only [go_sem,d1485]
 refine Ev_loop0 (fun i=>⟨[(0,.sl 2 (prs l)),(1,.int .i64 k),(5,.own 2 0),(8,.sl 2 (prs l)),(9,.int .i64 (l.length:Int)),(10,.int .i64 (i:Int))],[.row false (prs (l.take i))],0,[(0,1,[0,1,5,8,9,10],[(5,0)])]⟩) l.length (by simp [prs]) (fun i hi=>?_) ?_
 ·have e1:=takeS hi
  have e2:(l.take i).length=i:=by rw [List.length_take];omega
  simp (disch:=omega) only [go_sem,d1485_b0,prs_at,prs_snocB,e1,e2]
 ·unfold fst1
  have e:max 0 (min k (l.length:Int))=((min k.toNat l.length:Nat):Int):=by omega
  have e3:min k.toNat l.length≤(sorted ltH l).length:=by omega
  generalize min k.toNat l.length=p at *
  generalize sorted ltH l=s at *
  simp (disch:=omega) only [go_sem,d1485_b0,List.take_length,g,e,prs_take_h]
theorem aheadB_run {a b:Ed}:runP tab 1487 [htA a,htA b] []=some (.bool (ltH a b),[]):=by
 refine runP_fn t1487 rfl ?_
 unfold ltH
 by_cases h1:a.2<b.2
 ·rw [decide_eq_true (Or.inl h1)]
  simp (disch:=omega) only [go_sem,d1487,htA]
 ·by_cases h2:a.2=b.2
  ·by_cases h3:a.1<b.1
   ·rw [decide_eq_true (Or.inr ⟨h2,h3⟩)]
    simp (disch:=omega) only [go_sem,d1487,htA]
   ·rw [decide_eq_false (by omega)]
    simp (disch:=omega) only [go_sem,d1487,htA]
  ·rw [decide_eq_false (by omega)]
   simp (disch:=omega) only [go_sem,d1487,htA]
theorem rputB_run {s:Nat} {l:List Ed} {x:Ed} (hsl:s=2∨l=[]) (hl:l.length≤60000):runP tab 1491 [.sl s (prs l),htA x] []=some (.sl 2 (prs (insO ltH l x)),[]):=by
 refine runP_fn t1491 rfl ?_
 have hu:=upO_le (lt:=ltH) l x
 rcases hsl with rfl | rfl
 ·simp (disch:=omega) only [go_sem,htA,d1491]
  refine Ev_loop0 (fun i=>⟨[(0,.sl 2 (prs l)),(3,.ref 0 0),(5,.int .i64 (i:Int))],[.row false [.int .i64 x.1,.int .i64 x.2]],0,[(0,1,[0,3,5],[(3,0)])]⟩) (upO ltH l x) rfl (fun i hi=>?_) ?_
  ·have h1:=upO_before (lt:=ltH) hi
   have g:=aheadB_run (a:=x) (b:=l.getD i default)
   rw [h1] at g
   simp only [htA] at g
   simp (disch:=omega) only [go_sem,d1491_b0,prs_at,g]
  ·unfold insO
   have e1:(l.take (upO ltH l x)).length=upO ltH l x:=by rw [List.length_take];omega
   have e2:(l.drop (upO ltH l x)).length=l.length - upO ltH l x:=List.length_drop
   by_cases h:upO ltH l x<l.length
   ·have h1:=upO_at h
    have g:=aheadB_run (a:=x) (b:=l.getD (upO ltH l x) default)
    rw [h1] at g
    simp only [htA] at g
    generalize upO ltH l x=p at *
    simp (disch:=omega) only [go_sem,d1491_b0,prs_at,g,prs_snocB,prs_take_h,prs_drop,prs_app,e1,e2,List.length_append]
    rw [List.append_assoc];rfl
   ·generalize upO ltH l x=p at *
    simp (disch:=omega) only [go_sem,d1491_b0,prs_snocB,prs_take_h,prs_drop,prs_app,e1,e2]
    first | (rw [List.append_assoc];rfl) | skip
 ·have e0:insO ltH ([]:List Ed) x=[x]:=rfl
  simp (disch:=omega) only [go_sem,htA,d1491,prs_nil18]
  refine Ev_stop ?_
  rw [e0]
  simp (disch:=omega) only [go_sem,d1491_b0,prs_nil18]
  first | rfl | skip
def rfst (l:List Ed) (k:Int):AV:=if k<1∨l=[] then .vec 2 [] else .sl 2 (prs (fst1 l k))
def rfC (l:List Ed) (i:Nat):AV:=if i=0 then .nils else .sl 2 (prs (sorted ltH (l.take i)))
theorem rfirst_run {l:List Ed} {k:Int} (hl:l.length≤60000):runP tab 1486 [.sl 2 (prs l),.int .i64 k] []=some (rfst l k,[]):=by
 refine runP_fn t1486 rfl ?_
 have hz:=sorted_len (lt:=ltH) l
 simp (disch:=omega) only [go_sem,d1486]
 refine Ev_loop0 (fun i=>⟨[(0,.sl 2 (prs l)),(1,.int .i64 k),(5,rfC l i),(6,.int .i64 (i:Int))],[],0,[(0,0,[0,1,5,6],[])]⟩) l.length rfl (fun i hi=>?_) ?_
 ·have e1:=takeS hi
  have hs:insO ltH (sorted ltH (l.take i)) (l.getD i default)=sorted ltH (l.take (i+1)):=by
   rw [insO_sorted ordrH,e1]
   exact sorted_cong ordrH (List.perm_append_singleton _ _).symm
  have hzi:(sorted ltH (l.take i)).length=i:=by rw [sorted_len,List.length_take];omega
  have ec:rfC l (i+1)=.sl 2 (prs (sorted ltH (l.take (i+1)))):=by rw [rfC,if_neg (by omega)]
  rw [ec,←hs]
  by_cases i0:i=0
  ·subst i0
   have g:=rputB_run (s:=1) (l:=[]) (x:=l.getD 0 default) (.inr rfl) (by simp)
   have h0:sorted ltH (l.take 0)=[]:=by simp [sorted]
   rw [h0]
   simp only [htA,prs_nil18] at g
   have er:rdc (prs l) (some 2)=some (.agg [.int .i64 (l.getD 0 default).1,.int .i64 (l.getD 0 default).2]):=by
    have:=prs_at hi
    rwa [List.drop_zero] at this
   simp (disch:=omega) only [go_sem,d1486_b0,rfC,er,g]
  ·have g:=rputB_run (s:=2) (l:=sorted ltH (l.take i)) (x:=l.getD i default) (.inl rfl) (by omega)
   simp only [htA] at g
   have ec2:rfC l i=.sl 2 (prs (sorted ltH (l.take i))):=by rw [rfC,if_neg i0]
   rw [ec2]
   simp (disch:=omega) only [go_sem,d1486_b0,prs_at,g]
 ·by_cases hl0:l=[]
  ·subst hl0
   have e:rfC [] ([]:List Ed).length=.nils:=rfl
   rw [e,rfst,if_pos (Or.inr rfl)]
   by_cases h1:k<1
   ·simp (disch:=omega) only [go_sem,d1486_b0,prs_nil18]
   ·have e2:min k 0=0:=by omega
    simp (disch:=omega) only [go_sem,d1486_b0,prs_nil18,e2]
  ·have hpos:0<l.length:=List.length_pos_iff.2 hl0
   have e:rfC l l.length=.sl 2 (prs (sorted ltH l)):=by rw [rfC,if_neg (by omega),List.take_length]
   rw [e,rfst]
   by_cases h1:k<1
   ·rw [if_pos (Or.inl h1)]
    simp (disch:=omega) only [go_sem,d1486_b0]
   ·rw [if_neg (by intro h;rcases h with h | h;exact h1 h;exact hl0 h)]
    unfold fst1
    have e2:min k ((sorted ltH l).length:Int)=((min k.toNat l.length:Nat):Int):=by omega
    have e3:min k.toNat l.length≤(sorted ltH l).length:=by omega
    generalize min k.toNat l.length=p at *
    generalize sorted ltH l=s at *
    simp (disch:=omega) only [go_sem,d1486_b0,e2,prs_take_h]
def nearL (P:List Po) (ws:List Txt) (xs:List Ml):List Ed:=(xs.filter fun x=>decide (x.b=0∧x.v∈allP P ws)).map fun x=>(x.v,x.d)
theorem nearL_len (P:List Po) (ws:List Txt) (xs:List Ml):(nearL P ws xs).length≤xs.length:=by
 unfold nearL;rw [List.length_map];exact List.length_filter_le _ _
theorem nearL_snoc (A:List Int) (xs:List Ml) (x:Ml):((xs++[x]).filter fun x=>decide (x.b=0∧x.v∈A)).map (fun x=>((x.v,x.d):Ed))=(xs.filter fun x=>decide (x.b=0∧x.v∈A)).map (fun x=>((x.v,x.d):Ed))++(if x.b=0∧x.v∈A then [(x.v,x.d)] else []):=by
 rw [List.filter_append,List.map_append]
 by_cases h:x.b=0∧x.v∈A
 ·rw [if_pos h,List.filter_cons_of_pos (p:=fun x:Ml=>decide (x.b=0∧x.v∈A)) (decide_eq_true h)];rfl
 ·rw [if_neg h,List.filter_cons_of_neg (p:=fun x:Ml=>decide (x.b=0∧x.v∈A)) (by rw [decide_eq_false h];nofun)];rfl
def frL (P:List Po) (q:Req) (xs:List Ml):List Ed:=fst1 (nearL P q.words xs) q.most
def neT (q:Req) (P:List Po) (xs ms:List Ml):AV:=if ms=[] then .tup [ansA (decide (0<(frL P q xs).length)) 0 (frL P q xs),.bool true] else .tup [ansA false 0 [],.bool false]
theorem allP_small {P:List Po} (hP:okP P) (ws:List Txt):(allP P ws).length≤1000:=by
 cases ws with
 |nil=>exact Nat.zero_le _
 |cons w r=>exact allF_len hP r _ (nrm_findP hP w)
theorem fst1_len (l:List Ed) (k:Int):(fst1 l k).length≤l.length:=by
 unfold fst1
 rw [List.length_take]
 have:=sorted_len (lt:=ltH) l
 omega
theorem pnear_run {q:Req} {P:List Po} {xs ms:List Ml} (hP:okP P) (hw:q.words.length≤1000) (hl:xs.length≤60000) (hm:ms.length≤60000):runP tab 1722 [.agg (qryS q),.sl 2 (poS P),.sl 4 (mls xs),.sl 4 (mls ms)] []=some (neT q P xs ms,[]):=by
 refine runP_fn t1722 rfl ?_
 have L:=mls_len xs
 have Ld:xs.length*4 / 4=xs.length:=by omega
 have M:=mls_len ms
 have Md:ms.length*4 / 4=ms.length:=by omega
 unfold neT
 by_cases hm0:ms=[]
 case neg=>
  have:0<ms.length:=List.length_pos_iff.2 hm0
  rw [if_neg hm0]
  simp (disch:=omega) only [go_sem,d1722,qryS,M,Md,ansA,prs_nil18]
 rw [if_pos hm0]
 subst hm0
 have ga:=all05_run hP (ws:=q.words) (by omega)
 have hal:=allP_small hP q.words
 unfold frL nearL
 have hxl:((xs.filter fun x=>decide (x.b=0∧x.v∈allP P q.words)).map fun x=>((x.v,x.d):Ed)).length≤60000:=Nat.le_trans (nearL_len P q.words xs) hl
 generalize (if q.words=[] then (1:Int) else 0)=ew at *
 generalize allP P q.words=A at *
 have La:=ints_length A
 simp (disch:=omega) only [go_sem,d1722,qryS,mls_nil,ga,La]
 refine Ev_loop0 (fun i=>⟨[(2,.sl 4 (mls xs)),(4,.ref 0 0),(8,.ref 1 0),(12,.mref 3),(33,.own 1 2),(34,.int .i64 (A.length:Int)),(35,.int .i64 (i:Int))],[.row false (qryS q),.row false [.bool false,.int .i64 0,.nils],.row false (ints A),.mp (ints (ddI (A.take i))) (uns (ddI (A.take i)).length)],0,[(0,4,[2,4,8,12,33,34,35],[(4,0),(8,1),(12,3),(33,2)])]⟩) A.length (by simp [qryS,ints,ddI,uns]) (fun i hi=>?_) ?_
 ·have e1:=ints_rdc0 hi
  have et:A.take (i+1)=A.take i++[A.getD i 0]:=take_snoc 0 hi
  rw [et,ddI_snoc]
  by_cases hm:A.getD i 0∈ddI (A.take i)
  ·obtain ⟨j,hj,_,hk⟩:=kget_iin hm
   rw [if_pos hm]
   simp (disch:=omega) only [go_sem,d1722_b0,qryS,La,e1,hk]
  ·have hk:=kget_iout hm
   rw [if_neg hm]
   simp (disch:=omega) only [go_sem,d1722_b0,qryS,La,e1,hk]
   first | (rw [uns_app];done) | (simp [ints,uns_app];done) | skip
 ·rw [List.take_length]
  simp (disch:=omega) only [go_sem,d1722_b0,qryS,La,L,Ld]
  have hmem:∀ x,x∈ddI A↔x∈A:=ddI_mem A
  refine Ev_loop0 (fun i=>⟨[(4,.ref 0 0),(8,.ref 1 0),(12,.mref 3),(15,.own 2 4),(43,.sl 4 (mls xs)),(44,.int .i64 (xs.length:Int)),(45,.int .i64 (i:Int))],[.row false (qryS q),.row false [.bool false,.int .i64 0,.nils],.row false (ints A),.mp (ints (ddI A)) (uns (ddI A).length),.row false (prs (((xs.take i).filter fun x=>decide (x.b=0∧x.v∈A)).map fun x=>((x.v,x.d):Ed)))],0,[(1,5,[4,8,12,15,43,44,45],[(4,0),(8,1),(12,3),(15,4)]),(0,4,[2,4,8,12,33,34,35],[(4,0),(8,1),(12,3),(33,2)])]⟩) xs.length (by simp [qryS,prs]) (fun i hi=>?_) ?_
  ·have e1:=mls_at hi
   have et:xs.take (i+1)=xs.take i++[xs.getD i default]:=take_snoc default hi
   have hH:=nearL_snoc A (xs.take i) (xs.getD i default)
   have lH:(((xs.take i).filter fun x=>decide (x.b=0∧x.v∈A)).map fun x=>((x.v,x.d):Ed)).length≤60000:=by
    rw [List.length_map]
    have:=List.length_filter_le (fun x:Ml=>decide (x.b=0∧x.v∈A)) (xs.take i)
    rw [List.length_take] at this;omega
   rw [et,hH]
   generalize ((xs.take i).filter fun x=>decide (x.b=0∧x.v∈A)).map (fun x=>((x.v,x.d):Ed))=H at *
   generalize xs.getD i default=x at *
   simp only [mlC] at e1
   have Lh:=prs_len H
   have ea:prs H++[AV.int .i64 x.v,.int .i64 x.d]=prs (H++[(x.v,x.d)]):=by rw [←prs_app];rfl
   by_cases hm:x.v∈A
   ·obtain ⟨j,hj,_,hk⟩:=kget_iin ((hmem _).2 hm)
    have hg:=uns_get hj
    by_cases hb:x.b=0
    ·rw [if_pos ⟨hb,hm⟩]
     simp (disch:=omega) only [go_sem,d1722_b1,qryS,L,Ld,e1,hk,hg,hb,Lh,ea]
    ·rw [if_neg (fun h=>hb h.1),List.append_nil]
     simp (disch:=omega) only [go_sem,d1722_b1,qryS,L,Ld,e1,hk,hg,hb,Lh]
   ·have hk:=kget_iout (fun h=>hm ((hmem _).1 h))
    rw [if_neg (fun h=>hm h.2),List.append_nil]
    simp (disch:=omega) only [go_sem,d1722_b1,qryS,L,Ld,e1,hk,Lh]
  ·rw [List.take_length]
   have gf:=qfirst_run (l:=(xs.filter fun x=>decide (x.b=0∧x.v∈A)).map fun x=>((x.v,x.d):Ed)) (k:=q.most) hxl
   have lF:=fst1_len ((xs.filter fun x=>decide (x.b=0∧x.v∈A)).map fun x=>((x.v,x.d):Ed)) q.most
   generalize fst1 ((xs.filter fun x=>decide (x.b=0∧x.v∈A)).map fun x=>((x.v,x.d):Ed)) q.most=F at *
   generalize (xs.filter fun x=>decide (x.b=0∧x.v∈A)).map (fun x=>((x.v,x.d):Ed))=H at *
   have LF:=prs_len F
   by_cases h0:0<F.length
   ·rw [decide_eq_true h0]
    simp (disch:=omega) only [go_sem,d1722_b1,qryS,L,Ld,gf,LF,ansA]
   ·rw [decide_eq_false h0]
    simp (disch:=omega) only [go_sem,d1722_b1,qryS,L,Ld,gf,LF,ansA]
def rneA (q:Req) (P:List Po) (xs:List Ml):AV:=.agg [.bool (decide (0<(frL P q xs).length)),.int .i64 0,rfst (nearL P q.words xs) q.most]
theorem rfst_cases (l:List Ed) (k:Int):(rfst l k=.vec 2 []∧fst1 l k=[])∨rfst l k=.sl 2 (prs (fst1 l k)):=by
 unfold rfst
 split
 ·rename_i h
  refine .inl ⟨rfl,?_⟩
  unfold fst1
  rcases h with h | h
  ·rw [show min k.toNat l.length=0 by omega];rfl
  ·subst h;simp [sorted]
 ·exact .inr rfl
theorem rnear_run {q:Req} {P:List Po} {xs:List Ml} (hP:okP P) (hw:q.words.length≤1000) (hl:xs.length≤60000):runP tab 1724 [.agg (qryS q),.sl 2 (poS P),.sl 4 (mls xs)] []=some (rneA q P xs,[]):=by
 refine runP_fn t1724 rfl ?_
 have L:=mls_len xs
 have Ld:xs.length*4 / 4=xs.length:=by omega
 have ga:=qall_run hP (ws:=q.words) (by omega)
 have hal:=allP_small hP q.words
 have hin:∀ v:Int,runP tab 1020 [.sl 1 (ints (allP P q.words)),.int .i64 v] []=some (.bool (decide (v∈allP P q.words)),[]):=fun v=>qin_run (by omega)
 unfold rneA frL nearL
 have hxl:((xs.filter fun x=>decide (x.b=0∧x.v∈allP P q.words)).map fun x=>((x.v,x.d):Ed)).length≤60000:=Nat.le_trans (nearL_len P q.words xs) hl
 generalize (if q.words=[] then (1:Int) else 0)=ew at *
 generalize allP P q.words=A at *
 have La:=ints_length A
 simp (disch:=omega) only [go_sem,d1724,qryS,ga,La]
 refine Ev_loop0 (fun i=>⟨[(2,.sl 4 (mls xs)),(3,.ref 0 0),(6,.ref 1 0),(7,.own 1 2),(9,.own 2 3),(10,.int .i64 (i:Int))],[.row false (qryS q),.row false [.bool false,.int .i64 0,.nils],.row false (ints A),.row false (prs (((xs.take i).filter fun x=>decide (x.b=0∧x.v∈A)).map fun x=>((x.v,x.d):Ed)))],0,[(0,4,[2,3,6,7,9,10],[(3,0),(6,1),(7,2),(9,3)])]⟩) xs.length (by simp [qryS,prs]) (fun i hi=>?_) ?_
 ·have e1:=mls_k hi
  have e4:=mls_d hi
  have et:xs.take (i+1)=xs.take i++[xs.getD i default]:=take_snoc default hi
  have hH:=nearL_snoc A (xs.take i) (xs.getD i default)
  have lH:(((xs.take i).filter fun x=>decide (x.b=0∧x.v∈A)).map fun x=>((x.v,x.d):Ed)).length≤60000:=by
   rw [List.length_map]
   have:=List.length_filter_le (fun x:Ml=>decide (x.b=0∧x.v∈A)) (xs.take i)
   rw [List.length_take] at this;omega
  rw [et,hH]
  generalize ((xs.take i).filter fun x=>decide (x.b=0∧x.v∈A)).map (fun x=>((x.v,x.d):Ed))=H at *
  have gi:=hin (xs.getD i default).v
  generalize xs.getD i default=x at *
  have Lh:=prs_len H
  have ea:prs H++[AV.int .i64 x.v,.int .i64 x.d]=prs (H++[(x.v,x.d)]):=by rw [←prs_app];rfl
  by_cases hb:x.b=0
  ·by_cases hm:x.v∈A
   ·rw [if_pos ⟨hb,hm⟩]
    rw [decide_eq_true hm] at gi
    simp (disch:=omega) only [go_sem,d1724_b0,qryS,L,Ld,e1,e4,hb,gi,Lh,ea]
   ·rw [if_neg (fun h=>hm h.2),List.append_nil]
    rw [decide_eq_false hm] at gi
    simp (disch:=omega) only [go_sem,d1724_b0,qryS,L,Ld,e1,e4,hb,gi,Lh]
  ·rw [if_neg (fun h=>hb h.1),List.append_nil]
   simp (disch:=omega) only [go_sem,d1724_b0,qryS,L,Ld,e1,e4,hb,Lh]
 ·rw [List.take_length]
  have gf:=rfirst_run (l:=(xs.filter fun x=>decide (x.b=0∧x.v∈A)).map fun x=>((x.v,x.d):Ed)) (k:=q.most) hxl
  have hc:=rfst_cases ((xs.filter fun x=>decide (x.b=0∧x.v∈A)).map fun x=>((x.v,x.d):Ed)) q.most
  have lF:=fst1_len ((xs.filter fun x=>decide (x.b=0∧x.v∈A)).map fun x=>((x.v,x.d):Ed)) q.most
  generalize fst1 ((xs.filter fun x=>decide (x.b=0∧x.v∈A)).map fun x=>((x.v,x.d):Ed)) q.most=F at *
  generalize rfst ((xs.filter fun x=>decide (x.b=0∧x.v∈A)).map fun x=>((x.v,x.d):Ed)) q.most=R at *
  generalize (xs.filter fun x=>decide (x.b=0∧x.v∈A)).map (fun x=>((x.v,x.d):Ed))=H at *
  have LF:=prs_len F
  rcases hc with ⟨rfl,rfl⟩ | rfl
  ·simp (disch:=omega) only [go_sem,d1724_b0,qryS,L,Ld,gf]
  ·by_cases h0:0<F.length
   ·rw [decide_eq_true h0]
    simp (disch:=omega) only [go_sem,d1724_b0,qryS,L,Ld,gf,LF]
   ·rw [decide_eq_false h0]
    simp (disch:=omega) only [go_sem,d1724_b0,qryS,L,Ld,gf,LF]
end Go.Proofs.Ytfbfbennheeglaa
