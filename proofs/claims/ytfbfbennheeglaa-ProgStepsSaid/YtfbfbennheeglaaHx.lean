import Derived.Test.YtfbfbennheeglaaT18
import Derived.Test.YtfbfbennheeglaaRs
namespace Go.Proofs.Ytfbfbennheeglaa
set_option linter.unusedSimpArgs false
set_option linter.unusedVariables false
set_option maxHeartbeats 4000000
set_option maxRecDepth 100000
theorem ints_at (a b:List Int) (hl:a.length=b.length):(∀ i,i<a.length→a.getD i 0=b.getD i 0)∧(a == b)=true∨∃ n,n<a.length∧(∀ i,i<n→a.getD i 0=b.getD i 0)∧a.getD n 0≠b.getD n 0∧(a == b)=false:=by
 induction a generalizing b with
 |nil=>cases b with | nil=>exact .inl ⟨by simp,rfl⟩ | cons y b=>simp at hl
 |cons x a ih=>cases b with
  |nil=>simp at hl
  |cons y b=>
   by_cases hxy:x=y
   ·rcases ih b (by simpa using hl) with ⟨h1,h2⟩ | ⟨n,h1,h2,h3,h4⟩
    ·refine .inl ⟨fun i hi=>?_,by simpa [hxy] using h2⟩
     cases i with | zero=>simpa using hxy | succ i=>simpa using h1 i (by simpa using hi)
    ·refine .inr ⟨n+1,by simpa using h1,fun i hi=>?_,by simpa using h3,by simpa [hxy] using h4⟩
     cases i with | zero=>simpa using hxy | succ i=>simpa using h2 i (by omega)
   ·exact .inr ⟨0,by simp,by omega,by simpa using hxy,by simp [hxy]⟩
theorem ints_run {a b:List Int} (ha:a.length<1000000) (hb:b.length<1000000):runP tab 1016 [.sl 1 (ints a),.sl 1 (ints b)] []=some (.bool (a == b),[]):=by
 refine runP_fn t1016 rfl ?_
 by_cases hl:a.length=b.length
 ·simp (disch:=omega) only [go_sem,d1016]
  rcases ints_at a b hl with ⟨h1,h2⟩ | ⟨k,h0,h1,h2,h3⟩
  ·refine Ev_loop0 (fun i=>⟨[(0,.sl 1 (ints a)),(1,.sl 1 (ints b)),(5,.int .i64 (i:Int))],[],0,[(0,0,[0,1,5],[])]⟩) a.length rfl (fun i hi=>?_) ?_
   ·have:=h1 i (by omega)
    simp (disch:=omega) only [go_sem,d1016_b0]
   ·simp (disch:=omega) only [go_sem,d1016_b0,h2]
  ·refine Ev_loop0 (fun i=>⟨[(0,.sl 1 (ints a)),(1,.sl 1 (ints b)),(5,.int .i64 (i:Int))],[],0,[(0,0,[0,1,5],[])]⟩) k rfl (fun i hi=>?_) ?_
   ·have:=h1 i (by omega)
    simp (disch:=omega) only [go_sem,d1016_b0]
   ·simp (disch:=omega) only [go_sem,d1016_b0,h2,h3]
 ·have h:(a == b)=false:=by rw [←Bool.not_eq_true,beq_iff_eq];rintro rfl;exact hl rfl
  simp (disch:=omega) only [go_sem,d1016,h]
theorem owni_run {l:List Int} (h:l.length≤1000000):runP tab 1022 [.sl 1 (ints l)] []=some (.vec 1 (ints l),[]):=by
 refine runP_fn t1022 rfl ?_
 simp (disch:=omega) only [go_sem,d1022]
theorem clonei_run {l:List Int} (h:l.length≤1000000):runP tab 1024 [.sl 1 (ints l)] []=some (.vec 1 (ints l),[]):=by
 rw [runP_orc t1024]
 have h2:noinlL (ints l)=true:=ints_noinl l
 have h3:noidL (ints l)=true:=ints_noid l
 simp only [cloneG,true_or,h2,h3,true_and,ints_length,Nat.div_one,ints_okc]
 rw [if_pos (by constructor<;>first | trivial | omega)]
theorem first_ix' (p:Nat→Prop) (n:Nat):(∀ i,i<n→p i)∨∃ m,m<n∧(∀ i,i<m→p i)∧¬ p m:=by
 induction n with
 |zero=>exact .inl (by intro i h;omega)
 |succ n ih=>
  rcases ih with h | ⟨m,h1,h2,h3⟩
  ·by_cases hn:p n
   ·exact .inl fun i hi=>by
     by_cases e:i=n
     ·subst e;exact hn
     ·exact h i (by omega)
   ·exact .inr ⟨n,by omega,h,hn⟩
  ·exact .inr ⟨m,by omega,h2,h3⟩
theorem getD_memI {l:List Int} {i:Nat} (h:i<l.length):l.getD i 0∈l:=by
 rw [List.getD_eq_getElem?_getD,List.getElem?_eq_getElem h];exact List.getElem_mem _
theorem memI {l:List Int} {x:Int}:x∈l↔∃ i,i<l.length∧l.getD i 0=x:=by
 constructor
 ·intro h
  obtain ⟨i,hi,e⟩:=List.getElem_of_mem h
  exact ⟨i,hi,by rw [List.getD_eq_getElem?_getD,List.getElem?_eq_getElem hi,e];rfl⟩
 ·rintro ⟨i,hi,rfl⟩;exact getD_memI hi
theorem less_run {a b:Int}:runP tab 1219 [.int .i64 a,.int .i64 b] []=some (.bool (decide (a<b)),[]):=by
 have g:∀ x:Int,runP tab 1072 [.int .i64 x] []=some (.bool false,[]):=fun x=>by
  refine runP_fn t1072 rfl ?_
  simp (disch:=omega) only [go_sem,d1072]
 refine runP_fn t1219 rfl ?_
 by_cases h:a<b
 ·simp (disch:=omega) only [go_sem,d1219,g]
 ·simp (disch:=omega) only [go_sem,d1219,g]
def allPl (n:Int) (l:List Int):Bool:=l.all fun v=>decide (0≤v∧v<n)
theorem places_run {n:Int} {l:List Int} (hl:l.length≤1000000):runP tab 1211 [.int .i64 n,.sl 1 (ints l)] []=some (.bool (allPl n l),[]):=by
 refine runP_fn t1211 rfl ?_
 simp (disch:=omega) only [go_sem,d1211]
 rcases first_ix' (fun i=>0≤l.getD i 0∧l.getD i 0<n) l.length with h | ⟨m,h1,h2,h3⟩
 ·have e:allPl n l=true:=by
   rw [allPl,List.all_eq_true]
   intro x hx
   obtain ⟨i,hi,rfl⟩:=memI.1 hx
   simpa using h i hi
  rw [e]
  refine Ev_loop0 (fun i=>⟨[(0,.int .i64 n),(7,.sl 1 (ints l)),(8,.int .i64 l.length),(9,.int .i64 (i:Int))],[],0,[(0,0,[0,7,8,9],[])]⟩) l.length rfl (fun i hi=>?_) ?_
  ·have q:=h i hi
   simp (disch:=omega) only [go_sem,d1211_b0]
  ·simp (disch:=omega) only [go_sem,d1211_b0]
 ·have e:allPl n l=false:=by
   rw [allPl,List.all_eq_false]
   exact ⟨_,getD_memI h1,by simpa using h3⟩
  rw [e]
  refine Ev_loop0 (fun i=>⟨[(0,.int .i64 n),(7,.sl 1 (ints l)),(8,.int .i64 l.length),(9,.int .i64 (i:Int))],[],0,[(0,0,[0,7,8,9],[])]⟩) m rfl (fun i hi=>?_) ?_
  ·have q:=h2 i hi
   simp (disch:=omega) only [go_sem,d1211_b0]
  ·by_cases h0:l.getD m 0<0
   ·simp (disch:=omega) only [go_sem,d1211_b0]
   ·simp (disch:=omega) only [go_sem,d1211_b0]
def mono (l:List Int):Prop:=∀ v,v+1<l.length→gi l v≤gi l (v+1)
open Classical in
noncomputable def monoB (l:List Int):Bool:=decide (mono l)
theorem sorted_run {l:List Int} (hl:l.length≤1000000):runP tab 1210 [.sl 1 (ints l)] []=some (.bool (monoB l),[]):=by
 refine runP_fn t1210 rfl ?_
 have less:=fun a b=>less_run (a:=a) (b:=b)
 rcases first_ix' (fun i=>gi l (l.length - 1 - i - 1)≤gi l (l.length - 1 - i)) (l.length - 1) with h | ⟨m,h1,h2,h3⟩
 ·have e:monoB l=true:=by
   rw [monoB];simp only [decide_eq_true_eq]
   intro v hv
   have:=h (l.length - 1 - (v+1)) (by omega)
   rw [show l.length - 1 - (l.length - 1 - (v+1))=v+1 by omega] at this
   simpa using this
  rw [e]
  simp (disch:=omega) only [go_sem,d1210]
  refine Ev_loop0 (fun i=>⟨[(0,.sl 1 (ints l)),(3,.int .i64 ((l.length:Int) - 1 - i))],[],0,[(0,0,[0,3],[])]⟩) (l.length - 1) (by simp) (fun i hi=>?_) ?_
  ·have q:=h i hi
   simp only [gi] at q
   obtain ⟨j,hj⟩:∃ j:Nat,(l.length:Int) - 1 - i=j+1:=⟨l.length - 2 - i,by omega⟩
   rw [show l.length - 1 - i - 1=j by omega,show l.length - 1 - i=j+1 by omega] at q
   have less:=less (l.getD (j+1) 0) (l.getD j 0)
   rw [decide_eq_false (show ¬ l.getD (j+1) 0<l.getD j 0 by omega)] at less
   have q2:((j:Int)+1) - 1=(j:Int):=by omega
   have q3:((j:Int)+1).toNat=j+1:=by omega
   have q4:(l.length:Int) - 1 - (i+1)=j:=by omega
   simp (disch:=omega) only [go_sem,d1210_b0,hj,q2,q3,q4,less]
  ·simp (disch:=omega) only [go_sem,d1210_b0]
 ·have e:monoB l=false:=by
   rw [monoB];simp only [decide_eq_false_iff_not]
   intro hh
   have:=hh (l.length - 1 - m - 1) (by omega)
   rw [show l.length - 1 - m - 1+1=l.length - 1 - m by omega] at this
   exact h3 this
  rw [e]
  simp (disch:=omega) only [go_sem,d1210]
  refine Ev_loop0 (fun i=>⟨[(0,.sl 1 (ints l)),(3,.int .i64 ((l.length:Int) - 1 - i))],[],0,[(0,0,[0,3],[])]⟩) m (by simp) (fun i hi=>?_) ?_
  ·have q:=h2 i hi
   simp only [gi] at q
   obtain ⟨j,hj⟩:∃ j:Nat,(l.length:Int) - 1 - i=j+1:=⟨l.length - 2 - i,by omega⟩
   rw [show l.length - 1 - i - 1=j by omega,show l.length - 1 - i=j+1 by omega] at q
   have less:=less (l.getD (j+1) 0) (l.getD j 0)
   rw [decide_eq_false (show ¬ l.getD (j+1) 0<l.getD j 0 by omega)] at less
   have q2:((j:Int)+1) - 1=(j:Int):=by omega
   have q3:((j:Int)+1).toNat=j+1:=by omega
   have q4:(l.length:Int) - 1 - (i+1)=j:=by omega
   simp (disch:=omega) only [go_sem,d1210_b0,hj,q2,q3,q4,less]
  ·have q:=h3
   simp only [gi] at q
   obtain ⟨j,hj⟩:∃ j:Nat,(l.length:Int) - 1 - m=j+1:=⟨l.length - 2 - m,by omega⟩
   rw [show l.length - 1 - m - 1=j by omega,show l.length - 1 - m=j+1 by omega] at q
   have less:=less (l.getD (j+1) 0) (l.getD j 0)
   rw [decide_eq_true (show l.getD (j+1) 0<l.getD j 0 by omega)] at less
   have q2:((j:Int)+1) - 1=(j:Int):=by omega
   have q3:((j:Int)+1).toNat=j+1:=by omega
   simp (disch:=omega) only [go_sem,d1210_b0,hj,q2,q3,less]
structure Lay (off to:List Int):Prop where
 lo:2≤off.length
 hi:off.length≤201
 tl:to.length≤2000
 z:gi off 0=0
 e:gi off (off.length - 1)=to.length
 mono:∀ v,v+1<off.length→gi off v≤gi off (v+1)
section
variable {off to:List Int}
theorem Lay.oz (H:Lay off to):oi off 0=0:=by rw [oi,H.z];rfl
theorem Lay.nn (H:Lay off to) {v:Nat} (h:v<off.length):0≤gi off v:=by rw [←H.z];exact mono_of H.mono (Nat.zero_le _) h
theorem Lay.le (H:Lay off to) {v:Nat} (h:v<off.length):gi off v≤to.length:=by rw [←H.e];exact mono_of H.mono (by omega) (by omega)
theorem Lay.gn (H:Lay off to) {v:Nat} (h:v<off.length):gi off v=oi off v:=by have:=H.nn h;rw [oi];omega
theorem Lay.ole (H:Lay off to) {v:Nat} (h:v<off.length):oi off v≤to.length:=by have:=H.le h;have:=H.gn h;omega
theorem Lay.om (H:Lay off to) {v:Nat} (h:v+1<off.length):oi off v≤oi off (v+1):=by have:=H.mono v h;rw [H.gn h,H.gn (show v<off.length by omega)] at this;omega
theorem Lay.oe (H:Lay off to):oi off (off.length - 1)=to.length:=by rw [oi,H.e];rfl
theorem half.lay (H:half off to):Lay off to:=⟨H.lo,H.hi,H.tl,H.z,H.e,H.mono⟩
end
def good (off to:List Int) (v k:Nat):Prop:=0≤gi to k∧gi to k<off.length - 1∧(oi off v<k→gi to (k - 1)<gi to k)
def goodV (off to:List Int) (v:Nat):Prop:=∀ i,i<oi off (v+1) - oi off v→good off to v (oi off v+i)
def lv (off:List Int):Nat→Int
 |0=>-1
 |v+1=>if oi off v<oi off (v+1) then (v:Int) else lv off v
open Classical in
noncomputable def halfB (off to:List Int):Bool:=decide (half off to)
theorem half_no {off to:List Int} (h:¬ half off to):halfB off to=false:=by simp [halfB,h]
theorem half_yes {off to:List Int} (h:half off to):halfB off to=true:=by simp [halfB,h]
theorem lv_lt (off:List Int):∀ v,lv off v<v
 |0=>by simp [lv]
 |v+1=>by
  have:=lv_lt off v
  simp only [lv];split<;>omega
def lw (to:List Int) (k:Nat):Int:=if k=0 then -1 else gi to (k - 1)
def lvi (off:List Int) (v i:Nat):Int:=if i=0 then lv off v else v
theorem each_run {off to:List Int}:runP tab 1202 [.sl 1 (ints off),.sl 1 (ints to)] []=some (.clo 1212 [] [.box [.sl 1 (ints off)],.box [.sl 1 (ints to)]],[]):=by
 refine runP_fn t1202 rfl ?_
 simp (disch:=omega) only [go_sem,d1202]
def stL:Blk:=.lp 0 [(4,.ref 0 0),(5,.ref 1 0),(6,.ref 2 0),(7,.ref 3 0),(46,.clo 1212 [] [.ref 4 0,.ref 5 0])] [47,48] d1199_r0a d1199_r0 .normal
def stS (off to:List Int) (v:Nat):St:=⟨[(0,.yld 6),(1,.ref 4 0),(2,.ref 5 0),(9,.int .i64 (off.length - 1)),(10,.int .i64 (v:Int))],[.row false [.bool false],.row false [.int .i64 ((off.length:Int) - 1)],.row false [.int .i64 (lv off v)],.row false [.int .i64 (lw to (oi off v))],.row false [.sl 1 (ints off)],.row false [.sl 1 (ints to)],stL],7,[(0,7,[0,1,2,9,10],[(0,6),(1,4),(2,5)])]⟩
def stI (off to R:List Int) (v i:Nat):St:=⟨[(0,.yld 6),(1,.ref 4 0),(2,.ref 5 0),(4,.int .i64 (v:Int)),(9,.int .i64 (off.length - 1)),(10,.int .i64 (v:Int)),(23,.sl 1 (ints R)),(24,.int .i64 ((oi off (v+1) - oi off v:Nat):Int)),(25,.int .i64 (i:Int))],[.row false [.bool false],.row false [.int .i64 ((off.length:Int) - 1)],.row false [.int .i64 (lvi off v i)],.row false [.int .i64 (lw to (oi off v+i))],.row false [.sl 1 (ints off)],.row false [.sl 1 (ints to)],stL],7,[(1,7,[0,1,2,4,9,10,23,24,25],[(0,6),(1,4),(2,5)]),(0,7,[0,1,2,9,10],[(0,6),(1,4),(2,5)])]⟩
theorem row_cut {off to:List Int} (H:Lay off to) {v:Nat} (hv:v<off.length - 1):(List.take (oi off (v+1) - oi off v) (List.drop (oi off v) to)).length=oi off (v+1) - oi off v∧∀ i,i<oi off (v+1) - oi off v→(List.take (oi off (v+1) - oi off v) (List.drop (oi off v) to)).getD i 0=gi to (oi off v+i):=by
 have a4:=H.ole (v:=v+1) (by omega)
 refine ⟨by rw [List.length_take,List.length_drop];omega,fun i hi=>?_⟩
 rw [List.getD_eq_getElem?_getD,List.getElem?_take,if_pos hi,List.getElem?_drop,gi,List.getD_eq_getElem?_getD]
theorem st_num {off to R:List Int} {v i:Nat} (H:Lay off to) (hv:v<off.length - 1) (hRl:R.length=oi off (v+1) - oi off v) (hRi:∀ i,i<oi off (v+1) - oi off v→R.getD i 0=gi to (oi off v+i)) (hi:i<oi off (v+1) - oi off v) (gk:good off to v (oi off v+i)):Ev tab d1212_b1 (stI off to R v i) (fun x st=>x=.normal∧st=stI off to R v (i+1)):=by
 have h2:=H.hi
 have a4:=H.ole (v:=v+1) (by omega)
 have h3:=H.tl
 have er:=hRi i hi
 obtain ⟨g1,g2,g3⟩:=gk
 have gp:=places_run (n:=(off.length:Int) - 1) (l:=[gi to (oi off v+i)]) (by simp)
 rw [show allPl ((off.length:Int) - 1) [gi to (oi off v+i)]=true by simp [allPl];omega] at gp
 simp only [ints,List.map_cons,List.map_nil] at gp
 simp (disch:=omega) only [go_sem,d1212_b1,stI,stL,er]
 refine EvR_eq rfl rfl ?_
 have hl:=lv_lt off v
 by_cases hi0:i=0
 ·subst hi0
  have q5:lvi off v 0=lv off v:=rfl
  have q6:¬ (v:Int)=lv off v:=by omega
  have q7:lvi off v (0+1)=v:=rfl
  have q8:lw to (oi off v+1)=gi to (oi off v):=by rw [lw,if_neg (by omega)];congr 1
  rw [Nat.add_zero] at gp
  simp (disch:=omega) only [go_sem,d1199_r0a,d1199_r0,gp,q5,q6,q7,q8]
 ·have q5:lvi off v i=v:=by rw [lvi,if_neg hi0]
  have q6:lw to (oi off v+i)=gi to (oi off v+i - 1):=by rw [lw,if_neg (by omega)]
  have q7:lvi off v (i+1)=v:=rfl
  have q8:lw to (oi off v+(i+1))=gi to (oi off v+i):=by rw [lw,if_neg (by omega)];congr 1
  have g4:=g3 (by omega)
  simp (disch:=omega) only [go_sem,d1199_r0a,d1199_r0,gp,q5,q6,q7,q8]
theorem st_row {off to:List Int} {v:Nat} (H:Lay off to) (hv:v<off.length - 1) (gv:goodV off to v):Ev tab d1212_b0 (stS off to v) (fun x st=>x=.normal∧st=stS off to (v+1)):=by
 have h1:=H.lo
 have h2:=H.hi
 have h3:=H.tl
 have a1:=H.gn (v:=v) (by omega)
 have a2:=H.gn (v:=v+1) (by omega)
 have a3:=H.om (v:=v) (by omega)
 have a4:=H.ole (v:=v+1) (by omega)
 unfold goodV at gv
 simp only [gi] at a1 a2
 have q2:((v:Int)+1).toNat=v+1:=by omega
 obtain ⟨hRl,hRi⟩:=row_cut H hv
 have q3:min (oi off (v+1) - oi off v) (to.length - oi off v)=oi off (v+1) - oi off v:=by omega
 simp (disch:=omega) only [go_sem,d1212_b0,stS,stL,a1,a2,q2,q3]
 generalize List.take (oi off (v+1) - oi off v) (List.drop (oi off v) to)=R at *
 refine Ev_loop0 (stI off to R v) (oi off (v+1) - oi off v) (by simp [stI,stL,lvi]) (fun i hi=>st_num H hv hRl hRi hi (gv i hi)) ?_
 have q5:lvi off v (oi off (v+1) - oi off v)=lv off (v+1):=by
  simp only [lvi,lv]
  by_cases h:oi off v<oi off (v+1)
  ·rw [if_neg (by omega),if_pos h]
  ·rw [if_pos (by omega),if_neg h]
 have q6:oi off v+(oi off (v+1) - oi off v)=oi off (v+1):=by omega
 simp (disch:=omega) only [go_sem,d1212_b1,stI,stL,q5,q6]
theorem straight_run {off to:List Int} (ho:off.length≤1000000) (ht:to.length≤1000000):runP tab 1199 [.sl 1 (ints off),.sl 1 (ints to)] []=some (.bool (halfB off to),[]):=by
 have hs:=sorted_run ho
 by_cases k1:(off.length:Int) - 1<1
 ·rw [half_no fun h=>by have:=h.lo;omega]
  refine runP_fn t1199 rfl ?_
  simp (disch:=omega) only [go_sem,d1199]
 by_cases k2:200<(off.length:Int) - 1
 ·rw [half_no fun h=>by have:=h.hi;omega]
  refine runP_fn t1199 rfl ?_
  simp (disch:=omega) only [go_sem,d1199]
 by_cases k3:2000<(to.length:Int)
 ·rw [half_no fun h=>by have:=h.tl;omega]
  refine runP_fn t1199 rfl ?_
  simp (disch:=omega) only [go_sem,d1199]
 have e0:rdc (ints off) none=some (.int .i64 (gi off 0)):=by
  have:=ints_rdc0 (l:=off) (i:=0) (by omega)
  rw [List.drop_zero] at this
  exact this
 by_cases k4:gi off 0=0
 case neg=>
  rw [half_no fun h=>k4 h.z]
  refine runP_fn t1199 rfl ?_
  simp (disch:=omega) only [go_sem,d1199,e0,k4]
 rw [k4] at e0
 have q1:((off.length:Int) - 1).toNat=off.length - 1:=by omega
 by_cases k5:gi off (off.length - 1)=to.length
 case neg=>
  rw [half_no fun h=>k5 h.e]
  refine runP_fn t1199 rfl ?_
  simp only [gi] at k5
  simp (disch:=omega) only [go_sem,d1199,e0,k5,q1]
 have he:=k5
 simp only [gi] at he
 by_cases k6:mono off
 case neg=>
  rw [half_no fun h=>k6 h.mono]
  rw [show monoB off=false by simp [monoB,k6]] at hs
  refine runP_fn t1199 rfl ?_
  simp (disch:=omega) only [go_sem,d1199,e0,he,q1,hs]
 rw [show monoB off=true by simp [monoB,k6]] at hs
 have H:Lay off to:=⟨by omega,by omega,by omega,k4,k5,k6⟩
 refine runP_fn t1199 rfl ?_
 simp (disch:=omega) only [go_sem,d1199,hs,each_run,q1,he,e0]
 refine Ev_rangef rfl ?_
 refine EvC_fn t1212 rfl ?_
 simp (disch:=omega) only [go_sem,d1212]
 have hst0:∀ w,w=stS off to 0→w=stS off to 0:=fun _ h=>h
 rcases first_ix' (fun v=>goodV off to v) (off.length - 1) with hg | ⟨v,hv,hb,hbad⟩
 ·rw [half_yes ⟨H.lo,H.hi,H.tl,H.z,H.e,H.mono,fun v hv k h1 h2=>by
   have:=hg v (by omega) (k - oi off v) (by omega)
   rw [show oi off v+(k - oi off v)=k by omega] at this
   exact this⟩]
  refine Ev_loop0 (stS off to) (off.length - 1) (by simp [stS,stL,lv,lw,H.oz]) (fun v hv=>st_row H hv (hg v hv)) ?_
  simp (disch:=omega) only [go_sem,d1212_b0,stS,stL]
 ·rw [half_no fun h=>hbad fun i hi=>h.pl v (by omega) (oi off v+i) (by omega) (by omega)]
  rcases first_ix' (fun i=>good off to v (oi off v+i)) (oi off (v+1) - oi off v) with hg | ⟨i,hi,hbi,hbadi⟩
  ·exact absurd hg hbad
  refine Ev_loop0 (stS off to) v (by simp [stS,stL,lv,lw,H.oz]) (fun u hu=>st_row H (by omega) (hb u hu)) ?_
  have a1:=H.gn (v:=v) (by omega)
  have a2:=H.gn (v:=v+1) (by omega)
  have a3:=H.om (v:=v) (by omega)
  have a4:=H.ole (v:=v+1) (by omega)
  simp only [gi] at a1 a2
  have q2:((v:Int)+1).toNat=v+1:=by omega
  obtain ⟨hRl,hRi⟩:=row_cut H hv
  have q3:min (oi off (v+1) - oi off v) (to.length - oi off v)=oi off (v+1) - oi off v:=by omega
  simp (disch:=omega) only [go_sem,d1212_b0,stS,stL,a1,a2,q2,q3]
  generalize List.take (oi off (v+1) - oi off v) (List.drop (oi off v) to)=R at *
  refine Ev_loop0 (stI off to R v) i (by simp [stI,stL,lvi]) (fun j hj=>st_num H hv hRl hRi (by omega) (hbi j hj)) ?_
  have er:=hRi i hi
  have gp:=places_run (n:=(off.length:Int) - 1) (l:=[gi to (oi off v+i)]) (by simp)
  simp only [ints,List.map_cons,List.map_nil] at gp
  simp (disch:=omega) only [go_sem,d1212_b1,stI,stL,er]
  refine EvR_eq rfl rfl ?_
  by_cases g1:0≤gi to (oi off v+i)∧gi to (oi off v+i)<(off.length:Int) - 1
  ·rw [show allPl ((off.length:Int) - 1) [gi to (oi off v+i)]=true by simp [allPl];omega] at gp
   have g2:0<i∧gi to (oi off v+i)≤gi to (oi off v+i - 1):=by
    refine ⟨Nat.pos_of_ne_zero fun h=>hbadi ⟨g1.1,g1.2,fun h2=>by omega⟩,?_⟩
    by_cases h:gi to (oi off v+i)≤gi to (oi off v+i - 1)
    ·exact h
    ·exact absurd ⟨g1.1,g1.2,fun _=>by omega⟩ hbadi
   have q5:lvi off v i=v:=by rw [lvi,if_neg (by omega)]
   have q6:lw to (oi off v+i)=gi to (oi off v+i - 1):=by rw [lw,if_neg (by omega)]
   simp (disch:=omega) only [go_sem,d1199_r0a,d1199_r0,gp,q5,q6]
  ·rw [show allPl ((off.length:Int) - 1) [gi to (oi off v+i)]=false by simp [allPl];omega] at gp
   simp (disch:=omega) only [go_sem,d1199_r0a,d1199_r0,gp]
def nx (roff to:List Int) (k:Nat):List Int:=(List.range roff.length).map fun w=>gi roff w+cntI to w k
theorem nx_len (roff to:List Int) (k:Nat):(nx roff to k).length=roff.length:=by simp [nx]
theorem nx_at {roff to:List Int} {k w:Nat} (h:w<roff.length):(nx roff to k).getD w 0=gi roff w+cntI to w k:=by
 rw [nx,List.getD_eq_getElem?_getD,List.getElem?_map,List.getElem?_range h];rfl
theorem nx_zero (roff to:List Int):nx roff to 0=roff:=by
 refine gi_ext (by simp [nx]) fun i hi=>?_
 rw [nx_len] at hi
 rw [gi,nx_at hi];simp [cntI]
theorem nx_succ {roff to:List Int} {k w:Nat} (hw:gi to k=w) (h:w<roff.length):(nx roff to k).set w (gi roff w+cntI to w k+1)=nx roff to (k+1):=by
 refine gi_ext (by simp [nx]) fun i hi=>?_
 rw [List.length_set,nx_len] at hi
 rw [gi_set (by rw [nx_len];exact h)]
 have e:=nx_at (roff:=roff) (to:=to) (k:=k+1) hi
 have e2:=nx_at (roff:=roff) (to:=to) (k:=k) hi
 simp only [gi] at e e2 ⊢
 rw [e]
 by_cases hiw:i=w
 ·subst hiw
  rw [if_pos rfl,cntI_yes hw];omega
 ·rw [if_neg hiw,e2,cntI_no (by rw [hw];omega)]
def rwS (r:Rw):List AV:=[.sl 1 (ints r.off),.sl 1 (ints r.to),.sl 1 (ints r.roff),.sl 1 (ints r.rev)]
theorem cnt_le {r:Rw} (b:half r.roff r.rev):∀ {k:Nat},(∀ j,j<k→stepOk r j)→∀ w:Nat,w+1<r.roff.length→oi r.roff w+cntI r.to w k≤oi r.roff (w+1)
 |0,_,w,hw=>by have:=b.om hw;simp [cntI];exact this
 |k+1,h,w,hw=>by
  have ih:=cnt_le b (k:=k) (fun j hj=>h j (by omega)) w hw
  by_cases e:gi r.to k=w
  ·rw [cntI_yes e]
   obtain ⟨s1,_⟩:=h k (by omega)
   rw [e,Int.toNat_natCast] at s1
   omega
  ·rw [cntI_no e];exact ih
def miL:Blk:=.lp 0 [(1,.ref 0 0),(2,.ref 1 0),(3,.ref 3 0),(21,.clo 1212 [] [.ref 4 0,.ref 5 0])] [22,23] d1200_r0a d1200_r0 .normal
def miH (r:Rw) (k:Nat):List Blk:=[.row false [.sl 1 (ints r.off),.sl 1 (ints r.to),.sl 1 (ints r.roff),.sl 1 (ints r.rev)],.row false [.bool false],.dead,.row false [.own 1 6],.row false [.sl 1 (ints r.off)],.row false [.sl 1 (ints r.to)],.row false (ints (nx r.roff r.to k)),miL]
def miS (r:Rw) (v:Nat):St:=⟨[(0,.yld 7),(1,.ref 4 0),(2,.ref 5 0),(9,.int .i64 (r.off.length - 1)),(10,.int .i64 (v:Int))],miH r (oi r.off v),8,[(0,8,[0,1,2,9,10],[(0,7),(1,4),(2,5)])]⟩
def miI (r:Rw) (R:List Int) (v i:Nat):St:=⟨[(0,.yld 7),(1,.ref 4 0),(2,.ref 5 0),(4,.int .i64 (v:Int)),(9,.int .i64 (r.off.length - 1)),(10,.int .i64 (v:Int)),(23,.sl 1 (ints R)),(24,.int .i64 ((oi r.off (v+1) - oi r.off v:Nat):Int)),(25,.int .i64 (i:Int))],miH r (oi r.off v+i),8,[(1,8,[0,1,2,4,9,10,23,24,25],[(0,7),(1,4),(2,5)]),(0,8,[0,1,2,9,10],[(0,7),(1,4),(2,5)])]⟩
theorem mi_num {r:Rw} {R:List Int} {v i:Nat} (hl:r.off.length=r.roff.length) (f:half r.off r.to) (b:half r.roff r.rev) (hv:v<r.off.length - 1) (hRl:R.length=oi r.off (v+1) - oi r.off v) (hRi:∀ i,i<oi r.off (v+1) - oi r.off v→R.getD i 0=gi r.to (oi r.off v+i)) (hi:i<oi r.off (v+1) - oi r.off v) (hs:stepOk r (oi r.off v+i)):Ev tab d1212_b1 (miI r R v i) (fun x st=>x=.normal∧st=miI r R v (i+1)):=by
 have b2:=b.hi
 have b3:=b.tl
 have f3:=f.tl
 have a4:=f.ole (v:=v+1) (by omega)
 have hp:=f.pl v (by omega) (oi r.off v+i) (by omega) (by omega)
 obtain ⟨w,hw⟩:∃ w:Nat,gi r.to (oi r.off v+i)=w:=⟨(gi r.to (oi r.off v+i)).toNat,by omega⟩
 obtain ⟨s1,s2⟩:=hs
 rw [f.se (v:=v) (by omega) (by omega) (by omega)] at s2
 rw [hw,Int.toNat_natCast] at s1 s2
 have hw1:w+1<r.roff.length:=by omega
 have er:=hRi i hi
 rw [hw] at er
 have hb1:=b.gn (v:=w) (by omega)
 have hb2:=b.gn (v:=w+1) (by omega)
 have hb3:=b.ole (v:=w+1) (by omega)
 have en:=nx_at (roff:=r.roff) (to:=r.to) (k:=oi r.off v+i) (w:=w) (by omega)
 have es:=nx_succ (roff:=r.roff) (to:=r.to) hw (by omega)
 rw [hb1] at en es
 simp only [gi] at hb2 s2
 have hnl:=nx_len r.roff r.to (oi r.off v+i)
 generalize hc:cntI r.to w (oi r.off v+i)=c at *
 have q1:((oi r.roff w:Int)+(c:Int)).toNat=oi r.roff w+c:=by omega
 have q2:((w:Int)+1).toNat=w+1:=by omega
 have q3:¬ ((oi r.roff w:Int)+(c:Int)=(oi r.roff (w+1):Int)):=by omega
 have q4:oi r.off v+(i+1)=oi r.off v+i+1:=by omega
 generalize hN:nx r.roff r.to (oi r.off v+i)=N at *
 simp (disch:=omega) only [go_sem,d1212_b1,miI,miH,miL,er,hN]
 refine EvR_eq rfl rfl ?_
 simp (disch:=omega) only [go_sem,d1200_r0a,d1200_r0,en,hb2,s2,q1,q2,q3,es,q4]
theorem mi_row {r:Rw} {v:Nat} (hl:r.off.length=r.roff.length) (f:half r.off r.to) (b:half r.roff r.rev) (hv:v<r.off.length - 1) (hs:∀ i,i<oi r.off (v+1) - oi r.off v→stepOk r (oi r.off v+i)):Ev tab d1212_b0 (miS r v) (fun x st=>x=.normal∧st=miS r (v+1)):=by
 have H:=f.lay
 have h1:=H.lo
 have h2:=H.hi
 have h3:=H.tl
 have a1:=H.gn (v:=v) (by omega)
 have a2:=H.gn (v:=v+1) (by omega)
 have a3:=H.om (v:=v) (by omega)
 have a4:=H.ole (v:=v+1) (by omega)
 simp only [gi] at a1 a2
 have q2:((v:Int)+1).toNat=v+1:=by omega
 obtain ⟨hRl,hRi⟩:=row_cut H hv
 have q3:min (oi r.off (v+1) - oi r.off v) (r.to.length - oi r.off v)=oi r.off (v+1) - oi r.off v:=by omega
 simp (disch:=omega) only [go_sem,d1212_b0,miS,miH,miL,a1,a2,q2,q3]
 generalize List.take (oi r.off (v+1) - oi r.off v) (List.drop (oi r.off v) r.to)=R at *
 refine Ev_loop0 (miI r R v) (oi r.off (v+1) - oi r.off v) (by simp [miI,miH,miL]) (fun i hi=>mi_num hl f b hv hRl hRi hi (hs i hi)) ?_
 have q6:oi r.off v+(oi r.off (v+1) - oi r.off v)=oi r.off (v+1):=by omega
 simp (disch:=omega) only [go_sem,d1212_b1,miI,miH,miL,q6]
theorem mirrored_run {r:Rw} (hl:r.off.length=r.roff.length) (f:half r.off r.to) (b:half r.roff r.rev):runP tab 1200 [.agg (rwS r)] []=some (.bool (chk r),[]):=by
 refine runP_fn t1200 rfl ?_
 have b2:=b.hi
 have b1:=b.lo
 have b3:=b.tl
 have f1:=f.lo
 have f2:=f.hi
 have f3:=f.tl
 have gc:=clonei_run (l:=r.roff) (by omega)
 by_cases hm:r.to.length=r.rev.length
 ·have q1:((r.to.length:Int)=r.rev.length):=by omega
  simp (disch:=omega) only [go_sem,d1200,rwS,gc,each_run,q1]
  refine Ev_rangef rfl ?_
  refine EvC_fn t1212 rfl ?_
  simp (disch:=omega) only [go_sem,d1212]
  have h0:nx r.roff r.to (oi r.off 0)=r.roff:=by rw [f.oz,nx_zero]
  rcases first_ix' (fun k=>stepOk r k) r.to.length with h | ⟨k,hk,hb,hbad⟩
  ·rw [chk_yes ⟨hl,f,b,hm,mir_of_steps hl f b h⟩]
   refine Ev_loop0 (miS r) (r.off.length - 1) (by simp [miS,miH,miL,h0]) (fun v hv=>mi_row hl f b hv fun i hi=>h _ (by have:=f.ole (v:=v+1) (by omega);omega)) ?_
   simp (disch:=omega) only [go_sem,d1212_b0,miS,miH,miL]
  ·rw [chk_no fun h=>hbad (steps_of_mir hl f b hm h.mir hk)]
   obtain ⟨v,v1,v2,v3⟩:=f.ex hk
   obtain ⟨i,rfl⟩:∃ i,k=oi r.off v+i:=⟨k - oi r.off v,by omega⟩
   have hv:v<r.off.length - 1:=by omega
   refine Ev_loop0 (miS r) v (by simp [miS,miH,miL,h0]) (fun u hu=>mi_row hl f b (by omega) fun j hj=>hb _ (by have:=f.omm (v:=u+1) (w:=v) (by omega) (by omega);omega)) ?_
   have H:=f.lay
   have a1:=H.gn (v:=v) (by omega)
   have a2:=H.gn (v:=v+1) (by omega)
   have a3:=H.om (v:=v) (by omega)
   have a4:=H.ole (v:=v+1) (by omega)
   simp only [gi] at a1 a2
   have q2:((v:Int)+1).toNat=v+1:=by omega
   obtain ⟨hRl,hRi⟩:=row_cut H hv
   have q3:min (oi r.off (v+1) - oi r.off v) (r.to.length - oi r.off v)=oi r.off (v+1) - oi r.off v:=by omega
   simp (disch:=omega) only [go_sem,d1212_b0,miS,miH,miL,a1,a2,q2,q3]
   generalize List.take (oi r.off (v+1) - oi r.off v) (List.drop (oi r.off v) r.to)=R at *
   refine Ev_loop0 (miI r R v) i (by simp [miI,miH,miL]) (fun j hj=>mi_num hl f b hv hRl hRi (by omega) (hb _ (by omega))) ?_
   have hp:=f.pl v (by omega) (oi r.off v+i) (by omega) (by omega)
   obtain ⟨w,hw⟩:∃ w:Nat,gi r.to (oi r.off v+i)=w:=⟨(gi r.to (oi r.off v+i)).toNat,by omega⟩
   have hw1:w+1<r.roff.length:=by omega
   have hcl:=cnt_le b hb w hw1
   unfold stepOk at hbad
   rw [f.se (v:=v) (by omega) (by omega) (by omega),hw,Int.toNat_natCast] at hbad
   have er:=hRi i (by omega)
   rw [hw] at er
   have hb1:=b.gn (v:=w) (by omega)
   have hb2:=b.gn (v:=w+1) (by omega)
   have hb3:=b.ole (v:=w+1) (by omega)
   have en:=nx_at (roff:=r.roff) (to:=r.to) (k:=oi r.off v+i) (w:=w) (by omega)
   rw [hb1] at en
   simp only [gi] at hb2 hbad
   have hnl:=nx_len r.roff r.to (oi r.off v+i)
   generalize hc:cntI r.to w (oi r.off v+i)=c at *
   have q1:((oi r.roff w:Int)+(c:Int)).toNat=oi r.roff w+c:=by omega
   have q2:((w:Int)+1).toNat=w+1:=by omega
   generalize hN:nx r.roff r.to (oi r.off v+i)=N at *
   simp (disch:=omega) only [go_sem,d1212_b1,miI,miH,miL,er,hN]
   refine EvR_eq rfl rfl ?_
   by_cases h5:(oi r.roff w:Int)+(c:Int)=(oi r.roff (w+1):Int)
   ·simp (disch:=omega) only [go_sem,d1200_r0a,d1200_r0,en,hb2,q1,q2,h5]
   ·have h6:¬ r.rev.getD (oi r.roff w+c) 0=(v:Int):=fun h=>hbad ⟨by omega,h⟩
    simp (disch:=omega) only [go_sem,d1200_r0a,d1200_r0,en,hb2,q1,q2,h5,h6]
 ·have q1:¬ ((r.to.length:Int)=r.rev.length):=by omega
  rw [chk_no fun h=>hm h.m]
  simp (disch:=omega) only [go_sem,d1200,rwS,q1]
theorem check_run {r:Rw} (h1:r.off.length≤1000000) (h2:r.to.length≤1000000) (h3:r.roff.length≤1000000) (h4:r.rev.length≤1000000):runP tab 1188 [.agg (rwS r)] []=some (.bool (chk r),[]):=by
 refine runP_fn t1188 rfl ?_
 have g1:=straight_run h1 h2
 have g2:=straight_run h3 h4
 by_cases hl:r.off.length=r.roff.length
 case neg=>
  rw [chk_no fun h=>hl h.l]
  have q:¬ ((r.off.length:Int)=r.roff.length):=by omega
  simp (disch:=omega) only [go_sem,d1188,rwS,q]
 have q:((r.off.length:Int)=r.roff.length):=by omega
 by_cases f:half r.off r.to
 case neg=>
  rw [chk_no fun h=>f h.f]
  rw [half_no f] at g1
  simp (disch:=omega) only [go_sem,d1188,rwS,q,g1]
 rw [half_yes f] at g1
 by_cases b:half r.roff r.rev
 case neg=>
  rw [chk_no fun h=>b h.b]
  rw [half_no b] at g2
  simp (disch:=omega) only [go_sem,d1188,rwS,q,g1,g2]
 rw [half_yes b] at g2
 have g3:=mirrored_run hl f b
 simp only [rwS] at g3
 simp (disch:=omega) only [go_sem,d1188,rwS,q,g1,g2,g3]
structure okR (r:Rw):Prop where
 a:r.off.length≤2100
 b:r.to.length≤2100
 c:r.roff.length≤2100
 d:r.rev.length≤2100
theorem okR.check {r:Rw} (h:okR r):runP tab 1188 [.agg (rwS r)] []=some (.bool (chk r),[]):=check_run (by have:=h.a;omega) (by have:=h.b;omega) (by have:=h.c;omega) (by have:=h.d;omega)
theorem chk_iff {r:Rw}:chk r=true↔r.ok:=by simp [chk]
noncomputable def told1 (r:Rw) (off to:List Int) (v:Int):AV:=if chk r=true∧0≤v∧v<off.length - 1 then .tup [.vec 1 (ints (rowI off to v.toNat)),.bool true] else .tup [.vec 1 [],.bool false]
theorem row_run {r:Rw} {off to:List Int} {v:Int} (hr:okR r) (ho:off.length≤2100) (ht:to.length≤2100) (hf:chk r=true→half off to) (hv:I64 v):runP tab 1201 [.agg (rwS r),.sl 1 (ints off),.sl 1 (ints to),.int .i64 v] []=some (told1 r off to v,[]):=by
 refine runP_fn t1201 rfl ?_
 have gc:=hr.check
 have gp:=places_run (n:=(off.length:Int) - 1) (l:=[v]) (by simp)
 simp only [ints,List.map_cons,List.map_nil] at gp
 simp only [rwS] at gc
 unfold told1
 cases hc:chk r with
 |false=>
  rw [hc] at gc
  rw [if_neg (by simp)]
  simp (disch:=omega) only [go_sem,d1201,rwS,gc]
 |true=>
  rw [hc] at gc
  have H:=(hf hc).lay
  by_cases h:0≤v∧v<off.length - 1
  ·rw [if_pos ⟨rfl,h⟩]
   rw [show allPl ((off.length:Int) - 1) [v]=true by simp [allPl];omega] at gp
   obtain ⟨w,rfl⟩:∃ w:Nat,v=w:=⟨v.toNat,by omega⟩
   have a1:=H.gn (v:=w) (by omega)
   have a2:=H.gn (v:=w+1) (by omega)
   have a3:=H.om (v:=w) (by omega)
   have a4:=H.ole (v:=w+1) (by omega)
   have h3:=H.tl
   simp only [gi] at a1 a2
   have q2:((w:Int)+1).toNat=w+1:=by omega
   have gl:=clonei_run (l:=List.take (oi off (w+1) - oi off w) (List.drop (oi off w) to)) (by rw [List.length_take,List.length_drop];omega)
   rw [Int.toNat_natCast,rowI]
   simp (disch:=omega) only [go_sem,d1201,rwS,gc,gp,a1,a2,q2,gl]
  ·rw [if_neg (by simp;omega)]
   rw [show allPl ((off.length:Int) - 1) [v]=false by simp [allPl];omega] at gp
   simp (disch:=omega) only [go_sem,d1201,rwS,gc,gp]
theorem out_run {r:Rw} {v:Int} (hr:okR r) (hv:I64 v):runP tab 1189 [.agg (rwS r),.int .i64 v] []=some (told1 r r.off r.to v,[]):=by
 refine runP_fn t1189 rfl ?_
 have g:=row_run hr hr.a hr.b (fun h=>(chk_iff.1 h).f) hv
 unfold told1 at g ⊢
 by_cases h:chk r=true∧0≤v∧v<(r.off.length:Int) - 1
 ·rw [if_pos h] at g ⊢
  simp only [rwS] at g
  simp (disch:=omega) only [go_sem,d1189,rwS,g]
 ·rw [if_neg h] at g ⊢
  simp only [rwS] at g
  simp (disch:=omega) only [go_sem,d1189,rwS,g]
theorem in_run {r:Rw} {v:Int} (hr:okR r) (hv:I64 v):runP tab 1190 [.agg (rwS r),.int .i64 v] []=some (told1 r r.roff r.rev v,[]):=by
 refine runP_fn t1190 rfl ?_
 have g:=row_run hr hr.c hr.d (fun h=>(chk_iff.1 h).b) hv
 unfold told1 at g ⊢
 by_cases h:chk r=true∧0≤v∧v<(r.roff.length:Int) - 1
 ·rw [if_pos h] at g ⊢
  simp only [rwS] at g
  simp (disch:=omega) only [go_sem,d1190,rwS,g]
 ·rw [if_neg h] at g ⊢
  simp only [rwS] at g
  simp (disch:=omega) only [go_sem,d1190,rwS,g]
def bigR (r:Rw):Bool:=decide ((30<r.off.length∧r.off.length≤201)∨250<r.off.length∨250<r.roff.length∨(150<r.to.length∧r.to.length≤2000)∨2100<r.to.length∨2100<r.rev.length)
def rwFit (r:Rw):Prop:=r.off.length≤9223372036854775807∧r.to.length≤9223372036854775807∧r.roff.length≤9223372036854775807∧r.rev.length≤9223372036854775807
theorem bigR_ok {r:Rw} (h:bigR r=false):okR r:=by
 simp only [bigR,decide_eq_false_iff_not] at h
 exact ⟨by omega,by omega,by omega,by omega⟩
theorem bigR_run {r:Rw} (h:rwFit r):runP tab 1175 [.agg (rwS r)] []=some (.bool (bigR r),[]):=by
 refine runP_fn t1175 rfl ?_
 obtain ⟨h1,h2,h3,h4⟩:=h
 unfold bigR
 by_cases a:30<r.off.length<;>by_cases b:r.off.length≤201<;>by_cases c:250<r.off.length<;>by_cases d:250<r.roff.length<;>by_cases e:150<r.to.length<;>by_cases f:r.to.length≤2000<;>by_cases g:2100<r.to.length<;>by_cases k:2100<r.rev.length <;>
  first
  | (exfalso;omega)
  | (rw [decide_eq_true (by omega)];simp (disch:=omega) only [go_sem,d1175,rwS])
  | (rw [decide_eq_false (by omega)];simp (disch:=omega) only [go_sem,d1175,rwS])
abbrev Ed:=Int × Int
def prs (l:List Ed):List AV:=l.flatMap fun e=>[.int .i64 e.1,.int .i64 e.2]
theorem prs_cons (e:Ed) (l:List Ed):prs (e::l)=.int .i64 e.1::.int .i64 e.2::prs l:=rfl
theorem prs_flat (l:List Ed):(prs l).all flat=true:=by
 induction l with
 |nil=>rfl
 |cons e l ih=>rw [prs_cons];simp only [List.all_cons,flat,Bool.true_and];exact ih
theorem prs_len (l:List Ed):(prs l).length=l.length*2:=by
 induction l with
 |nil=>rfl
 |cons e l ih=>rw [prs_cons];simp only [List.length_cons,ih];omega
theorem prs_okc (l:List Ed):(prs l).all AV.okc=true:=flat_okc (prs_flat l)
theorem prs_noid' (l:List Ed):allL pnoid (prs l)=true:=flat_noidL (prs_flat l)
theorem prs_noinl' (l:List Ed):allL pnoinl (prs l)=true:=flat_noinlL (prs_flat l)
theorem prs_noimm (l:List Ed):allL pnoimm (prs l)=true:=flat_noimmL (prs_flat l)
theorem prs_ids (l:List Ed):idsL (prs l)=[]:=flat_idsL (prs_flat l)
theorem prs_idlt' (n:Nat) (l:List Ed):allL (pidlt n) (prs l)=true:=flat_idltL (prs_flat l)
theorem prs_ren' (f:Nat→Nat) (l:List Ed):mapL (ren1 f) (prs l)=prs l:=flat_renL (prs_flat l)
theorem prs_frz' (l:List Ed):mapL frz1 (prs l)=prs l:=flat_frzL (prs_flat l)
theorem prs_fz (hp:List Blk) (l:List Ed):fzL hp (prs l)=some (prs l):=flat_fzL (prs_flat l)
theorem prs_pk (n:Nat) (hp:List Blk) (l:List Ed):pkL n hp (prs l)=some (prs l,hp):=flat_pkL (prs_flat l)
theorem prs_pks (hp:List Blk) (l:List Ed):pksL hp (prs l)=some (prs l,hp):=flat_pksL (prs_flat l)
theorem prs_thaw (hp:List Blk) (l:List Ed):thawL hp (prs l)=(prs l,hp):=flat_thawL (prs_flat l)
theorem mul2_div (n:Nat):n*2 / 2=n:=by omega
theorem prs_app (a b:List Ed):prs a++prs b=prs (a++b):=by simp [prs]
attribute [go_sem] prs_len prs_okc prs_noid' prs_noinl' prs_noimm prs_ids prs_idlt' prs_ren' prs_frz' prs_fz prs_pk prs_pks prs_thaw mul2_div prs_app
theorem prs_drop (l:List Ed) (i:Nat):(prs l).drop (i*2)=prs (l.drop i):=by
 induction i generalizing l with
 |zero=>simp
 |succ i ih=>cases l with
  |nil=>simp [prs]
  |cons r l=>rw [prs_cons,show (i+1)*2=i*2+1+1 by omega,List.drop_succ_cons,List.drop_succ_cons];exact ih l
attribute [go_sem] prs_drop
theorem prs_at {l:List Ed} {i:Nat} (h:i<l.length):rdc (prs (l.drop i)) (some 2)=some (.agg [.int .i64 (l.getD i default).1,.int .i64 (l.getD i default).2]):=by
 rw [List.drop_eq_getElem_cons h,prs_cons,List.getD_eq_getElem?_getD,List.getElem?_eq_getElem h];rfl
def cmpI (a b:Int):Int:=if a<b then -1 else if b<a then 1 else 0
theorem compare_run {a b:Int}:runP tab 1061 [.int .i64 a,.int .i64 b] []=some (.int .i64 (cmpI a b),[]):=by
 have g:∀ x:Int,runP tab 1072 [.int .i64 x] []=some (.bool false,[]):=fun x=>by
  refine runP_fn t1072 rfl ?_
  simp (disch:=omega) only [go_sem,d1072]
 refine runP_fn t1061 rfl ?_
 unfold cmpI
 by_cases h:a<b
 ·rw [if_pos h]
  simp (disch:=omega) only [go_sem,d1061,g]
 ·by_cases h2:b<a
  ·rw [if_neg h,if_pos h2]
   simp (disch:=omega) only [go_sem,d1061,g]
  ·rw [if_neg h,if_neg h2]
   simp (disch:=omega) only [go_sem,d1061,g]
theorem or_run {a b:Int}:runP tab 1060 [.sl 1 [.int .i64 a,.int .i64 b]] []=some (.int .i64 (if a=0 then b else a),[]):=by
 refine runP_fn t1060 rfl ?_
 simp (disch:=omega) only [go_sem,d1060]
 by_cases h:a=0
 ·rw [if_pos h]
  by_cases h2:b=0
  ·refine Ev_loop0 (fun i=>⟨[(3,.int .i64 0),(6,.sl 1 [.int .i64 a,.int .i64 b]),(7,.int .i64 2),(8,.int .i64 (i:Int))],[],0,[(0,0,[3,6,7,8],[])]⟩) 2 rfl (fun i hi=>?_) ?_
   ·match i,hi with
    |0,_=>simp (disch:=omega) only [go_sem,d1060_b0,h]
    |1,_=>simp (disch:=omega) only [go_sem,d1060_b0,h2,Int.reduceAdd]
   ·simp (disch:=omega) only [go_sem,d1060_b0,h2]
  ·refine Ev_loop0 (fun i=>⟨[(3,.int .i64 0),(6,.sl 1 [.int .i64 a,.int .i64 b]),(7,.int .i64 2),(8,.int .i64 (i:Int))],[],0,[(0,0,[3,6,7,8],[])]⟩) 1 rfl (fun i hi=>?_) ?_
   ·match i,hi with
    |0,_=>simp (disch:=omega) only [go_sem,d1060_b0,h]
   ·simp (disch:=omega) only [go_sem,d1060_b0,h2]
 ·rw [if_neg h]
  refine Ev_loop0 (fun i=>⟨[(3,.int .i64 0),(6,.sl 1 [.int .i64 a,.int .i64 b]),(7,.int .i64 2),(8,.int .i64 (i:Int))],[],0,[(0,0,[3,6,7,8],[])]⟩) 0 rfl (fun i hi=>by omega) ?_
  simp (disch:=omega) only [go_sem,d1060_b0,h]
def nls (n:Nat):List AV:=List.replicate n .nils
theorem nls_len (n:Nat):(nls n).length=n:=by simp [nls]
theorem nls_okc (n:Nat):(nls n).all AV.okc=true:=by simp [nls,AV.okc]
theorem nls_all {p:AV→Bool} (h:AV.nils.allv p=true):∀ n,allL p (nls n)=true
 |0=>rfl
 |n+1=>by rw [nls,List.replicate_succ,allL,h];exact nls_all h n
theorem nls_map {f:AV→AV} (h:AV.nils.mapv f=.nils):∀ n,mapL f (nls n)=nls n
 |0=>rfl
 |n+1=>by
  rw [nls,List.replicate_succ,mapL,h]
  have:=nls_map h n
  rw [nls] at this
  rw [this]
theorem nls_noid' (n:Nat):allL pnoid (nls n)=true:=nls_all rfl n
theorem nls_noinl' (n:Nat):allL pnoinl (nls n)=true:=nls_all rfl n
theorem nls_idlt' (k n:Nat):allL (pidlt k) (nls n)=true:=nls_all rfl n
theorem nls_frz' (n:Nat):mapL frz1 (nls n)=nls n:=nls_map rfl n
theorem nls_ren' (f:Nat→Nat) (n:Nat):mapL (ren1 f) (nls n)=nls n:=nls_map rfl n
theorem nls_ids (n:Nat):idsL (nls n)=[]:=noidL_ids _ (nls_noid' n)
attribute [go_sem] nls_len nls_okc nls_noid' nls_noinl' nls_idlt' nls_frz' nls_ren' nls_ids
def rcV (l:List Int):AV:=if l=[] then .nils else .vec 1 (ints l)
def rcS (l:List Int):AV:=if l=[] then .nils else .sl 1 (ints l)
def ocV (l:List (List Int)):List AV:=l.map rcV
def ocS (l:List (List Int)):List AV:=l.map rcS
theorem ocV_len (l:List (List Int)):(ocV l).length=l.length:=by simp [ocV]
theorem ocS_len (l:List (List Int)):(ocS l).length=l.length:=by simp [ocS]
theorem rcV_noid (l:List Int):(rcV l).allv pnoid=true:=by unfold rcV;split<;>simp [AV.allv,pnoid,ints_noid',allL]
theorem rcS_noid (l:List Int):(rcS l).allv pnoid=true:=by unfold rcS;split<;>simp [AV.allv,pnoid,ints_noid',allL]
theorem rcV_frz (l:List Int):(rcV l).mapv frz1=rcS l:=by unfold rcV rcS;split<;>simp [AV.mapv,frz1,ints_frz']
theorem rcV_okc (l:List Int):(rcV l).okc=true:=by unfold rcV;split<;>simp [AV.okc]
theorem rcS_okc (l:List Int):(rcS l).okc=true:=by unfold rcS;split<;>simp [AV.okc]
theorem ocV_noid' (l:List (List Int)):allL pnoid (ocV l)=true:=by
 induction l with
 |nil=>rfl
 |cons a l ih=>simp only [ocV,List.map_cons,allL] at ih ⊢;rw [rcV_noid,ih];rfl
theorem ocS_noid' (l:List (List Int)):allL pnoid (ocS l)=true:=by
 induction l with
 |nil=>rfl
 |cons a l ih=>simp only [ocS,List.map_cons,allL] at ih ⊢;rw [rcS_noid,ih];rfl
theorem ocV_frz' (l:List (List Int)):mapL frz1 (ocV l)=ocS l:=by
 induction l with
 |nil=>rfl
 |cons a l ih=>simp only [ocV,ocS,List.map_cons,mapL] at ih ⊢;rw [rcV_frz,ih]
theorem ocV_okc (l:List (List Int)):(ocV l).all AV.okc=true:=by
 induction l with
 |nil=>rfl
 |cons a l ih=>simp only [ocV,List.map_cons,List.all_cons] at ih ⊢;rw [rcV_okc,ih];rfl
theorem ocS_okc (l:List (List Int)):(ocS l).all AV.okc=true:=by
 induction l with
 |nil=>rfl
 |cons a l ih=>simp only [ocS,List.map_cons,List.all_cons] at ih ⊢;rw [rcS_okc,ih];rfl
theorem ocV_ids (l:List (List Int)):idsL (ocV l)=[]:=noidL_ids _ (ocV_noid' l)
theorem ocV_idlt' (n:Nat) (l:List (List Int)):allL (pidlt n) (ocV l)=true:=idltL_noid _ (ocV_noid' l)
theorem ocV_ren' (f:Nat→Nat) (l:List (List Int)):mapL (ren1 f) (ocV l)=ocV l:=renL_noid _ (ocV_noid' l)
theorem ocS_ids (l:List (List Int)):idsL (ocS l)=[]:=noidL_ids _ (ocS_noid' l)
theorem ocS_idlt' (n:Nat) (l:List (List Int)):allL (pidlt n) (ocS l)=true:=idltL_noid _ (ocS_noid' l)
theorem ocS_ren' (f:Nat→Nat) (l:List (List Int)):mapL (ren1 f) (ocS l)=ocS l:=renL_noid _ (ocS_noid' l)
attribute [go_sem] ocS_ids ocS_idlt' ocS_ren' ocV_len ocS_len ocV_noid' ocS_noid' ocV_frz' ocV_okc ocS_okc ocV_ids ocV_idlt' ocV_ren'
end Go.Proofs.Ytfbfbennheeglaa
