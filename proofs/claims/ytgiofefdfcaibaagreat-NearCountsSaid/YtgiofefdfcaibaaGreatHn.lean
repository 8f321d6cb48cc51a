import Derived.Test.YtgiofefdfcaibaaGreatT09z
import Derived.Test.YtgiofefdfcaibaaGreatRs
namespace Go.Proofs.YtgiofefdfcaibaaGreat
set_option linter.unusedSimpArgs false
set_option linter.unusedVariables false
set_option maxHeartbeats 4000000
set_option maxRecDepth 100000
theorem ints_at (a b:List Int) (hl:a.length=b.length):(∀ i,i<a.length→a.getD i 0=b.getD i 0)∧(a == b)=true∨∃ n,n<a.length∧(∀ i,i<n→a.getD i 0=b.getD i 0)∧a.getD n 0≠b.getD n 0∧(a == b)=false:=by
 induction a generalizing b with
 |nil=>cases b with | nil=>exact .inl ⟨by simp,rfl⟩ | cons y b=>simp at hl
 |cons x a ih=>cases b with
  |nil=>simp at hl
  |cons y b=>
   by_cases hxy:x=y
   ·rcases ih b (by simpa using hl) with ⟨h1,h2⟩ | ⟨n,h1,h2,h3,h4⟩
    ·refine .inl ⟨fun i hi=>?_,by simpa [hxy] using h2⟩
     cases i with | zero=>simpa using hxy | succ i=>simpa using h1 i (by simpa using hi)
    ·refine .inr ⟨n+1,by simpa using h1,fun i hi=>?_,by simpa using h3,by simpa [hxy] using h4⟩
     cases i with | zero=>simpa using hxy | succ i=>simpa using h2 i (by omega)
   ·exact .inr ⟨0,by simp,by omega,by simpa using hxy,by simp [hxy]⟩
theorem ints_run {a b:List Int} (ha:a.length<1000000) (hb:b.length<1000000):runP tab 1016 [.sl 1 (ints a),.sl 1 (ints b)] []=some (.bool (a == b),[]):=by
 refine runP_fn t1016 rfl ?_
 by_cases hl:a.length=b.length
 ·simp (disch:=omega) only [go_sem,d1016]
  rcases ints_at a b hl with ⟨h1,h2⟩ | ⟨k,h0,h1,h2,h3⟩
  ·refine Ev_loop0 (fun i=>⟨[(0,.sl 1 (ints a)),(1,.sl 1 (ints b)),(5,.int .i64 (i:Int))],[],0,[(0,0,[0,1,5],[])]⟩) a.length rfl (fun i hi=>?_) ?_
   ·have:=h1 i (by omega)
    simp (disch:=omega) only [go_sem,d1016_b0]
   ·simp (disch:=omega) only [go_sem,d1016_b0,h2]
  ·refine Ev_loop0 (fun i=>⟨[(0,.sl 1 (ints a)),(1,.sl 1 (ints b)),(5,.int .i64 (i:Int))],[],0,[(0,0,[0,1,5],[])]⟩) k rfl (fun i hi=>?_) ?_
   ·have:=h1 i (by omega)
    simp (disch:=omega) only [go_sem,d1016_b0]
   ·simp (disch:=omega) only [go_sem,d1016_b0,h2,h3]
 ·have h:(a == b)=false:=by rw [←Bool.not_eq_true,beq_iff_eq];rintro rfl;exact hl rfl
  simp (disch:=omega) only [go_sem,d1016,h]
theorem owni_run {l:List Int} (h:l.length≤1000000):runP tab 1022 [.sl 1 (ints l)] []=some (.vec 1 (ints l),[]):=by
 refine runP_fn t1022 rfl ?_
 simp (disch:=omega) only [go_sem,d1022]
theorem clonei_run {l:List Int} (h:l.length≤1000000):runP tab 1024 [.sl 1 (ints l)] []=some (.vec 1 (ints l),[]):=by
 rw [runP_orc t1024]
 have h2:noinlL (ints l)=true:=ints_noinl l
 have h3:noidL (ints l)=true:=ints_noid l
 simp only [cloneG,true_or,h2,h3,true_and,ints_length,Nat.div_one,ints_okc]
 rw [if_pos (by constructor<;>first | trivial | omega)]
theorem first_ix' (p:Nat→Prop) (n:Nat):(∀ i,i<n→p i)∨∃ m,m<n∧(∀ i,i<m→p i)∧¬ p m:=by
 induction n with
 |zero=>exact .inl (by intro i h;omega)
 |succ n ih=>
  rcases ih with h | ⟨m,h1,h2,h3⟩
  ·by_cases hn:p n
   ·exact .inl fun i hi=>by
     by_cases e:i=n
     ·subst e;exact hn
     ·exact h i (by omega)
   ·exact .inr ⟨n,by omega,h,hn⟩
  ·exact .inr ⟨m,by omega,h2,h3⟩
theorem getD_memI {l:List Int} {i:Nat} (h:i<l.length):l.getD i 0∈l:=by
 rw [List.getD_eq_getElem?_getD,List.getElem?_eq_getElem h];exact List.getElem_mem _
theorem memI {l:List Int} {x:Int}:x∈l↔∃ i,i<l.length∧l.getD i 0=x:=by
 constructor
 ·intro h
  obtain ⟨i,hi,e⟩:=List.getElem_of_mem h
  exact ⟨i,hi,by rw [List.getD_eq_getElem?_getD,List.getElem?_eq_getElem hi,e];rfl⟩
 ·rintro ⟨i,hi,rfl⟩;exact getD_memI hi
theorem less_run {a b:Int}:runP tab 1219 [.int .i64 a,.int .i64 b] []=some (.bool (decide (a<b)),[]):=by
 have g:∀ x:Int,runP tab 1072 [.int .i64 x] []=some (.bool false,[]):=fun x=>by
  refine runP_fn t1072 rfl ?_
  simp (disch:=omega) only [go_sem,d1072]
 refine runP_fn t1219 rfl ?_
 by_cases h:a<b
 ·simp (disch:=omega) only [go_sem,d1219,g]
 ·simp (disch:=omega) only [go_sem,d1219,g]
end Go.Proofs.YtgiofefdfcaibaaGreat
