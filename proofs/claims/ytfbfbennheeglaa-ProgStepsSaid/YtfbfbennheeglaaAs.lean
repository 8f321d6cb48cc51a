import Derived.Test.YtfbfbennheeglaaRq
import Derived.Sort.AssemblyPlain
namespace Go.Proofs.Ytfbfbennheeglaa
set_option linter.unusedSimpArgs false
set_option linter.unusedVariables false
open Go.Sort (SWO PermIn SortedIn)
structure Ordr {α:Type} (lt:α→α→Bool):Prop where
 irr:∀ x,lt x x=false
 tr:∀ x y z,lt x y=true→lt y z=true→lt x z=true
 tri:∀ x y,lt x y=false→lt y x=false→x=y
section
variable {α:Type} {lt:α→α→Bool}
theorem Ordr.swo (O:Ordr lt):SWO lt:=by
 refine ⟨O.irr,O.tr,fun x y z h1 h2=>?_⟩
 cases h:lt x z with
 |false=>rfl
 |true=>
  cases h3:lt y x with
  |true=>rw [O.tr _ _ _ h3 h] at h2;cases h2
  |false=>rw [O.tri _ _ h1 h3] at h;rw [h] at h2;cases h2
theorem Ordr.asym (O:Ordr lt) {x y:α} (h:lt x y=true):lt y x=false:=by
 cases h2:lt y x with
 |false=>rfl
 |true=>have:=O.tr _ _ _ h h2;rw [O.irr] at this;cases this
def asc (lt:α→α→Bool) (l:List α):Prop:=l.Pairwise fun x y=>lt x y=true
theorem asc_app {a b:List α}:asc lt (a++b)↔asc lt a∧asc lt b∧∀ x∈a,∀ y∈b,lt x y=true:=List.pairwise_append
def srtd (lt:α→α→Bool) (l:List α):Prop:=l.Pairwise fun x y=>lt y x=false
def sorted (lt:α→α→Bool) (l:List α):List α:=l.mergeSort fun x y=>!lt y x
theorem sorted_perm (l:List α):(sorted lt l).Perm l:=List.mergeSort_perm l _
theorem sorted_len (l:List α):(sorted lt l).length=l.length:=(sorted_perm l).length_eq
theorem sorted_srtd (O:Ordr lt) (l:List α):srtd lt (sorted lt l):=by
 have:=List.pairwise_mergeSort (le:=fun x y:α=>!lt y x) (fun x y z h1 h2=>by
  simp only [Bool.not_eq_true'] at *
  exact O.swo.ntrans _ _ _ h2 h1) (fun x y=>by
  cases h:lt y x with
  |false=>simp
  |true=>rw [O.asym h];rfl) l
 exact this.imp fun h=>by simpa using h
theorem sorted_uni [Inhabited α] (O:Ordr lt) {d d':Array α} (h1:PermIn 0 d.size d d') (h2:SortedIn lt 0 d.size d'):d'.toList=sorted lt d.toList:=
 Go.Sort.sorted_unique_holds O.swo O.tri d d' h1 h2
theorem getD_mem' [Inhabited α] {l:List α} {i:Nat} (h:i<l.length):l.getD i default∈l:=by
 rw [List.getD_eq_getElem?_getD,List.getElem?_eq_getElem h];exact List.getElem_mem _
variable [Inhabited α] [DecidableEq α]
def unq (l:List α):Nat→List α
 |0=>[]
 |k+1=>if k=0∨l.getD k default≠l.getD (k - 1) default then unq l k++[l.getD k default] else unq l k
theorem unq_spec (O:Ordr lt) {l:List α} (h:srtd lt l):∀ {k:Nat},k≤l.length→asc lt (unq l k)∧(∀ x,x∈unq l k↔x∈l.take k)∧(∀ x∈unq l k,x=l.getD (k - 1) default∨lt x (l.getD (k - 1) default)=true)
 |0,_=>⟨by simp [unq,asc],by simp [unq],by simp [unq]⟩
 |k+1,hk=>by
  obtain ⟨h1,h2,h3⟩:=unq_spec O h (k:=k) (by omega)
  have et:l.take (k+1)=l.take k++[l.getD k default]:=take_snoc default (by omega)
  have hs:∀ i,i<k→lt (l.getD k default) (l.getD i default)=false:=fun i hi=>by
   have:=List.pairwise_iff_getElem.1 h i k (by omega) (by omega) hi
   rw [List.getD_eq_getElem?_getD,List.getD_eq_getElem?_getD,List.getElem?_eq_getElem (by omega),List.getElem?_eq_getElem (by omega)]
   exact this
  simp only [unq,Nat.add_sub_cancel]
  by_cases hc:k=0∨l.getD k default≠l.getD (k - 1) default
  ·rw [if_pos hc]
   have hlt:∀ x∈unq l k,lt x (l.getD k default)=true:=fun x hx=>by
    by_cases hk0:k=0
    ·subst hk0;simp [unq] at hx
    ·have hne:=hc.resolve_left hk0
     have h4:=hs (k - 1) (by omega)
     have h5:lt (l.getD (k - 1) default) (l.getD k default)=true:=by
      cases h6:lt (l.getD (k - 1) default) (l.getD k default) with
      |true=>rfl
      |false=>exact absurd (O.tri _ _ h4 h6) hne
     rcases h3 x hx with rfl | h7
     ·exact h5
     ·exact O.tr _ _ _ h7 h5
   refine ⟨asc_app.2 ⟨h1,by simp [asc],fun x hx y hy=>?_⟩,fun x=>?_,fun x hx=>?_⟩
   ·simp only [List.mem_singleton] at hy;subst hy;exact hlt x hx
   ·rw [et,List.mem_append,List.mem_append,h2]
   ·rcases List.mem_append.1 hx with hx | hx
    ·exact .inr (hlt x hx)
    ·simp only [List.mem_singleton] at hx;exact .inl hx
  ·rw [if_neg hc]
   have hk0:k≠0:=fun h=>hc (.inl h)
   have heq:l.getD k default=l.getD (k - 1) default:=Classical.not_not.1 fun h=>hc (.inr h)
   refine ⟨h1,fun x=>?_,fun x hx=>by rw [heq];exact h3 x hx⟩
   rw [et,List.mem_append,h2]
   constructor
   ·exact .inl
   ·rintro (h | h)
    ·exact h
    ·simp only [List.mem_singleton] at h
     rw [h,heq]
     rw [List.mem_iff_getElem?]
     exact ⟨k - 1,by rw [List.getElem?_take,if_pos (by omega),List.getD_eq_getElem?_getD,List.getElem?_eq_getElem (show k - 1<l.length by omega)];rfl⟩
theorem unq_len (l:List α):∀ k,(unq l k).length≤k
 |0=>by simp [unq]
 |k+1=>by
  have:=unq_len l k
  simp only [unq];split
  ·simp;omega
  ·omega
def nrmL (lt:α→α→Bool) (l:List α):List α:=unq (sorted lt l) l.length
theorem nrm_asc (O:Ordr lt) (l:List α):asc lt (nrmL lt l):=(unq_spec O (sorted_srtd O l) (by rw [sorted_len];exact Nat.le_refl _)).1
theorem nrm_mem (O:Ordr lt) (l:List α) (x:α):x∈nrmL lt l↔x∈l:=by
 rw [nrmL,(unq_spec O (sorted_srtd O l) (by rw [sorted_len];exact Nat.le_refl _)).2.1,List.take_of_length_le (by rw [sorted_len];exact Nat.le_refl _)]
 exact (sorted_perm l).mem_iff
theorem nrm_len (l:List α):(nrmL lt l).length≤l.length:=unq_len _ _
end
end Go.Proofs.Ytfbfbennheeglaa
