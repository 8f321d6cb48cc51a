import Derived.Test.YtgiofefdfcaibaaGreatAs
import Derived.Test.YtgiofefdfcaibaaGreatKz
namespace Go.Proofs.YtgiofefdfcaibaaGreat
set_option linter.unusedSimpArgs false
set_option linter.unusedVariables false
open Go.Sort (SWO size_swp swp_get)
section
variable {α:Type} [Inhabited α] (lt:α→α→Bool)
def kid (n:Nat) (d:Array α) (i:Nat):Nat:=if 2*i+2<n∧lt d[2*i+2]! d[2*i+1]! = true then 2*i+2 else 2*i+1
theorem kid_cases (n:Nat) (d:Array α) (i:Nat) (h:2*i+1<n):(kid lt n d i=2*i+1∨kid lt n d i=2*i+2)∧kid lt n d i<n:=by
 unfold kid;split<;>omega
def dn (n:Nat) (d:Array α) (i:Nat):Array α × Nat:=
 if 2*i+1<n then (if lt d[kid lt n d i]! d[i]! = true then dn n (Go.Sort.swp d i (kid lt n d i)) (kid lt n d i) else (d,i)) else (d,i)
termination_by n - i
decreasing_by
 rename_i h1 h2
 have:=(kid_cases lt n d i h1)
 omega
def Hp (lo n:Nat) (d:Array α):Prop:=∀ k,k<n→0<k→lo≤(k - 1) / 2→lt d[k]! d[(k - 1) / 2]! = false
variable {lt}
theorem dn_size (n:Nat):∀ (d:Array α) (i:Nat),(dn lt n d i).1.size=d.size:=by
 intro d i
 fun_induction dn lt n d i with
 |case1 d i h1 h2 ih=>rw [ih,size_swp]
 |case2=>rfl
 |case3=>rfl
theorem hswp_perm (d:Array α) {i j:Nat} (hi:i<d.size) (hj:j<d.size):(Go.Sort.swp d i j).toList.Perm d.toList:=by
 have h:=List.set_set_perm (as:=d.toList) (i:=i) (j:=j) (by simpa using hi) (by simpa using hj)
 unfold Go.Sort.swp
 simpa [getElem!_pos,hi,hj] using h
theorem dn_perm {n:Nat} {d:Array α} (hn:n≤d.size) (i:Nat):(dn lt n d i).1.toList.Perm d.toList:=by
 fun_induction dn lt n d i with
 |case1 d i h1 h2 ih=>
  have:=kid_cases lt n d i h1
  exact (ih (by rw [size_swp];exact hn)).trans (hswp_perm d (by omega) (by omega))
 |case2=>exact .refl _
 |case3=>exact .refl _
theorem dn_out {n:Nat} {d:Array α} (hn:n≤d.size) (i:Nat) {k:Nat} (hk:n≤k):(dn lt n d i).1[k]! = d[k]!:=by
 fun_induction dn lt n d i with
 |case1 d i h1 h2 ih=>
  have:=kid_cases lt n d i h1
  rw [ih (by rw [size_swp];exact hn),swp_get d (by omega) (by omega),if_neg (by omega),if_neg (by omega)]
 |case2=>rfl
 |case3=>rfl
theorem kid_least (S:SWO lt) {n:Nat} {d:Array α} {i:Nat} (h:2*i+1<n) {k:Nat} (hk:k<n) (hk0:0<k) (hp:(k - 1) / 2=i):lt d[k]! d[kid lt n d i]! = false:=by
 have hk':k=2*i+1∨k=2*i+2:=by omega
 unfold kid
 split
 ·rename_i hc
  rcases hk' with rfl | rfl
  ·cases h2:lt d[2*i+1]! d[2*i+2]! with
   |false=>rfl
   |true=>have:=S.trans _ _ _ hc.2 h2;rw [S.irrefl] at this;cases this
  ·exact S.irrefl _
 ·rename_i hc
  rcases hk' with rfl | rfl
  ·exact S.irrefl _
  ·cases h2:lt d[2*i+2]! d[2*i+1]! with
   |false=>rfl
   |true=>exact absurd ⟨hk,h2⟩ hc
theorem swo_asym {β:Type} {lt:β→β→Bool} (S:SWO lt) {x y:β} (h:lt x y=true):lt y x=false:=by
 cases h2:lt y x with
 |false=>rfl
 |true=>have:=S.trans _ _ _ h h2;rw [S.irrefl] at this;cases this
theorem dn_hp (S:SWO lt) {lo n:Nat} {d:Array α} {i:Nat} (hn:n≤d.size) (hlo:lo≤i) (h1:∀ k,k<n→0<k→lo≤(k - 1) / 2→(k - 1) / 2≠i→lt d[k]! d[(k - 1) / 2]! = false)
  (h2:∀ k,k<n→0<k→(k - 1) / 2=i→0<i→lo≤(i - 1) / 2→lt d[k]! d[(i - 1) / 2]! = false):Hp lt lo n (dn lt n d i).1:=by
 fun_induction dn lt n d i with
 |case1 d i hi hl ih=>
  have hc:=kid_cases lt n d i hi
  generalize hcd:kid lt n d i=c at *
  have hci:(c - 1) / 2=i:=by omega
  have hg:∀ k,(Go.Sort.swp d i c)[k]! = if k=c then d[i]! else if k=i then d[c]! else d[k]!:=fun k=>swp_get d (by omega) (by omega) k
  refine ih (by rw [size_swp];exact hn) (by omega) (fun k hk hk0 hlk hne=>?_) (fun k hk hk0 hkc hc0 hlc=>?_)
  ·rw [hg,hg]
   by_cases hki:(k - 1) / 2=i
   ·rw [hki,if_neg (show i≠c by omega),if_pos rfl]
    by_cases hkc:k=c
    ·rw [if_pos hkc];exact swo_asym S hl
    ·rw [if_neg hkc,if_neg (by omega),←hcd]
     exact kid_least S hi hk hk0 hki
   ·rw [if_neg hne,if_neg hki]
    by_cases hkc:k=c
    ·exfalso;exact hki (by rw [hkc];exact hci)
    ·rw [if_neg hkc]
     by_cases hk2:k=i
     ·rw [if_pos hk2]
      subst hk2
      exact h2 c (by omega) (by omega) hci hk0 hlk
     ·rw [if_neg hk2]
      exact h1 k hk hk0 hlk hki
  ·rw [hg,hg,hci,if_neg (by omega),if_neg (by omega),if_neg (show i≠c by omega),if_pos rfl]
   have:=h1 k hk hk0 (by omega) (by omega)
   rwa [hkc] at this
 |case2 d i hi hl=>
  intro k hk hk0 hlk
  by_cases hki:(k - 1) / 2=i
  ·have h3:=kid_least S (d:=d) hi hk hk0 hki
   rw [hki]
   exact S.ntrans _ _ _ h3 (by simpa using hl)
  ·exact h1 k hk hk0 hlk hki
 |case3 d i hi=>
  intro k hk hk0 hlk
  exact h1 k hk hk0 hlk (by omega)
theorem hp_least (S:SWO lt) {n:Nat} {d:Array α} (h:Hp lt 0 n d):∀ k,k<n→lt d[k]! d[0]! = false:=by
 intro k
 induction k using Nat.strongRecOn with
 |_ k ih=>
  intro hk
  rcases Nat.eq_zero_or_pos k with rfl | h0
  ·exact S.irrefl _
  ·exact S.ntrans _ _ _ (h k hk h0 (Nat.zero_le _)) (ih ((k - 1) / 2) (by omega) (by omega))
variable (lt)
def hpInit (n:Nat):Nat→Array α→Array α
 |0,d=>d
 |k+1,d=>hpInit n k (dn lt n d k).1
def hpPop (d:Array α):Array α:=(dn lt (d.size - 1) (Go.Sort.swp d 0 (d.size - 1)) 0).1.pop
def hpAll:Nat→Array α→List α
 |0,_=>[]
 |n+1,d=>d[0]!::hpAll n (hpPop lt d)
variable {lt}
theorem hpInit_size (n:Nat):∀ (k:Nat) (d:Array α),(hpInit lt n k d).size=d.size
 |0,_=>rfl
 |k+1,d=>by rw [hpInit,hpInit_size n k,dn_size]
theorem hpInit_perm {n:Nat}:∀ (k:Nat) {d:Array α},n≤d.size→(hpInit lt n k d).toList.Perm d.toList
 |0,d,_=>.refl _
 |k+1,d,h=>(hpInit_perm k (by rw [dn_size];exact h)).trans (dn_perm h k)
theorem hpInit_hp (S:SWO lt) {n:Nat}:∀ (k:Nat) {d:Array α},n≤d.size→Hp lt k n d→Hp lt 0 n (hpInit lt n k d)
 |0,d,_,h=>h
 |k+1,d,hn,h=>by
  refine hpInit_hp S k (by rw [dn_size];exact hn) (dn_hp S hn (Nat.le_refl k) (fun q hq hq0 h1 h2=>h q hq hq0 (by omega)) (fun q hq hq0 h1 h2 h3=>by omega))
theorem hp_half {n:Nat} (d:Array α):Hp lt (n / 2) n d:=fun k hk hk0 h=>by omega
theorem hpPop_size (d:Array α):(hpPop lt d).size=d.size - 1:=by simp [hpPop,dn_size,size_swp]
theorem arr_pop_get {d:Array α} {k:Nat} (h:k<d.size - 1):d.pop[k]! = d[k]!:=by
 rw [getElem!_pos _ _ (by simpa using h),getElem!_pos _ _ (by omega)];simp
theorem hpPop_hp (S:SWO lt) {d:Array α} (h0:0<d.size) (h:Hp lt 0 d.size d):Hp lt 0 (hpPop lt d).size (hpPop lt d):=by
 rw [hpPop_size]
 have hg:∀ k,(Go.Sort.swp d 0 (d.size - 1))[k]! = if k=d.size - 1 then d[0]! else if k=0 then d[d.size - 1]! else d[k]!:=fun k=>swp_get d (by omega) (by omega) k
 have h1:Hp lt 0 (d.size - 1) (dn lt (d.size - 1) (Go.Sort.swp d 0 (d.size - 1)) 0).1:=by
  refine dn_hp S (by rw [size_swp];omega) (Nat.le_refl _) (fun k hk hk0 _ hne=>?_) (fun k hk hk0 _ h _=>absurd h (Nat.lt_irrefl _))
  rw [hg,hg,if_neg (by omega),if_neg (by omega),if_neg (by omega),if_neg hne]
  exact h k (by omega) hk0 (Nat.zero_le _)
 intro k hk hk0 hlo
 have e:∀ q,q<d.size - 1→(hpPop lt d)[q]! = (dn lt (d.size - 1) (Go.Sort.swp d 0 (d.size - 1)) 0).1[q]!:=by
  intro q hq
  unfold hpPop
  exact arr_pop_get (by rw [dn_size,size_swp];exact hq)
 rw [e k hk,e _ (by omega)]
 exact h1 k hk hk0 hlo
theorem hpPop_last {d:Array α} (h0:0<d.size):(dn lt (d.size - 1) (Go.Sort.swp d 0 (d.size - 1)) 0).1[d.size - 1]! = d[0]!:=by
 rw [dn_out (by rw [size_swp];omega) 0 (Nat.le_refl _),swp_get d (by omega) (by omega),if_pos rfl]
theorem pop_perm {d:Array α} (h0:0<d.size):(d[d.size - 1]!::d.pop.toList).Perm d.toList:=by
 have h1:d.toList=d.pop.toList++[d[d.size - 1]!]:=by
  rw [getElem!_pos d _ (by omega)]
  have:=(List.dropLast_concat_getLast (l:=d.toList) (by intro h;simp at h;subst h;simp at h0)).symm
  simpa [List.getLast_eq_getElem] using this
 rw [h1]
 exact (List.perm_append_singleton _ _).symm
theorem hpPop_perm {d:Array α} (h0:0<d.size):(d[0]!::(hpPop lt d).toList).Perm d.toList:=by
 have h1:=hpPop_last (lt:=lt) h0
 have hs:(dn lt (d.size - 1) (Go.Sort.swp d 0 (d.size - 1)) 0).1.size=d.size:=by rw [dn_size,size_swp]
 have h2:=pop_perm (d:=(dn lt (d.size - 1) (Go.Sort.swp d 0 (d.size - 1)) 0).1) (by rw [hs];exact h0)
 rw [hs,h1] at h2
 exact (h2.trans (dn_perm (by rw [size_swp];omega) 0)).trans (hswp_perm d (by omega) (by omega))
theorem hpAll_spec (S:SWO lt):∀ (n:Nat) {d:Array α},d.size=n→Hp lt 0 n d→(hpAll lt n d).Perm d.toList∧srtd lt (hpAll lt n d)
 |0,d,hn,_=>by
  have:d.toList=[]:=by simpa using hn
  rw [this];exact ⟨.refl _,List.Pairwise.nil⟩
 |n+1,d,hn,h=>by
  have h1:(hpPop lt d).size=n:=by rw [hpPop_size];omega
  have h2:=hpPop_hp (d:=d) S (by omega) (by rw [hn];exact h)
  obtain ⟨h3,h4⟩:=hpAll_spec S n h1 (by rw [h1] at h2;exact h2)
  have h5:=hpPop_perm (lt:=lt) (d:=d) (by omega)
  refine ⟨(List.Perm.cons _ h3).trans h5,?_⟩
  refine List.Pairwise.cons (fun x hx=>?_) h4
  have hx2:x∈d.toList:=h5.mem_iff.1 (List.mem_cons_of_mem _ (h3.mem_iff.1 hx))
  obtain ⟨k,hk,rfl⟩:=List.getElem_of_mem hx2
  have:=hp_least S h k (by simpa [hn] using hk)
  rwa [getElem!_pos d k (by simpa using hk)] at this
theorem srtd_uni {β:Type} {lt:β→β→Bool} (O:Ordr lt) {a b:List β} (ha:srtd lt a) (hb:srtd lt b) (h:a.Perm b):a=b:=
 h.eq_of_pairwise (fun x y _ _ h1 h2=>O.tri _ _ h2 h1) ha hb
theorem hpAll_sorted (O:Ordr lt) (d:Array α):hpAll lt d.size (hpInit lt d.size (d.size / 2) d)=sorted lt d.toList:=by
 have h1:=hpInit_hp O.swo (n:=d.size) (d.size / 2) (Nat.le_refl _) (hp_half d)
 obtain ⟨h2,h3⟩:=hpAll_spec O.swo d.size (by rw [hpInit_size]) h1
 exact srtd_uni O h3 (sorted_srtd O _) ((h2.trans (hpInit_perm _ (Nat.le_refl _))).trans (sorted_perm _).symm)
end
end Go.Proofs.YtgiofefdfcaibaaGreat
