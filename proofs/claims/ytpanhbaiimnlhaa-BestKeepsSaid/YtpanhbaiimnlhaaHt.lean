/- Heaps: what is put, what is taken out of the middle, the last one. -/
import Derived.Test.YtpanhbaiimnlhaaHq
namespace Go.Proofs.Ytpanhbaiimnlhaa
set_option linter.unusedSimpArgs false
set_option linter.unusedVariables false
open Go.Sort (SWO size_swp swp_get)
section
variable {α : Type} [Inhabited α] (lt : α → α → Bool)
def hpPut (d : Array α) (x : α) : Array α := upw lt (d.push x) d.size
def hpRem (d : Array α) (i : Nat) : Array α :=
  if d.size - 1 = i then d.pop else
    if i < (dn lt (d.size - 1) (Go.Sort.swp d i (d.size - 1)) i).2 then (dn lt (d.size - 1) (Go.Sort.swp d i (d.size - 1)) i).1.pop
    else (upw lt (dn lt (d.size - 1) (Go.Sort.swp d i (d.size - 1)) i).1 i).pop
def lst (d : Array α) : Nat → Nat
  | 0 => 0
  | k + 1 => if lt d[lst d k]! d[k]! = true then k else lst d k
variable {lt}
theorem lst_lt (d : Array α) : ∀ k, 0 < k → lst lt d k < k
  | 0, h => absurd h (Nat.lt_irrefl _)
  | k + 1, _ => by
    rw [lst]
    split
    · omega
    · rcases Nat.eq_zero_or_pos k with rfl | h
      · simp [lst]
      · have := lst_lt d k h; omega
theorem lst_max (S : SWO lt) (d : Array α) : ∀ k j, j < k → lt d[lst lt d k]! d[j]! = false
  | 0, j, h => by omega
  | k + 1, j, h => by
    rw [lst]
    split
    · rename_i hl
      by_cases hj : j = k
      · subst hj; exact S.irrefl _
      · have h1 := lst_max S d k j (by omega)
        cases h2 : lt d[k]! d[j]! with
        | false => rfl
        | true => rw [S.trans _ _ _ hl h2] at h1; cases h1
    · rename_i hl
      by_cases hj : j = k
      · subst hj; simpa using hl
      · exact lst_max S d k j (by omega)
theorem push_get (d : Array α) (x : α) (k : Nat) : (d.push x)[k]! = if k = d.size then x else d[k]! := by
  by_cases h : k = d.size
  · subst h
    rw [if_pos rfl, getElem!_pos _ _ (by simp)]; simp
  · rw [if_neg h]
    by_cases h2 : k < d.size
    · rw [getElem!_pos (d.push x) k (by simp; omega), getElem!_pos d k h2, Array.getElem_push_lt h2]
    · rw [getElem!_neg (d.push x) k (by simp; omega), getElem!_neg d k h2]
theorem hpPut_size (d : Array α) (x : α) : (hpPut lt d x).size = d.size + 1 := by simp [hpPut, upw_size]
theorem hpPut_perm (d : Array α) (x : α) : (hpPut lt d x).toList.Perm (x :: d.toList) := by
  refine (upw_perm (by simp)).trans ?_
  simp only [Array.toList_push]
  exact List.perm_append_singleton x d.toList
theorem hpPut_hp (S : SWO lt) {d : Array α} (x : α) (h : Hp lt 0 d.size d) : Hp lt 0 (hpPut lt d x).size (hpPut lt d x) := by
  rw [hpPut_size]
  refine upw_hp S (by simp) (by omega) (fun k hk hk0 hne => ?_) (fun k hk hk0 he hj => by omega)
  rw [push_get, push_get, if_neg hne, if_neg (by omega)]
  exact h k (by omega) hk0 (Nat.zero_le _)
theorem pop_hp {d : Array α} {n : Nat} (hn : n = d.size - 1) (h : Hp lt 0 n d) : Hp lt 0 d.pop.size d.pop := by
  have hs : d.pop.size = n := by simp [hn]
  rw [hs]
  intro k hk hk0 hlo
  rw [arr_pop_get (by omega), arr_pop_get (by omega)]
  exact h k hk hk0 hlo
theorem upw_out {d : Array α} {j k : Nat} (hj : j < k) (hk : k < d.size) : (upw lt d j)[k]! = d[k]! := by
  fun_induction upw lt d j with
  | case1 => rfl
  | case2 d j h1 h2 ih => rw [ih (by omega) (by rw [size_swp]; exact hk), swp_get d (by omega) (by omega), if_neg (by omega), if_neg (by omega)]
  | case3 => rfl
theorem dn_mid (S : SWO lt) {n : Nat} {d : Array α} {i : Nat} (hn : n ≤ d.size) (h1 : ∀ k, k < n → 0 < k → k ≠ i → (k - 1) / 2 ≠ i → lt d[k]! d[(k - 1) / 2]! = false)
    (h2 : ∀ k, k < n → 0 < k → (k - 1) / 2 = i → 0 < i → lt d[k]! d[(i - 1) / 2]! = false) :
    (i < (dn lt n d i).2 ∧ Hp lt 0 n (dn lt n d i).1) ∨ ((dn lt n d i).2 = i ∧ (dn lt n d i).1 = d ∧ ∀ k, k < n → 0 < k → k ≠ i → lt d[k]! d[(k - 1) / 2]! = false) := by
  rw [dn]
  by_cases hi : 2 * i + 1 < n
  · rw [if_pos hi]
    have hc := kid_cases lt n d i hi
    cases hl : lt d[kid lt n d i]! d[i]! with
    | true =>
      left
      rw [if_pos rfl]
      have hkl := fun k a b c => kid_least S (d := d) hi (k := k) a b c
      generalize hcd : kid lt n d i = c at *
      have hci : (c - 1) / 2 = i := by omega
      have hg : ∀ k, (Go.Sort.swp d i c)[k]! = if k = c then d[i]! else if k = i then d[c]! else d[k]! := fun k => swp_get d (by omega) (by omega) k
      have hle := dn_le (lt := lt) n (Go.Sort.swp d i c) c
      refine ⟨by omega, dn_hp S (by rw [size_swp]; exact hn) (Nat.zero_le _) (fun k hk hk0 _ hne => ?_) (fun k hk hk0 hkc hc0 _ => ?_)⟩
      · rw [hg, hg]
        by_cases hki : (k - 1) / 2 = i
        · rw [hki, if_neg (show i ≠ c by omega), if_pos rfl]
          by_cases hkc : k = c
          · rw [if_pos hkc]; exact swo_asym S hl
          · rw [if_neg hkc, if_neg (by omega)]
            exact hkl k hk hk0 hki
        · rw [if_neg hne, if_neg hki]
          by_cases hkc : k = c
          · exfalso; exact hki (by rw [hkc]; exact hci)
          · rw [if_neg hkc]
            by_cases hk2 : k = i
            · rw [if_pos hk2]
              subst hk2
              exact h2 c (by omega) (by omega) hci hk0
            · rw [if_neg hk2]
              exact h1 k hk hk0 hk2 hki
      · rw [hg, hg, hci, if_neg (by omega), if_neg (by omega), if_neg (show i ≠ c by omega), if_pos rfl]
        have := h1 k hk hk0 (by omega) (by omega)
        rwa [hkc] at this
    | false =>
      right
      rw [if_neg (by simp)]
      refine ⟨rfl, rfl, fun k hk hk0 hne => ?_⟩
      by_cases hki : (k - 1) / 2 = i
      · have h3 := kid_least S (d := d) hi hk hk0 hki
        rw [hki]
        exact S.ntrans _ _ _ h3 hl
      · exact h1 k hk hk0 hne hki
  · right
    rw [if_neg hi]
    exact ⟨rfl, rfl, fun k hk hk0 hne => h1 k hk hk0 hne (by omega)⟩
theorem hpRem_spec (S : SWO lt) {d : Array α} {i : Nat} (hi : i < d.size) (h : Hp lt 0 d.size d) : Hp lt 0 (hpRem lt d i).size (hpRem lt d i) ∧ (d[i]! :: (hpRem lt d i).toList).Perm d.toList ∧ (hpRem lt d i).size = d.size - 1 := by
  unfold hpRem
  by_cases he : d.size - 1 = i
  · rw [if_pos he]
    refine ⟨pop_hp rfl fun k hk hk0 hlo => h k (by omega) hk0 hlo, ?_, by simp⟩
    have := pop_perm (d := d) (by omega)
    rwa [he] at this
  · rw [if_neg he]
    have hg : ∀ k, (Go.Sort.swp d i (d.size - 1))[k]! = if k = d.size - 1 then d[i]! else if k = i then d[d.size - 1]! else d[k]! := fun k => swp_get d (by omega) (by omega) k
    have hsz : (Go.Sort.swp d i (d.size - 1)).size = d.size := size_swp _ _ _
    have hlast : ∀ q : Array α, q.size = d.size → q[d.size - 1]! = d[i]! → q.toList.Perm (Go.Sort.swp d i (d.size - 1)).toList → (d[i]! :: q.pop.toList).Perm d.toList := by
      intro q h1 h2 h3
      have := pop_perm (d := q) (by omega)
      rw [h1, h2] at this
      exact (this.trans h3).trans (hswp_perm d (by omega) (by omega))
    have hm := dn_mid S (n := d.size - 1) (d := Go.Sort.swp d i (d.size - 1)) (i := i) (by omega) (fun k hk hk0 hne hpi => by
        rw [hg, hg, if_neg (by omega), if_neg hne, if_neg (by omega), if_neg hpi]
        exact h k (by omega) hk0 (Nat.zero_le _)) (fun k hk hk0 hpi hi0 => by
        rw [hg, hg, if_neg (by omega), if_neg (by omega), if_neg (by omega), if_neg (by omega)]
        have h1 := h k (by omega) hk0 (Nat.zero_le _)
        rw [hpi] at h1
        exact S.ntrans _ _ _ h1 (h i hi hi0 (Nat.zero_le _)))
    have hds := dn_size (lt := lt) (d.size - 1) (Go.Sort.swp d i (d.size - 1)) i
    have hdp := dn_perm (lt := lt) (n := d.size - 1) (d := Go.Sort.swp d i (d.size - 1)) (by omega) i
    have hdo := dn_out (lt := lt) (n := d.size - 1) (d := Go.Sort.swp d i (d.size - 1)) (by omega) i (Nat.le_refl (d.size - 1))
    rw [hg, if_pos rfl] at hdo
    rcases hm with ⟨h1, h2⟩ | ⟨h1, h2, h3⟩
    · rw [if_pos h1]
      exact ⟨pop_hp (by rw [hds, hsz]) h2, hlast _ (by rw [hds, hsz]) hdo hdp, by simp [hds, hsz]⟩
    · rw [if_neg (by omega), h2]
      have hu := upw_hp S (n := d.size - 1) (d := Go.Sort.swp d i (d.size - 1)) (j := i) (by omega) (by omega) (fun k hk hk0 hne => h3 k hk hk0 hne) (fun k hk hk0 hpi hi0 => by
        rw [hg, hg, if_neg (by omega), if_neg (by omega), if_neg (by omega), if_neg (by omega)]
        have h1 := h k (by omega) hk0 (Nat.zero_le _)
        rw [hpi] at h1
        exact S.ntrans _ _ _ h1 (h i hi hi0 (Nat.zero_le _)))
      have hus := upw_size (lt := lt) (Go.Sort.swp d i (d.size - 1)) i
      have hup := upw_perm (lt := lt) (d := Go.Sort.swp d i (d.size - 1)) (j := i) (by omega)
      refine ⟨pop_hp (by rw [hus, hsz]) hu, hlast _ (by rw [hus, hsz]) ?_ hup, by simp [hus, hsz]⟩
      rw [upw_out (by omega) (by omega), hg, if_pos rfl]
end
end Go.Proofs.Ytpanhbaiimnlhaa
