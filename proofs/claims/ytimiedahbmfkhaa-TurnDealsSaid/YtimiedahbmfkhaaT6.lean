import Derived.Test.YtimiedahbmfkhaaT5
namespace Go.Proofs.Ytimiedahbmfkhaa
open Go.RowKit

/-- How many of k picks come to the j-th of some parts. -/
def cnt (k parts j : Nat) : Nat := (k + parts - 1 - j) / parts

theorem cnt_succ (k parts j : Nat) (hp : 0 < parts) (hj : j < parts) : cnt (k + 1) parts j = cnt k parts j + if k % parts = j then 1 else 0 := by
  unfold cnt
  obtain ⟨q, r, hr, rfl⟩ : ∃ q r, r < parts ∧ k = r + parts * q := ⟨k / parts, k % parts, Nat.mod_lt _ hp, (Nat.mod_add_div k parts).symm⟩
  rw [Nat.add_mul_mod_self_left, Nat.mod_eq_of_lt hr]
  by_cases h : r = j
  · subst h
    rw [if_pos rfl]
    rw [show r + parts * q + 1 + parts - 1 - r = parts + parts * q by omega, show r + parts * q + parts - 1 - r = (parts - 1) + parts * q by omega]
    rw [Nat.add_mul_div_left _ _ hp, Nat.add_mul_div_left _ _ hp, Nat.div_self hp, Nat.div_eq_of_lt (show parts - 1 < parts by omega)]
    omega
  · rw [if_neg h]
    rcases Nat.lt_or_ge r j with h1 | h1
    · rw [show r + parts * q + 1 + parts - 1 - j = (r + parts - j) + parts * q by omega, show r + parts * q + parts - 1 - j = (r + parts - 1 - j) + parts * q by omega]
      rw [Nat.add_mul_div_left _ _ hp, Nat.add_mul_div_left _ _ hp, Nat.div_eq_of_lt (show r + parts - j < parts by omega), Nat.div_eq_of_lt (show r + parts - 1 - j < parts by omega)]
      omega
    · have e1 : (r + parts - j) / parts = 1 := Nat.div_eq_of_lt_le (by omega) (by omega)
      have e2 : (r + parts - 1 - j) / parts = 1 := Nat.div_eq_of_lt_le (by omega) (by omega)
      rw [show r + parts * q + 1 + parts - 1 - j = (r + parts - j) + parts * q by omega, show r + parts * q + parts - 1 - j = (r + parts - 1 - j) + parts * q by omega]
      rw [Nat.add_mul_div_left _ _ hp, Nat.add_mul_div_left _ _ hp, e1, e2]
      omega

theorem cnt_zero (parts j : Nat) (hj : j < parts) : cnt 0 parts j = 0 := by
  unfold cnt
  exact Nat.div_eq_of_lt (by omega)

theorem cnt_self (k parts : Nat) (hp : 0 < parts) : cnt k parts (k % parts) = k / parts := by
  unfold cnt
  have := Nat.mod_lt k hp
  have h2 := Nat.mod_add_div k parts
  rw [show k + parts - 1 - k % parts = (parts - 1) + parts * (k / parts) by omega, Nat.add_mul_div_left _ _ hp, Nat.div_eq_of_lt (by omega)]
  omega

/-- The j-th row that is dealt of the first k picks. -/
def dealRow (ps : List Int) (k parts j : Nat) : List Int := List.map (fun q : Nat => ps.getD (j + q * parts) 0) (List.range (cnt k parts j))

theorem dealRow_length (ps : List Int) (k parts j : Nat) : (dealRow ps k parts j).length = cnt k parts j := by simp [dealRow]

theorem dealRow_hit (ps : List Int) (k parts : Nat) (hp : 0 < parts) : dealRow ps (k + 1) parts (k % parts) = dealRow ps k parts (k % parts) ++ [ps.getD k 0] := by
  unfold dealRow
  rw [cnt_succ k parts _ hp (Nat.mod_lt _ hp), if_pos rfl, List.range_succ, List.map_append, List.map_singleton, cnt_self k parts hp]
  congr 2
  rw [Nat.mul_comm, Nat.mod_add_div]

theorem dealRow_miss (ps : List Int) (k parts j : Nat) (hp : 0 < parts) (hj : j < parts) (h : k % parts ≠ j) : dealRow ps (k + 1) parts j = dealRow ps k parts j := by
  unfold dealRow
  rw [cnt_succ k parts _ hp hj, if_neg h, Nat.add_zero]

theorem dealRow_at (ps : List Int) (k parts i : Nat) (hp : 0 < parts) (hi : i < k) : ∃ h : i / parts < (dealRow ps k parts (i % parts)).length, (dealRow ps k parts (i % parts))[i / parts] = ps.getD i 0 := by
  have hlt : i / parts < cnt k parts (i % parts) := by
    have h1 := cnt_self i parts hp
    have h2 : ∀ d, cnt i parts (i % parts) + 1 ≤ cnt (i + 1 + d) parts (i % parts) := by
      intro d
      induction d with
      | zero => rw [Nat.add_zero, cnt_succ i parts _ hp (Nat.mod_lt _ hp), if_pos rfl]; exact Nat.le_refl _
      | succ d ih =>
        rw [← Nat.add_assoc, cnt_succ _ parts _ hp (Nat.mod_lt _ hp)]
        omega
    have := h2 (k - (i + 1))
    rw [show i + 1 + (k - (i + 1)) = k by omega] at this
    omega
  refine ⟨by rw [dealRow_length]; exact hlt, ?_⟩
  unfold dealRow
  simp only [List.getElem_map, List.getElem_range]
  congr 1
  rw [Nat.mul_comm, Nat.mod_add_div]

/-- All rows together have all picks. -/
theorem cnt_sum (k parts : Nat) (hp : 0 < parts) : (List.map (cnt k parts) (List.range parts)).sum = k := by
  induction k with
  | zero =>
    have : List.map (cnt 0 parts) (List.range parts) = List.map (fun _ => 0) (List.range parts) := List.map_congr_left (fun j hj => cnt_zero parts j (List.mem_range.1 hj))
    rw [this]
    have h0 : ∀ l : List Nat, (List.map (fun _ => 0) l).sum = 0 := by
      intro l
      induction l with
      | nil => rfl
      | cons x l ih => simp only [List.map_cons, List.sum_cons, ih]
    exact h0 _
  | succ k ih =>
    have h1 : List.map (cnt (k + 1) parts) (List.range parts) = List.map (fun j => cnt k parts j + if k % parts = j then 1 else 0) (List.range parts) :=
      List.map_congr_left (fun j hj => cnt_succ k parts j hp (List.mem_range.1 hj))
    have h2 : ∀ (n : Nat), (List.map (fun j => cnt k parts j + if k % parts = j then 1 else 0) (List.range n)).sum = (List.map (cnt k parts) (List.range n)).sum + if k % parts < n then 1 else 0 := by
      intro n
      induction n with
      | zero => simp
      | succ n ihn =>
        rw [List.range_succ, List.map_append, List.map_append, List.sum_append, List.sum_append, ihn]
        simp only [List.map_singleton, List.sum_singleton]
        generalize (List.map (cnt k parts) (List.range n)).sum = S
        by_cases h3 : k % parts < n
        · have h4 : k % parts < n + 1 := by omega
          have h5 : ¬ k % parts = n := by omega
          simp only [h3, h4, h5, if_true, if_false]
          omega
        · by_cases h4 : k % parts = n
          · have h5 : k % parts < n + 1 := by omega
            simp only [h3, h4, if_true, if_false]
            simp
            omega
          · have h5 : ¬ k % parts < n + 1 := by omega
            simp only [h3, h4, h5, if_false]
            omega
    rw [h1, h2, ih, if_pos (Nat.mod_lt _ hp)]
end Go.Proofs.Ytimiedahbmfkhaa
