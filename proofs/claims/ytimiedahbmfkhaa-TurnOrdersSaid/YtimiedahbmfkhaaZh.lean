/- Layer 17: TurnDeals. -/
import Derived.Test.YtimiedahbmfkhaaZf
namespace Go.Proofs.Ytimiedahbmfkhaa
set_option linter.unusedSimpArgs false
set_option linter.unusedVariables false
set_option maxHeartbeats 4000000
set_option maxRecDepth 100000
theorem up_one {m k : Nat} (hm : 0 < m) : ((k + 1) / m = k / m ∧ (k + 1) % m = k % m + 1 ∧ k % m + 1 < m) ∨ ((k + 1) / m = k / m + 1 ∧ (k + 1) % m = 0 ∧ k % m + 1 = m) := by
  have h1 := Nat.div_add_mod k m
  have h2 := Nat.mod_lt k hm
  by_cases h : k % m + 1 < m
  · left
    have e : k + 1 = m * (k / m) + (k % m + 1) := by omega
    refine ⟨?_, ?_, h⟩
    · conv => lhs; rw [e]
      rw [Nat.mul_add_div hm, Nat.div_eq_of_lt h]; rfl
    · conv => lhs; rw [e]
      rw [Nat.mul_add_mod, Nat.mod_eq_of_lt h]
  · right
    have e : k + 1 = m * (k / m) + m := by omega
    refine ⟨?_, ?_, by omega⟩
    · conv => lhs; rw [e]
      rw [Nat.mul_add_div hm, Nat.div_self hm]
    · conv => lhs; rw [e]
      rw [Nat.mul_add_mod, Nat.mod_self]
theorem deal_cnt {m : Nat} (hm : 0 < m) {v : Nat} (hv : v < m) : ∀ k : Nat, ((List.range k).filter fun j => j % m == v).length = k / m + (if v < k % m then 1 else 0)
  | 0 => by simp
  | k + 1 => by
    have ih := deal_cnt hm hv k
    rw [List.range_succ, List.filter_append, List.length_append, ih]
    have hx : ((List.filter (fun j => j % m == v) [k]).length) = if k % m = v then 1 else 0 := by
      by_cases h : k % m = v <;> simp [h]
    rw [hx]
    rcases up_one (k := k) hm with ⟨a, b, c⟩ | ⟨a, b, c⟩ <;> rw [a, b] <;> split <;> split <;> (try split) <;> omega
theorem deal_num {m : Nat} (hm : 0 < m) : ∀ {k i : Nat}, i < k → ((List.range k).filter fun j => j % m == i % m)[i / m]? = some i
  | 0, _, h => by omega
  | k + 1, i, h => by
    rw [List.range_succ, List.filter_append]
    by_cases hi : i < k
    · have ih := deal_num hm hi
      rw [List.getElem?_append_left (by
        by_cases hh : i / m < ((List.range k).filter fun j => j % m == i % m).length
        · exact hh
        · rw [List.getElem?_eq_none (by omega)] at ih; cases ih)]
      exact ih
    · obtain rfl : i = k := by omega
      have hc := deal_cnt hm (Nat.mod_lt i hm) i
      rw [if_neg (by omega), Nat.add_zero] at hc
      rw [List.getElem?_append_right (by omega), hc]
      simp
theorem deal_at {p : List Int} {m k i : Nat} (hm : 0 < m) (hi : i < k) : ((dealR p m k).getD (i % m) [])[i / m]? = some (p.getD i 0) := by
  rw [dealR_at (Nat.mod_lt i hm), List.getElem?_map, deal_num hm hi]; rfl
theorem ocV_pk (n : Nat) (hp : List Blk) : ∀ R : List (List Int), pkL n hp (ocV R) = some (ocV R, hp)
  | [] => rfl
  | r :: R => by
    have ih := ocV_pk n hp R
    have e : pk n hp (rcV r) = some (rcV r, hp) := by unfold rcV; split <;> rfl
    show pkL n hp (rcV r :: ocV R) = some (rcV r :: ocV R, hp)
    simp only [pkL, e, Option.bind_some, ih, Option.map_some]
theorem allL_setno {p : AV → Bool} {x : AV} (hx : x.allv p = false) : ∀ {cs : List AV} {u : Nat}, u < cs.length → allL p (cs.set u x) = false
  | [], _, h => by simp at h
  | c :: cs, 0, _ => by simp [allL, hx]
  | c :: cs, u + 1, h => by simp [allL, allL_setno hx (cs := cs) (u := u) (by simpa using h)]
theorem ocV_self {R : List (List Int)} {u : Nat} (h : u < R.length) : (ocV R).set u (rcV (R.getD u [])) = ocV R := by
  rw [ocV, ← List.map_set, List.getD_eq_getElem?_getD, List.getElem?_eq_getElem h]
  simp
end Go.Proofs.Ytimiedahbmfkhaa
