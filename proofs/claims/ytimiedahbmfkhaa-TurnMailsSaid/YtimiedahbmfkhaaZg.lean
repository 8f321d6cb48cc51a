/- Layer 17: TurnWhole. -/
import Derived.Test.YtimiedahbmfkhaaZd
import Derived.Test.YtimiedahbmfkhaaVb
namespace Go.Proofs.Ytimiedahbmfkhaa
set_option linter.unusedSimpArgs false
set_option linter.unusedVariables false
set_option maxHeartbeats 4000000
set_option maxRecDepth 100000
theorem tst_perm {α : Type} [Inhabited α] {p : List Int} {l : List α} : ∀ {i : Nat}, i ≤ l.length → ((tst p l i).2 ++ (tst p l i).1).Perm l
  | 0, _ => by simp [tst]
  | i + 1, h => by
    have ih := tst_perm (p := p) (l := l) (i := i) (by omega)
    have h1 := (tst_len (p := p) (l := l) (i := i) (by omega)).1
    have h3 := (tst_at (p := p) (i := i) (show 0 < (tst p l i).1.length by omega)).1
    refine List.Perm.trans ?_ ih
    simp only [tst]
    generalize (p.getD i 0 % ((tst p l i).1.length : Int)).toNat = k at *
    generalize (tst p l i).1 = a at *
    generalize (tst p l i).2 = b at *
    rw [List.append_assoc]
    refine List.Perm.append_left _ ?_
    have e : a.take k ++ a.getD k default :: a.drop (k + 1) = a := by
      rw [List.getD_eq_getElem?_getD, List.getElem?_eq_getElem h3]
      show a.take k ++ a[k] :: a.drop (k + 1) = a
      rw [← List.drop_eq_getElem_cons h3, List.take_append_drop]
    conv => rhs; rw [← e]
    show (a.getD k default :: (a.take k ++ a.drop (k + 1))).Perm _
    exact List.perm_middle.symm
theorem ordd_perm {α : Type} [Inhabited α] (p : List Int) (l : List α) : (ordd p l).Perm l := by
  have h0 : (tst p l l.length).1 = [] := List.eq_nil_of_length_eq_zero (by rw [(tst_len (Nat.le_refl _)).1]; omega)
  have := tst_perm (p := p) (l := l) (Nat.le_refl _)
  rw [h0, List.append_nil] at this
  exact this
theorem upI_mem {n : Nat} {x : Int} : x ∈ upI n ↔ 0 ≤ x ∧ x < n := by
  simp only [upI, List.mem_map, List.mem_range]
  constructor
  · rintro ⟨a, h, rfl⟩; omega
  · intro h; exact ⟨x.toNat, by omega, by omega⟩
end Go.Proofs.Ytimiedahbmfkhaa
