/- Rows that rise. -/
import Derived.Test.YtgjahkebhlphgaaDs
namespace Go.Proofs.Ytgjahkebhlphgaa
set_option linter.unusedSimpArgs false
set_option linter.unusedVariables false
def lwb (o : List Int) (x : Int) : Nat := (o.takeWhile (· < x)).length
theorem lwb_le (o : List Int) (x : Int) : lwb o x ≤ o.length := (List.takeWhile_prefix _).length_le
theorem lwb_before {o : List Int} {x : Int} : ∀ {i : Nat}, i < lwb o x → o.getD i 0 < x := by
  induction o with
  | nil => intro i h; simp [lwb] at h
  | cons a o ih =>
    intro i h
    by_cases ha : a < x
    · simp only [lwb, List.takeWhile_cons, ha, decide_true, if_true, List.length_cons] at h
      cases i with
      | zero => simpa using ha
      | succ i => simpa using ih (i := i) (by simp only [lwb]; omega)
    · simp [lwb, List.takeWhile_cons, ha] at h
theorem lwb_at {o : List Int} {x : Int} (h : lwb o x < o.length) : ¬ o.getD (lwb o x) 0 < x := by
  induction o with
  | nil => simp at h
  | cons a o ih =>
    by_cases ha : a < x
    · have e : lwb (a :: o) x = lwb o x + 1 := by simp [lwb, List.takeWhile_cons, ha]
      rw [e] at h ⊢
      simpa using ih (by simpa using h)
    · have e : lwb (a :: o) x = 0 := by simp [lwb, List.takeWhile_cons, ha]
      rw [e]; simpa using ha
def ins (o : List Int) (x : Int) : List Int := if lwb o x < o.length ∧ o.getD (lwb o x) 0 = x then o else o.take (lwb o x) ++ x :: o.drop (lwb o x)
def rising (l : List Int) : List Int := l.foldl ins []
theorem inc_at {o : List Int} (h : o.Pairwise (· < ·)) {i j : Nat} (hij : i < j) (hj : j < o.length) : o.getD i 0 < o.getD j 0 := by
  have := List.pairwise_iff_getElem.1 h i j (by omega) hj hij
  rw [List.getD_eq_getElem?_getD, List.getD_eq_getElem?_getD, List.getElem?_eq_getElem hj, List.getElem?_eq_getElem (by omega)]
  exact this
theorem ins_spec {o : List Int} (h : o.Pairwise (· < ·)) (x : Int) : (ins o x).Pairwise (· < ·) ∧ ∀ y, y ∈ ins o x ↔ y ∈ o ∨ y = x := by
  unfold ins
  by_cases hc : lwb o x < o.length ∧ o.getD (lwb o x) 0 = x
  · rw [if_pos hc]
    refine ⟨h, fun y => ⟨.inl, ?_⟩⟩
    rintro (hy | rfl)
    · exact hy
    · have : o.getD (lwb o y) 0 ∈ o := by
        rw [List.getD_eq_getElem?_getD, List.getElem?_eq_getElem hc.1]; exact List.getElem_mem _
      rwa [hc.2] at this
  · rw [if_neg hc]
    have hsplit : ∀ y, y ∈ o ↔ y ∈ o.take (lwb o x) ∨ y ∈ o.drop (lwb o x) := fun y => by
      conv => lhs; rw [← List.take_append_drop (lwb o x) o]
      exact List.mem_append
    constructor
    · rw [List.pairwise_append]
      refine ⟨h.sublist (List.take_sublist _ _), ?_, ?_⟩
      · refine List.pairwise_cons.2 ⟨fun b hb => ?_, h.sublist (List.drop_sublist _ _)⟩
        obtain ⟨i, hi, e⟩ := List.getElem_of_mem hb
        rw [List.length_drop] at hi
        have h1 := lwb_at (o := o) (x := x) (by omega)
        have h2 : o.getD (lwb o x) 0 ≠ x := fun h => hc ⟨by omega, h⟩
        have e2 : b = o.getD (lwb o x + i) 0 := by
          rw [← e, List.getElem_drop, List.getD_eq_getElem?_getD, List.getElem?_eq_getElem (by omega)]; rfl
        by_cases hi0 : i = 0
        · subst hi0; rw [e2]; rw [Nat.add_zero]; omega
        · have := inc_at h (i := lwb o x) (j := lwb o x + i) (by omega) (by omega)
          rw [e2]; omega
      · intro a ha b hb
        obtain ⟨i, hi, e⟩ := List.getElem_of_mem ha
        rw [List.length_take] at hi
        have ea : a = o.getD i 0 := by rw [← e, List.getElem_take, List.getD_eq_getElem?_getD, List.getElem?_eq_getElem (by omega)]; rfl
        have h1 := lwb_before (o := o) (x := x) (i := i) (by omega)
        rcases List.mem_cons.1 hb with rfl | hb
        · rw [ea]; exact h1
        · obtain ⟨j, hj, e2⟩ := List.getElem_of_mem hb
          rw [List.length_drop] at hj
          have eb : b = o.getD (lwb o x + j) 0 := by
            rw [← e2, List.getElem_drop, List.getD_eq_getElem?_getD, List.getElem?_eq_getElem (by omega)]; rfl
          rw [ea, eb]
          exact inc_at h (by omega) (by omega)
    · intro y
      rw [List.mem_append, List.mem_cons, hsplit]
      constructor
      · rintro (h | h | h)
        · exact .inl (.inl h)
        · exact .inr h
        · exact .inl (.inr h)
      · rintro ((h | h) | h)
        · exact .inl h
        · exact .inr (.inr h)
        · exact .inr (.inl h)
theorem rising_gen {l : List Int} : ∀ {o : List Int}, o.Pairwise (· < ·) → (l.foldl ins o).Pairwise (· < ·) ∧ ∀ y, y ∈ l.foldl ins o ↔ y ∈ o ∨ y ∈ l := by
  induction l with
  | nil => intro o h; exact ⟨h, fun y => by simp⟩
  | cons a l ih =>
    intro o h
    obtain ⟨h1, h2⟩ := ins_spec h a
    obtain ⟨h3, h4⟩ := ih h1
    refine ⟨h3, fun y => ?_⟩
    rw [List.foldl_cons, h4, h2, List.mem_cons, or_assoc]
theorem rising_mem (l : List Int) (y : Int) : y ∈ rising l ↔ y ∈ l := by rw [rising, (rising_gen .nil).2]; simp
theorem ins_len (o : List Int) (x : Int) : (ins o x).length ≤ o.length + 1 := by
  unfold ins; split
  · omega
  · have := lwb_le o x; simp; omega
theorem rising_len (l : List Int) : (rising l).length ≤ l.length := by
  have : ∀ (l o : List Int), (l.foldl ins o).length ≤ o.length + l.length := fun l => by
    induction l with
    | nil => intro o; simp
    | cons a l ih => intro o; have := ih (ins o a); have := ins_len o a; simp only [List.foldl_cons, List.length_cons]; omega
  have := this l []
  simpa [rising] using this
end Go.Proofs.Ytgjahkebhlphgaa
