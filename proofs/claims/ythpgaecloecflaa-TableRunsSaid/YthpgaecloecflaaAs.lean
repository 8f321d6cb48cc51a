/- Rows in which each is ahead of the next; what is sorted, each once. -/
import Derived.Test.YthpgaecloecflaaRq
import Derived.Sort.AssemblyPlain
namespace Go.Proofs.Ythpgaecloecflaa
set_option linter.unusedSimpArgs false
set_option linter.unusedVariables false
open Go.Sort (SWO PermIn SortedIn)
structure Ordr {α : Type} (lt : α → α → Bool) : Prop where
  irr : ∀ x, lt x x = false
  tr : ∀ x y z, lt x y = true → lt y z = true → lt x z = true
  tri : ∀ x y, lt x y = false → lt y x = false → x = y
section
variable {α : Type} {lt : α → α → Bool}
theorem Ordr.swo (O : Ordr lt) : SWO lt := by
  refine ⟨O.irr, O.tr, fun x y z h1 h2 => ?_⟩
  cases h : lt x z with
  | false => rfl
  | true =>
    cases h3 : lt y x with
    | true => rw [O.tr _ _ _ h3 h] at h2; cases h2
    | false => rw [O.tri _ _ h1 h3] at h; rw [h] at h2; cases h2
theorem Ordr.asym (O : Ordr lt) {x y : α} (h : lt x y = true) : lt y x = false := by
  cases h2 : lt y x with
  | false => rfl
  | true => have := O.tr _ _ _ h h2; rw [O.irr] at this; cases this
def asc (lt : α → α → Bool) (l : List α) : Prop := l.Pairwise fun x y => lt x y = true
theorem asc_sub (O : Ordr lt) : ∀ {b a : List α}, asc lt a → asc lt b → (∀ x ∈ a, x ∈ b) → a.Sublist b
  | [], [], _, _, _ => .slnil
  | [], x :: a, _, _, h => by have := h x (by simp); cases this
  | y :: b, [], _, _, _ => List.nil_sublist _
  | y :: b, x :: a, ha, hb, h => by
    have ha2 := List.pairwise_cons.1 ha
    have hb2 := List.pairwise_cons.1 hb
    by_cases e : x = y
    · subst e
      refine .cons_cons _ (asc_sub O ha2.2 hb2.2 fun z hz => ?_)
      rcases List.mem_cons.1 (h z (by simp [hz])) with rfl | h
      · have := ha2.1 z hz; rw [O.irr] at this; cases this
      · exact h
    · refine .cons _ (asc_sub O ha hb2.2 fun z hz => ?_)
      have hx : x ∈ b := (List.mem_cons.1 (h x (by simp))).resolve_left e
      rcases List.mem_cons.1 (h z hz) with rfl | h
      · rcases List.mem_cons.1 hz with rfl | hz
        · exact absurd rfl e
        · have h1 := hb2.1 x hx
          have h2 := ha2.1 z hz
          rw [O.asym h1] at h2; cases h2
      · exact h
theorem asc_ext (O : Ordr lt) {a b : List α} (ha : asc lt a) (hb : asc lt b) (h : ∀ x, x ∈ a ↔ x ∈ b) : a = b := by
  have h1 := asc_sub O ha hb (fun x hx => (h x).1 hx)
  have h2 := asc_sub O hb ha (fun x hx => (h x).2 hx)
  exact h1.eq_of_length (Nat.le_antisymm h1.length_le h2.length_le)
theorem asc_app {a b : List α} : asc lt (a ++ b) ↔ asc lt a ∧ asc lt b ∧ ∀ x ∈ a, ∀ y ∈ b, lt x y = true := List.pairwise_append
def srtd (lt : α → α → Bool) (l : List α) : Prop := l.Pairwise fun x y => lt y x = false
def sorted (lt : α → α → Bool) (l : List α) : List α := l.mergeSort fun x y => !lt y x
theorem sorted_perm (l : List α) : (sorted lt l).Perm l := List.mergeSort_perm l _
theorem sorted_len (l : List α) : (sorted lt l).length = l.length := (sorted_perm l).length_eq
theorem sorted_srtd (O : Ordr lt) (l : List α) : srtd lt (sorted lt l) := by
  have := List.pairwise_mergeSort (le := fun x y : α => !lt y x) (fun x y z h1 h2 => by
    simp only [Bool.not_eq_true'] at *
    exact O.swo.ntrans _ _ _ h2 h1) (fun x y => by
    cases h : lt y x with
    | false => simp
    | true => rw [O.asym h]; rfl) l
  exact this.imp fun h => by simpa using h
theorem sorted_uni [Inhabited α] (O : Ordr lt) {d d' : Array α} (h1 : PermIn 0 d.size d d') (h2 : SortedIn lt 0 d.size d') : d'.toList = sorted lt d.toList :=
  Go.Sort.sorted_unique_holds O.swo O.tri d d' h1 h2
theorem getD_mem' [Inhabited α] {l : List α} {i : Nat} (h : i < l.length) : l.getD i default ∈ l := by
  rw [List.getD_eq_getElem?_getD, List.getElem?_eq_getElem h]; exact List.getElem_mem _
variable [Inhabited α] [DecidableEq α]
end
end Go.Proofs.Ythpgaecloecflaa
