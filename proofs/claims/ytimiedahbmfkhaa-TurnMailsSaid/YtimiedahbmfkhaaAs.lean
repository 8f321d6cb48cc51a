/- Rows in which each is ahead of the next; what is sorted, each once. -/
import Derived.Test.YtimiedahbmfkhaaRq
import Derived.Sort.AssemblyPlain
namespace Go.Proofs.Ytimiedahbmfkhaa
set_option linter.unusedSimpArgs false
set_option linter.unusedVariables false
open Go.Sort (SWO PermIn SortedIn)
structure Ordr {α : Type} (lt : α → α → Bool) : Prop where
  irr : ∀ x, lt x x = false
  tr : ∀ x y z, lt x y = true → lt y z = true → lt x z = true
  tri : ∀ x y, lt x y = false → lt y x = false → x = y
section
variable {α : Type} {lt : α → α → Bool}
theorem Ordr.swo (O : Ordr lt) : SWO lt := by
  refine ⟨O.irr, O.tr, fun x y z h1 h2 => ?_⟩
  cases h : lt x z with
  | false => rfl
  | true =>
    cases h3 : lt y x with
    | true => rw [O.tr _ _ _ h3 h] at h2; cases h2
    | false => rw [O.tri _ _ h1 h3] at h; rw [h] at h2; cases h2
theorem Ordr.asym (O : Ordr lt) {x y : α} (h : lt x y = true) : lt y x = false := by
  cases h2 : lt y x with
  | false => rfl
  | true => have := O.tr _ _ _ h h2; rw [O.irr] at this; cases this
def srtd (lt : α → α → Bool) (l : List α) : Prop := l.Pairwise fun x y => lt y x = false
def sorted (lt : α → α → Bool) (l : List α) : List α := l.mergeSort fun x y => !lt y x
theorem sorted_perm (l : List α) : (sorted lt l).Perm l := List.mergeSort_perm l _
theorem sorted_len (l : List α) : (sorted lt l).length = l.length := (sorted_perm l).length_eq
theorem sorted_srtd (O : Ordr lt) (l : List α) : srtd lt (sorted lt l) := by
  have := List.pairwise_mergeSort (le := fun x y : α => !lt y x) (fun x y z h1 h2 => by
    simp only [Bool.not_eq_true'] at *
    exact O.swo.ntrans _ _ _ h2 h1) (fun x y => by
    cases h : lt y x with
    | false => simp
    | true => rw [O.asym h]; rfl) l
  exact this.imp fun h => by simpa using h
theorem sorted_uni [Inhabited α] (O : Ordr lt) {d d' : Array α} (h1 : PermIn 0 d.size d d') (h2 : SortedIn lt 0 d.size d') : d'.toList = sorted lt d.toList :=
  Go.Sort.sorted_unique_holds O.swo O.tri d d' h1 h2
variable [Inhabited α] [DecidableEq α]
end
end Go.Proofs.Ytimiedahbmfkhaa
