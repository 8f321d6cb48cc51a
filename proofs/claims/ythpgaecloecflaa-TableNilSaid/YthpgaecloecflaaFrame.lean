/-
  What a law's walk is told of a slice of integers that came in (IsRow), said as At.
-/
import Derived.Test.YthpgaecloecflaaLib
namespace Go.Proofs.Ythpgaecloecflaa
open Go.RowKit

def i64 (n : Int) : Prop := -9223372036854775808 ≤ n ∧ n ≤ 9223372036854775807
instance (n : Int) : Decidable (i64 n) := by unfold i64; infer_instance

/-- A slice of integers that came in: nil; or a row of 'cap' cells, the numbers 'zs', each fitting its kind. -/
def IsRow (k : IntKind) (w : World) (a : Option Addr) (len cap : Nat) (zs : List Int) : Prop :=
  (a = none ∧ len = 0 ∧ cap = 0 ∧ zs = []) ∨
  ∃ x, a = some x ∧ len ≤ cap ∧ cap ≤ maxLen ∧ zs.length = cap ∧ (∀ i, i < zs.length → w.cell? (x.add i) = some (.int k (zs.getD i 0))) ∧ ∀ n ∈ zs, (Lit.int k n).wf = true

theorem wf_i64 {n : Int} (h : (Lit.int .i64 n).wf = true) : i64 n := by
  simp only [Lit.wf, Bool.and_eq_true, decide_eq_true_eq] at h
  have e1 : IntKind.i64.min = -9223372036854775808 := rfl
  have e2 : IntKind.i64.max = 9223372036854775807 := rfl
  rw [e1, e2] at h
  exact h

/-- An address at which a cell lies leads to no spot. -/
theorem addr_plain {w : World} {x : Addr} {v : Value} (h : w.cell? x = some v) : x = ⟨x.block, x.off, none⟩ := by
  obtain ⟨b, off, sp⟩ := x
  cases sp with
  | none => rfl
  | some s =>
    exfalso
    simp only [World.cell?] at h
    split at h <;> simp at h

/-- Cells from x on, said with 'add'. -/
theorem at_of_add {w : World} {x : Addr} {xs : List Value} (h : ∀ k (hk : k < xs.length), w.cell? (x.add k) = some xs[k]) : At w (some x) xs := by
  intro k hk
  have h0 := h 0 (by omega)
  have e0 : x.add 0 = x := by simp [Addr.add]
  rw [e0] at h0
  obtain ⟨b, off, rfl⟩ : ∃ b off, x = ⟨b, off, none⟩ := ⟨_, _, addr_plain h0⟩
  have hc := h k hk
  have hlt := World.block_lt_of_cell? w _ hc
  have hadd : (⟨b, off, none⟩ : Addr).add k = ⟨b, off + k, none⟩ := by
    unfold Addr.add
    split <;> simp_all
  rw [hadd] at hc hlt
  exact ⟨b, off, rfl, hlt, hc⟩

theorem At.lt {w : World} {A : Option Addr} {xs : List Value} (h : At w A xs) : ∀ a, A = some a → 0 < xs.length → a.block < w.heap.size := by
  intro a ha hl
  obtain ⟨b, off, h1, h2, _⟩ := h 0 hl
  rw [ha] at h1
  injection h1 with h1
  subst h1
  exact h2

theorem IsRow.at_ {w : World} {a : Option Addr} {len cap : Nat} {zs : List Int} (h : IsRow .i64 w a len cap zs) :
    ∃ xs : List Int, xs.length = len ∧ At w a (ints xs) ∧ (∀ x ∈ xs, i64 x) ∧ len ≤ 9223372036854775807 ∧ (∀ x, a = some x → 0 < len → x.block < w.heap.size) := by
  rcases h with ⟨rfl, rfl, rfl, rfl⟩ | ⟨x, rfl, h1, h2, h3, h4, h5⟩
  · exact ⟨[], rfl, At.nil _ _, by simp, by omega, by simp⟩
  · have hat : At w (some x) (ints (zs.take len)) := at_of_add (by
      intro k hk
      have hk' : k < len := by simp at hk; omega
      rw [h4 k (by omega)]
      simp only [ints, List.getElem_map, List.getElem_take]
      rw [List.getD, List.getElem?_eq_getElem (by omega)]
      rfl)
    refine ⟨zs.take len, by simp; omega, hat, fun y hy => wf_i64 (h5 y (List.mem_of_mem_take hy)), by simp only [maxLen] at h2; omega, ?_⟩
    intro y hy hl
    exact hat.lt y hy (by simp; omega)

end Go.Proofs.Ythpgaecloecflaa
