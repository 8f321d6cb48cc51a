import Derived.Test.YthpgaecloecflaaB3
namespace Go.Proofs.Ythpgaecloecflaa
open Go.RowKit

def zp : Pl := ⟨false, 0, 0, 0, 0⟩

theorem made_zero (n : Nat) : (madeCells #[.bool false, .int .i64 0, .int .i64 0, .int .i64 0, .int .i64 0] (n * 5)).toList = (List.replicate n zp).flatMap plc := by
  apply List.ext_getElem?
  intro k
  have hf := flat_get (List.replicate n zp) (k / 5) (k % 5) (by omega)
  rw [show k / 5 * 5 + k % 5 = k by omega] at hf
  rw [hf]
  have hk5 : k % 5 = 0 ∨ k % 5 = 1 ∨ k % 5 = 2 ∨ k % 5 = 3 ∨ k % 5 = 4 := by omega
  by_cases h : k < n * 5
  · rw [List.getElem?_replicate, if_pos (by omega)]
    rcases hk5 with h5 | h5 | h5 | h5 | h5 <;> simp [madeCells, h, h5, plc, zp]
  · rw [List.getElem?_replicate, if_neg (by omega)]
    simp [madeCells, h]

set_option maxHeartbeats 1000000 in
theorem new_ok (m : Nat) (h1 : 1 ≤ m) (h2 : m ≤ 400) (w : World) :
    Calls Try.prog 8 #[.int .i64 m] w fun e w' => ∃ t p, e = .returned (.tuple #[.pointer (some ⟨t, 0, none⟩), .int .i64 0]) ∧ Tab w' t p m 0 (List.replicate (2 * m) zp) ∧ w.heap.size ≤ t ∧ w.heap.size ≤ p ∧ t ≠ p ∧ Below w.heap.size w w' := by
  have d1 : decide ((m : Int) < 1) = false := by simp; omega
  have d2 : decide ((400 : Int) < (m : Int)) = false := by simp; omega
  go_enter Try.func8, Try.ntmps8
  go_wp2_with (at_make; refine wpList_mk rfl _ _ 51 rfl 57 _ 5 40 Try.underlying51 info_pl (2 * m) rfl rfl (by omega) (by simp only [maxLen]; omega) ?_; intro w1 H1 hg1 Hs1)
  go_ret2
  have hr : Row w1 w.heap.size 57 ((List.replicate (2 * m) zp).flatMap plc) := by
    rw [← made_zero]
    exact H1.out
  have hs := Hs1.out
  have hk : Below w.heap.size w w1 := (Below.refl _ _).grown hg1 (Nat.le_refl _) (by simp)
  refine ⟨w1.heap.size, w.heap.size, rfl, ⟨?_, hr.alloc _⟩, by omega, Nat.le_refl _, by omega, hk.alloc (by omega) _⟩
  have := Row.new w1 53 #[.int .i64 m, .int .i64 0, .slice (some ⟨w.heap.size, 0, none⟩) (2 * m) (2 * m)]
  simpa using this

theorem flat_set (pl : List Pl) (r : Nat) (y : Pl) (hr : r < pl.length) :
    (((((pl.flatMap plc).set (r * 5) (.bool y.u)).set (r * 5 + 1) (.int .i64 y.a)).set (r * 5 + 2) (.int .i64 y.b)).set (r * 5 + 3) (.int .i64 y.c)).set (r * 5 + 4) (.int .i64 y.n) = (pl.set r y).flatMap plc := by
  have hlen : ∀ l : List Pl, (l.flatMap plc).length = l.length * 5 := by
    intro l
    induction l with
    | nil => rfl
    | cons x l ih => rw [List.flatMap_cons, List.length_append, ih, List.length_cons]; simp [plc]; omega
  apply List.ext_getElem?
  intro k
  have hf := flat_get pl (k / 5) (k % 5) (by omega)
  have hg := flat_get (pl.set r y) (k / 5) (k % 5) (by omega)
  rw [show k / 5 * 5 + k % 5 = k by omega] at hf hg
  rw [hg]
  simp only [List.getElem?_set, List.length_set, hlen, hf]
  by_cases hk : r = k / 5
  · subst hk
    rw [if_pos rfl, if_pos hr]
    have hk5 : k % 5 = 0 ∨ k % 5 = 1 ∨ k % 5 = 2 ∨ k % 5 = 3 ∨ k % 5 = 4 := by omega
    rcases hk5 with h5 | h5 | h5 | h5 | h5
    · rw [if_neg (by omega), if_neg (by omega), if_neg (by omega), if_neg (by omega), if_pos (by omega), if_pos (by omega), h5]; rfl
    · rw [if_neg (by omega), if_neg (by omega), if_neg (by omega), if_pos (by omega), if_pos (by omega), h5]; rfl
    · rw [if_neg (by omega), if_neg (by omega), if_pos (by omega), if_pos (by omega), h5]; rfl
    · rw [if_neg (by omega), if_pos (by omega), if_pos (by omega), h5]; rfl
    · rw [if_pos (by omega), if_pos (by omega), h5]; rfl
  · rw [if_neg (by omega), if_neg (by omega), if_neg (by omega), if_neg (by omega), if_neg (by omega), if_neg hk]
end Go.Proofs.Ythpgaecloecflaa
