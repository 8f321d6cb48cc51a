import Derived.Test.YtimiedahbmfkhaaT3
namespace Go.Proofs.Ytimiedahbmfkhaa
open Go.RowKit

theorem order_ex (n : Nat) (PA : Option Addr) (pc pn : Nat) (ps ys : List Int) (w : World) (hn : n ≤ 1000) (hpn : pn = ps.length)
    (hp : At w PA (ints ps)) (hpl : ps.length ≤ 9223372036854775807) (hpw : ∀ p ∈ ps, i64 p) (hPA : ∀ a, PA = some a → 0 < ps.length → a.block < w.heap.size) (hy : orderedL (upto n) ps = ys) :
    Calls Try.prog 12 #[.int .i64 n, .slice PA pn pc] w fun e w' =>
      ∃ A c, e = .returned (.tuple #[.slice A n c, .int .i64 0]) ∧ At w' A (ints ys) ∧ Below w.heap.size w w' ∧ (∀ a, A = some a → w.heap.size ≤ a.block) := by
  subst hpn hy
  refine (order_ok n PA pc ps w hn hp hpl hpw hPA).mono ?_
  rintro e w' ⟨v', rfl, hown, hB⟩
  obtain ⟨A, c, rfl⟩ := own_shape hown
  refine ⟨A, c, rfl, At.of_own hown, hB, ?_⟩
  rintro a rfl
  exact (hown.lt a.block rfl).1

set_option maxHeartbeats 2000000 in
theorem turns_any (w : World) :
    Calls Try.prog 21 #[] w fun e w' => e = .returned (.bool true) ∧ Below w.heap.size w w' := by
  go_enter Try.func21, Try.ntmps21
  go_wp2_with fail
  refine (pick_nat 3 (-1) 2 w (by omega) (by omega) ⟨by omega, by omega⟩ (by decide)).mono ?_
  rintro e w1 ⟨rfl, rfl⟩
  go_wp2_with fail
  refine (pick_nat 3 7 1 w (by omega) (by omega) ⟨by omega, by omega⟩ (by decide)).mono ?_
  rintro e w1 ⟨rfl, rfl⟩
  go_wp2_with fail
  refine (pick_neg 0 1 w (by omega)).mono ?_
  rintro e w1 ⟨rfl, rfl⟩
  go_wp2_with fail
  refine (order_ex 3 (some ⟨w.heap.size, 0, none⟩) 2 2 [2, 1] [2, 1, 0] _ (by omega) rfl (At.lit w _ _) (by decide) (by decide) (by intro a h _; injection h with h; subst h; simp) (by decide)).mono ?_
  rintro e w1 ⟨A1, c1, rfl, h1, hB1, hA1⟩
  go_wp2_with fail
  refine (order_ex 3 (some ⟨w1.heap.size, 0, none⟩) 1 1 [-1] [2, 0, 1] _ (by omega) rfl (At.lit w1 _ _) (by decide) (by decide) (by intro a h _; injection h with h; subst h; simp) (by decide)).mono ?_
  rintro e w2 ⟨A2, c2, rfl, h2, hB2, hA2⟩
  go_wp2_with fail
  refine (order_ex 3 none 0 0 [] [0, 1, 2] w2 (by omega) rfl (At.nil _ _) (by decide) (by decide) (by intro a h; cases h) (by decide)).mono ?_
  rintro e w3 ⟨A3, c3, rfl, h3, hB3, hA3⟩
  go_wp2_with fail
  refine (order_bad (-1) _ w3 (by omega)).mono ?_
  rintro e w4 ⟨rfl, rfl⟩
  go_wp2_with fail
  have hA3 := h3.alloc (Obj.cells #[Value.int IntKind.i64 2, Value.int IntKind.i64 1, Value.int IntKind.i64 0] 3)
  refine (ints_same A1 (some ⟨w3.heap.size, 0, none⟩) 3 c1 3 [2, 1, 0] _ rfl (((((h1.alloc _).below hB2).below hB3)).alloc _) (At.lit w3 _ _) (by decide)).mono ?_
  rintro e w4 ⟨rfl, hB4⟩
  go_wp2_with fail
  have h2' := (((h2.below hB3).alloc _).below hB4)
  refine (ints_same A2 (some ⟨w4.heap.size, 0, none⟩) 3 c2 3 [2, 0, 1] _ rfl (h2'.alloc _) (At.lit w4 _ _) (by decide)).mono ?_
  rintro e w5 ⟨rfl, hB5⟩
  go_wp2_with fail
  have h3' := (((h3.alloc _).below hB4).alloc _).below hB5
  refine (ints_same A3 (some ⟨w5.heap.size, 0, none⟩) 3 c3 3 [0, 1, 2] _ rfl (h3'.alloc _) (At.lit w5 _ _) (by decide)).mono ?_
  rintro e w6 ⟨rfl, hB6⟩
  go_wp2_with fail
  go_ret
  refine ⟨rfl, ?_⟩
  have s1 := hB1.size
  have s2 := hB2.size
  have s3 := hB3.size
  have s4 := hB4.size
  have s5 := hB5.size
  simp only [World.size_alloc] at s1 s2 s3 s4 s5
  have k1 := (Below.refl w.heap.size w).alloc (Nat.le_refl _) (Obj.cells #[Value.int IntKind.i64 2, Value.int IntKind.i64 1] 3)
  have k2 := k1.trans (hB1.mono (by simp))
  have k3 := (k2.alloc (by omega) _).trans (hB2.mono (by simp; omega))
  have k4 := k3.trans (hB3.mono (by omega))
  have k5 := (k4.alloc (by omega) _).trans (hB4.mono (by simp; omega))
  have k6 := (k5.alloc (by omega) _).trans (hB5.mono (by simp; omega))
  exact (k6.alloc (by omega) _).trans (hB6.mono (by simp; omega))
end Go.Proofs.Ytimiedahbmfkhaa
