import Derived.Test.YthpgaecloecflaaB8
namespace Go.Proofs.Ythpgaecloecflaa
open Go.RowKit

def pA : Pl := ⟨true, 0, 0, 5, 9⟩
def pB : Pl := ⟨true, 0, 1, 5, 1⟩
def pC : Pl := ⟨true, 1, 0, 0, 1⟩

theorem none_before {P : Nat → Prop} : ∀ j, j < 0 → P j := fun j hj => absurd hj (Nat.not_lt_zero j)
theorem one_before {P : Nat → Prop} (h : P 0) : ∀ j, j < 1 → P j := fun j hj => by
  obtain rfl : j = 0 := by omega
  exact h

theorem step1 {w : World} {t p : Nat} (h : Tab w t p 2 0 [zp, zp, zp, zp]) (htp : t ≠ p) (B : Nat) (hBt : B ≤ t) (hBp : B ≤ p) :
    Calls Try.prog 10 #[.pointer (some ⟨t, 0, none⟩), .agg #[.int .i64 0, .int .i64 0, .int .i64 5], .int .i64 9] w fun e w' => e = .returned (.int .i64 0) ∧ Tab w' t p 2 1 [pA, zp, zp, zp] ∧ Below B w w' :=
  put_new h htp B hBt hBp (by decide) (by decide) (by decide) (by decide) 0 0 5 (by decide) (by decide) (by decide) (by decide) 0 0 (by decide) none_before rfl 9

theorem step2 {w : World} {t p : Nat} (h : Tab w t p 2 1 [pA, zp, zp, zp]) :
    Calls Try.prog 12 #[.pointer (some ⟨t, 0, none⟩), .agg #[.int .i64 0, .int .i64 0, .int .i64 5]] w fun e w' => e = .returned (.tuple #[.int .i64 9, .bool true]) ∧ Below w.heap.size w w' :=
  get_ok h (by decide) 0 0 5 (by decide) (by decide) (by decide) (by decide) 0 0 (by decide) none_before pA rfl (by decide)

theorem step3 {w : World} {t p : Nat} (h : Tab w t p 2 1 [pA, zp, zp, zp]) :
    Calls Try.prog 12 #[.pointer (some ⟨t, 0, none⟩), .agg #[.int .i64 0, .int .i64 1, .int .i64 5]] w fun e w' => e = .returned (.tuple #[.int .i64 0, .bool false]) ∧ Below w.heap.size w w' :=
  get_ok h (by decide) 0 1 5 (by decide) (by decide) (by decide) (by decide) 0 1 (by decide) none_before zp rfl (by decide)

theorem step4 {w : World} {t p : Nat} (h : Tab w t p 2 1 [pA, zp, zp, zp]) (htp : t ≠ p) (B : Nat) (hBt : B ≤ t) (hBp : B ≤ p) :
    Calls Try.prog 10 #[.pointer (some ⟨t, 0, none⟩), .agg #[.int .i64 0, .int .i64 1, .int .i64 5], .int .i64 1] w fun e w' => e = .returned (.int .i64 0) ∧ Tab w' t p 2 2 [pA, pB, zp, zp] ∧ Below B w w' :=
  put_new h htp B hBt hBp (by decide) (by decide) (by decide) (by decide) 0 1 5 (by decide) (by decide) (by decide) (by decide) 0 1 (by decide) none_before rfl 1

theorem step5 {w : World} {t p : Nat} (h : Tab w t p 2 2 [pA, pB, zp, zp]) (htp : t ≠ p) (B : Nat) (hBt : B ≤ t) (hBp : B ≤ p) :
    Calls Try.prog 10 #[.pointer (some ⟨t, 0, none⟩), .agg #[.int .i64 1, .int .i64 0, .int .i64 0], .int .i64 1] w fun e w' => e = .returned (.int .i64 140) ∧ Below w.heap.size w w' :=
  put_full h htp B hBt hBp (by decide) rfl (by decide) (by decide) 1 0 0 (by decide) (by decide) (by decide) (by decide) 1 2 (by decide) (one_before ⟨pB, by decide, by decide⟩) rfl 1

theorem step6 {w : World} {t p : Nat} (h : Tab w t p 2 2 [pA, pB, zp, zp]) (htp : t ≠ p) (B : Nat) (hBt : B ≤ t) (hBp : B ≤ p) :
    Calls Try.prog 14 #[.pointer (some ⟨t, 0, none⟩), .agg #[.int .i64 0, .int .i64 0, .int .i64 5]] w fun e w' => e = .returned (.bool true) ∧ Tab w' t p 2 1 [zp, pB, zp, zp] ∧ Below B w w' :=
  drop_ok h htp B hBt hBp (by decide) (by decide) (by decide) 0 0 5 (by decide) (by decide) (by decide) (by decide) 0 0 (by decide) none_before pA rfl (by decide) (by decide) 1 (one_before ⟨pB, by decide, by decide, by decide, by decide, by decide, by decide⟩) rfl

theorem step7 {w : World} {t p : Nat} (h : Tab w t p 2 1 [zp, pB, zp, zp]) (htp : t ≠ p) (B : Nat) (hBt : B ≤ t) (hBp : B ≤ p) :
    Calls Try.prog 10 #[.pointer (some ⟨t, 0, none⟩), .agg #[.int .i64 1, .int .i64 0, .int .i64 0], .int .i64 1] w fun e w' => e = .returned (.int .i64 0) ∧ Tab w' t p 2 2 [zp, pB, pC, zp] ∧ Below B w w' :=
  put_new h htp B hBt hBp (by decide) (by decide) (by decide) (by decide) 1 0 0 (by decide) (by decide) (by decide) (by decide) 1 2 (by decide) (one_before ⟨pB, by decide, by decide⟩) rfl 1

theorem step0 (w : World) :
    Calls Try.prog 8 #[.int .i64 2] w fun e w' => ∃ t p, e = .returned (.tuple #[.pointer (some ⟨t, 0, none⟩), .int .i64 0]) ∧ Tab w' t p 2 0 [zp, zp, zp, zp] ∧ w.heap.size ≤ t ∧ w.heap.size ≤ p ∧ t ≠ p ∧ Below w.heap.size w w' :=
  new_ok 2 (by decide) (by decide) w

set_option maxHeartbeats 2000000 in
theorem tables_any (w : World) : Calls Try.prog 9 #[] w fun e w' => e = .returned (.bool true) ∧ Below w.heap.size w w' := by
  go_enter Try.func9, Try.ntmps9
  go_wp2_with fail
  refine (step0 w).mono ?_
  rintro e w1 ⟨t, p, rfl, T1, htB, hpB, htp, k1⟩
  have hp1 : (some (⟨t, 0, none⟩ : Addr) == none) = false := rfl
  go_wp2_with fail
  refine (step1 T1 htp w.heap.size htB hpB).mono ?_
  rintro e w2 ⟨rfl, T2, h2⟩
  have k2 := k1.trans h2
  go_wp2_with fail
  refine (step2 T2).mono ?_
  rintro e w3 ⟨rfl, h3⟩
  have T3 := T2.below h3
  have k3 := k2.trans (h3.mono k2.size)
  go_wp2_with fail
  refine (step3 T3).mono ?_
  rintro e w4 ⟨rfl, h4⟩
  have T4 := T3.below h4
  have k4 := k3.trans (h4.mono k3.size)
  go_wp2_with fail
  refine (step4 T4 htp w.heap.size htB hpB).mono ?_
  rintro e w5 ⟨rfl, T5, h5⟩
  have k5 := k4.trans h5
  go_wp2_with fail
  refine (step5 T5 htp w.heap.size htB hpB).mono ?_
  rintro e w6 ⟨rfl, h6⟩
  have T6 := T5.below h6
  have k6 := k5.trans (h6.mono k5.size)
  go_wp2_with fail
  refine (step6 T6 htp w.heap.size htB hpB).mono ?_
  rintro e w7 ⟨rfl, T7, h7⟩
  have k7 := k6.trans h7
  go_wp2_with fail
  refine (step7 T7 htp w.heap.size htB hpB).mono ?_
  rintro e w8 ⟨rfl, T8, h8⟩
  have k8 := k7.trans h8
  go_wp2_with fail
  refine (len_c t 2 w8 (T8.top.cell 1)).mono ?_
  rintro e w9 ⟨rfl, rfl⟩
  go_wp2
  go_ret
  exact ⟨rfl, k8⟩

theorem get_nil (a b c : Int) (w : World) : Calls Try.prog 12 #[.pointer none, .agg #[.int .i64 a, .int .i64 b, .int .i64 c]] w fun e w' => e = .returned (.tuple #[.int .i64 0, .bool false]) ∧ Below w.heap.size w w' := by
  go_enter Try.func12, Try.ntmps12
  go_wp2_with fail
  refine (len_nil _).mono ?_
  rintro e w1 ⟨rfl, rfl⟩
  go_wp2
  go_ret2
  exact ⟨rfl, (Below.refl _ _).alloc (Nat.le_refl _) _⟩

theorem put_nil (a b c n : Int) (w : World) : Calls Try.prog 10 #[.pointer none, .agg #[.int .i64 a, .int .i64 b, .int .i64 c], .int .i64 n] w fun e w' => e = .returned (.int .i64 3) ∧ Below w.heap.size w w' := by
  go_enter Try.func10, Try.ntmps10
  go_wp2
  go_ret
  exact ⟨rfl, (Below.refl _ _).alloc (Nat.le_refl _) _⟩

theorem drop_nil (a b c : Int) (w : World) : Calls Try.prog 14 #[.pointer none, .agg #[.int .i64 a, .int .i64 b, .int .i64 c]] w fun e w' => e = .returned (.bool false) ∧ Below w.heap.size w w' := by
  go_enter Try.func14, Try.ntmps14
  go_wp2_with fail
  refine (len_nil _).mono ?_
  rintro e w1 ⟨rfl, rfl⟩
  go_wp2
  go_ret
  exact ⟨rfl, (Below.refl _ _).alloc (Nat.le_refl _) _⟩

theorem keys_nil (w : World) : Calls Try.prog 18 #[.pointer none] w fun e w' => e = .returned (.slice none 0 0) ∧ Below w.heap.size w w' := by
  go_enter Try.func18, Try.ntmps18
  go_wp2
  go_ret
  exact ⟨rfl, Below.refl _ _⟩

set_option maxHeartbeats 2000000 in
theorem nil_walk (a b c n : Int) (w : World) : Calls Try.prog 6 #[.agg #[.int .i64 a, .int .i64 b, .int .i64 c], .int .i64 n] w fun e w' => e = .returned (.bool true) ∧ Below w.heap.size w w' := by
  have hbox : Row (w.alloc (.cells #[.int .i64 a, .int .i64 b, .int .i64 c] 34)) w.heap.size 34 [.int .i64 a, .int .i64 b, .int .i64 c] := Row.new w 34 #[.int .i64 a, .int .i64 b, .int .i64 c]
  have hB0 : Below w.heap.size w (w.alloc (.cells #[.int .i64 a, .int .i64 b, .int .i64 c] 34)) := (Below.refl _ _).alloc (Nat.le_refl _) _
  go_enter Try.func6, Try.ntmps6
  go_wp2_with fail
  refine (get_nil a b c _).mono ?_
  rintro e w1 ⟨rfl, h1⟩
  have k1 := hB0.trans (h1.mono hB0.size)
  have x1 := hbox.below h1 hbox.lt
  have b0 : w1.cell? ⟨w.heap.size, 0, none⟩ = some (.int .i64 a) := x1.cell 0
  have b1 : w1.cell? ⟨w.heap.size, 1, none⟩ = some (.int .i64 b) := x1.cell 1
  have b2 : w1.cell? ⟨w.heap.size, 2, none⟩ = some (.int .i64 c) := x1.cell 2
  go_wp2_with fail
  refine (tables_any w1).mono ?_
  rintro e w2 ⟨rfl, h2⟩
  have k2 := k1.trans (h2.mono k1.size)
  have x2 := x1.below h2 x1.lt
  clear b0 b1 b2
  have b0 : w2.cell? ⟨w.heap.size, 0, none⟩ = some (.int .i64 a) := x2.cell 0
  have b1 : w2.cell? ⟨w.heap.size, 1, none⟩ = some (.int .i64 b) := x2.cell 1
  have b2 : w2.cell? ⟨w.heap.size, 2, none⟩ = some (.int .i64 c) := x2.cell 2
  go_wp2_with fail
  refine (put_nil a b c n w2).mono ?_
  rintro e w3 ⟨rfl, h3⟩
  have k3 := k2.trans (h3.mono k2.size)
  have x3 := x2.below h3 x2.lt
  clear b0 b1 b2
  have b0 : w3.cell? ⟨w.heap.size, 0, none⟩ = some (.int .i64 a) := x3.cell 0
  have b1 : w3.cell? ⟨w.heap.size, 1, none⟩ = some (.int .i64 b) := x3.cell 1
  have b2 : w3.cell? ⟨w.heap.size, 2, none⟩ = some (.int .i64 c) := x3.cell 2
  go_wp2_with fail
  refine (drop_nil a b c w3).mono ?_
  rintro e w4 ⟨rfl, h4⟩
  have k4 := k3.trans (h4.mono k3.size)
  go_wp2_with fail
  refine (len_nil w4).mono ?_
  rintro e w5 ⟨rfl, rfl⟩
  go_wp2_with fail
  refine (keys_nil w5).mono ?_
  rintro e w6 ⟨rfl, h6⟩
  go_wp2
  go_ret
  exact ⟨rfl, k4.trans (h6.mono k4.size)⟩
end Go.Proofs.Ythpgaecloecflaa
