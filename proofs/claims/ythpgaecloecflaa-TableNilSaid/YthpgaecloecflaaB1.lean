import Derived.Test.YthpgaecloecflaaRows
import Derived.Test.YthpgaecloecflaaRow
import Derived.Test.YthpgaecloecflaaFrame
import Derived.Deep.RegionHeld3
namespace Go.Proofs.Ythpgaecloecflaa
open Go.RowKit

/-- A place of a table. -/
structure Pl where
  u : Bool
  a : Nat
  b : Nat
  c : Nat
  n : Int
deriving DecidableEq

def plc (x : Pl) : List Value := [.bool x.u, .int .i64 x.a, .int .i64 x.b, .int .i64 x.c, .int .i64 x.n]

/-- A table that lies at block t, its places at block p. -/
def Tab (w : World) (t p : Nat) (most keys : Int) (pl : List Pl) : Prop :=
  Row w t 53 [.int .i64 most, .int .i64 keys, .slice (some ⟨p, 0, none⟩) pl.length pl.length] ∧ Row w p 57 (pl.flatMap plc)
theorem Tab.top {w : World} {t p : Nat} {most keys : Int} {pl : List Pl} (h : Tab w t p most keys pl) : Row w t 53 [.int .i64 most, .int .i64 keys, .slice (some ⟨p, 0, none⟩) pl.length pl.length] := h.1
theorem Tab.row {w : World} {t p : Nat} {most keys : Int} {pl : List Pl} (h : Tab w t p most keys pl) : Row w p 57 (pl.flatMap plc) := h.2

theorem flat_get (pl : List Pl) (i j : Nat) (hj : j < 5) : (pl.flatMap plc)[i * 5 + j]? = (pl[i]?).bind (fun x => (plc x)[j]?) := by
  induction pl generalizing i with
  | nil => simp
  | cons x l ih =>
    rcases i with _ | i
    · rw [List.flatMap_cons, List.getElem?_append_left (by simp [plc]; omega)]
      simp
    · rw [List.flatMap_cons, List.getElem?_append_right (by simp [plc]; omega)]
      have : (i + 1) * 5 + j - (plc x).length = i * 5 + j := by simp [plc]; omega
      rw [this, ih]
      simp

theorem Tab.cell {w : World} {t p : Nat} {most keys : Int} {pl : List Pl} (h : Tab w t p most keys pl) {i : Nat} {x : Pl} (hi : pl[i]? = some x) :
    w.cell? ⟨p, i * 5, none⟩ = some (.bool x.u) ∧ w.cell? ⟨p, i * 5 + 1, none⟩ = some (.int .i64 x.a) ∧ w.cell? ⟨p, i * 5 + 2, none⟩ = some (.int .i64 x.b) ∧
    w.cell? ⟨p, i * 5 + 3, none⟩ = some (.int .i64 x.c) ∧ w.cell? ⟨p, i * 5 + 4, none⟩ = some (.int .i64 x.n) := by
  refine ⟨?_, ?_, ?_, ?_, ?_⟩
  · rw [h.row.cell]; have := flat_get pl i 0 (by omega); rw [hi] at this; simpa [plc] using this
  · rw [h.row.cell]; have := flat_get pl i 1 (by omega); rw [hi] at this; simpa [plc] using this
  · rw [h.row.cell]; have := flat_get pl i 2 (by omega); rw [hi] at this; simpa [plc] using this
  · rw [h.row.cell]; have := flat_get pl i 3 (by omega); rw [hi] at this; simpa [plc] using this
  · rw [h.row.cell]; have := flat_get pl i 4 (by omega); rw [hi] at this; simpa [plc] using this

theorem len_ok {w : World} {t p : Nat} {most keys : Int} {pl : List Pl} (h : Tab w t p most keys pl) :
    Calls Try.prog 16 #[.pointer (some ⟨t, 0, none⟩)] w fun e w' => e = .returned (.int .i64 keys) ∧ w' = w := by
  have c1 : w.cell? ⟨t, 1, none⟩ = some (.int .i64 keys) := h.top.cell 1
  go_enter Try.func16, Try.ntmps16
  go_wp2
  go_ret
  exact ⟨rfl, rfl⟩

theorem len_nil (w : World) : Calls Try.prog 16 #[.pointer none] w fun e w' => e = .returned (.int .i64 0) ∧ w' = w := by
  go_enter Try.func16, Try.ntmps16
  go_wp2
  go_ret
  exact ⟨rfl, rfl⟩

theorem within_ok (n m : Int) (w : World) : Calls Try.prog 29 #[.int .i64 n, .int .i64 m] w fun e w' => e = .returned (.bool (decide (0 ≤ n) && decide (n ≤ m))) ∧ w' = w := by
  by_cases h : 0 ≤ n
  · go_enter Try.func29, Try.ntmps29
    go_wp2
    go_ret
    exact ⟨by simp [h], rfl⟩
  · go_enter Try.func29, Try.ntmps29
    go_wp2
    go_ret
    exact ⟨by simp; omega, rfl⟩

theorem pl_zero (x : Pl) (h : x.u = false ∧ x.a = 0 ∧ x.b = 0 ∧ x.c = 0 ∧ x.n = 0) : (x == ⟨false, 0, 0, 0, 0⟩) = true := by
  rcases x with ⟨u, a, b, c, n⟩
  simp_all

theorem pl_more (x : Pl) (h : x.u = true ∨ x.a ≠ 0 ∨ x.b ≠ 0 ∨ x.c ≠ 0 ∨ x.n ≠ 0) : (x == ⟨false, 0, 0, 0, 0⟩) = false := by
  rcases x with ⟨u, a, b, c, n⟩
  rw [beq_eq_false_iff_ne]
  intro h2
  simp only [Pl.mk.injEq] at h2
  obtain ⟨rfl, rfl, rfl, rfl, rfl⟩ := h2
  simp at h

theorem free_c (t p i L : Nat) (x : Pl) (w : World) (hil : i < L) (hpl : L ≤ 1000000) (c2 : w.cell? ⟨t, 2, none⟩ = some (.slice (some ⟨p, 0, none⟩) L L)) (d0 : w.cell? ⟨p, i * 5, none⟩ = some (.bool x.u))
    (d1 : w.cell? ⟨p, i * 5 + 1, none⟩ = some (.int .i64 x.a)) (d2 : w.cell? ⟨p, i * 5 + 2, none⟩ = some (.int .i64 x.b)) (d3 : w.cell? ⟨p, i * 5 + 3, none⟩ = some (.int .i64 x.c)) (d4 : w.cell? ⟨p, i * 5 + 4, none⟩ = some (.int .i64 x.n)) :
    Calls Try.prog 23 #[.pointer (some ⟨t, 0, none⟩), .int .i64 i] w fun e w' => e = .returned (.bool (x == ⟨false, 0, 0, 0, 0⟩)) ∧ w' = w := by
  go_enter Try.func23, Try.ntmps23
  go_wp2
  all_goals
    go_ret
    refine ⟨?_, rfl⟩
    first
      | (rw [pl_zero x (by simp_all)]; rfl)
      | (rw [pl_more x (by simp_all)]; rfl)

theorem free_ok {w : World} {t p : Nat} {most keys : Int} {pl : List Pl} (h : Tab w t p most keys pl) (i : Nat) (x : Pl) (hi : pl[i]? = some x) (hpl : pl.length ≤ 1000000) :
    Calls Try.prog 23 #[.pointer (some ⟨t, 0, none⟩), .int .i64 i] w fun e w' => e = .returned (.bool (x == ⟨false, 0, 0, 0, 0⟩)) ∧ w' = w := by
  obtain ⟨d0, d1, d2, d3, d4⟩ := h.cell hi
  exact free_c t p i pl.length x w (List.getElem?_eq_some_iff.1 hi).1 hpl (h.top.cell 2) d0 d1 d2 d3 d4

/-- A key's home. -/
def hom (a b c L : Nat) : Nat := ((a * 2 + b) * 200 + c) * 40503 % 65537 % L

theorem home_ok {w : World} {t p : Nat} {most keys : Int} {pl : List Pl} (h : Tab w t p most keys pl) (a b c : Nat) (ha : a ≤ 1000) (hb : b ≤ 1) (hc : c ≤ 199) (hL : 0 < pl.length) (hpl : pl.length ≤ 1000000) :
    Calls Try.prog 30 #[.pointer (some ⟨t, 0, none⟩), .agg #[.int .i64 a, .int .i64 b, .int .i64 c]] w fun e w' => e = .returned (.int .i64 (hom a b c pl.length : Nat)) ∧ Below w.heap.size w w' := by
  have c2 : w.cell? ⟨t, 2, none⟩ = some (.slice (some ⟨p, 0, none⟩) pl.length pl.length) := h.top.cell 2
  have hlt := h.top.lt
  have hne : t ≠ w.heap.size := by omega
  clear h
  generalize pl.length = L at *
  have e1 : ((((a : Int) * 2 + b) * 200 + c) * 40503).tmod 65537 = ((((a * 2 + b) * 200 + c) * 40503 % 65537 : Nat) : Int) := rfl
  have hm : ((a * 2 + b) * 200 + c) * 40503 % 65537 < 65537 := Nat.mod_lt _ (by omega)
  obtain ⟨m, hm2⟩ : ∃ m, ((a * 2 + b) * 200 + c) * 40503 % 65537 = m := ⟨_, rfl⟩
  rw [hm2] at e1 hm
  have HM := Lib.hid hm2
  clear hm2
  have x1 := Lib.hid (IntWalk.i64_in ((a : Int) * 2) (by omega))
  have x2 := Lib.hid (IntWalk.i64_in ((a : Int) * 2 + b) (by omega))
  have x3 := Lib.hid (IntWalk.i64_in (((a : Int) * 2 + b) * 200) (by omega))
  have x4 := Lib.hid (IntWalk.i64_in (((a : Int) * 2 + b) * 200 + c) (by omega))
  have x5 := Lib.hid (IntWalk.i64_in ((((a : Int) * 2 + b) * 200 + c) * 40503) (by omega))
  have E1 := Lib.hid e1
  clear e1
  have hL1 : (0 : Int) < (L : Int) := by omega
  have hL2 : ((L : Int) == 0) = false := by simp; omega
  have hL3 : ¬ (L : Int) = 0 := by omega
  have hL4 : ¬ L = 0 := by omega
  go_enter Try.func30, Try.ntmps30
  go_wp2_with fail
  go_region_held3 (fun w' => w'.cell? ⟨t, 2, none⟩ = some (.slice (some ⟨p, 0, none⟩) L L) ∧ w'.cell? ⟨w.heap.size, 0, none⟩ = some (.int .i64 a) ∧ w'.cell? ⟨w.heap.size, 1, none⟩ = some (.int .i64 b) ∧ w'.cell? ⟨w.heap.size, 2, none⟩ = some (.int .i64 c)) (go_keep) (fail)
  rw [x1.out, x2.out, x3.out, x4.out, x5.out, E1.out]
  go_wp2
  go_ret
  refine ⟨?_, (((Below.refl _ _).alloc (Nat.le_refl _) _) : Below w.heap.size w (w.alloc _)).drew⟩
  unfold hom
  rw [HM.out]
  rfl

theorem behind_ok {w : World} {t p : Nat} {most keys : Int} {pl : List Pl} (h : Tab w t p most keys pl) (i : Nat) (hi : i < pl.length) (hpl : pl.length ≤ 1000000) :
    Calls Try.prog 31 #[.pointer (some ⟨t, 0, none⟩), .int .i64 i] w fun e w' => e = .returned (.int .i64 ((i + 1) % pl.length : Nat)) ∧ w' = w := by
  have c2 : w.cell? ⟨t, 2, none⟩ = some (.slice (some ⟨p, 0, none⟩) pl.length pl.length) := h.top.cell 2
  go_enter Try.func31, Try.ntmps31
  go_wp2
  go_ret
  exact ⟨by simp only [Int.natCast_emod, Int.natCast_add]; rfl, rfl⟩

theorem key_ok (a b c : Nat) (ha : a ≤ 1000) (hb : b ≤ 1) (hc : c ≤ 199) (w : World) :
    Calls Try.prog 21 #[.agg #[.int .i64 a, .int .i64 b, .int .i64 c]] w fun e w' => e = .returned (.bool true) ∧ Below w.heap.size w w' := by
  go_enter Try.func21, Try.ntmps21
  go_wp2_with fail
  refine (within_ok _ _ _).mono ?_
  rintro e w1 ⟨rfl, rfl⟩
  have d1 : (decide (0 ≤ (a : Int)) && decide ((a : Int) ≤ 1000)) = true := by simp; omega
  have d2 : (decide (0 ≤ (b : Int)) && decide ((b : Int) ≤ 1)) = true := by simp; omega
  have d3 : (decide (0 ≤ (c : Int)) && decide ((c : Int) ≤ 199)) = true := by simp; omega
  rw [d1]
  go_wp2_with fail
  refine (within_ok _ _ _).mono ?_
  rintro e w1 ⟨rfl, rfl⟩
  rw [d2]
  go_wp2_with fail
  refine (within_ok _ _ _).mono ?_
  rintro e w1 ⟨rfl, rfl⟩
  rw [d3]
  go_wp2
  go_ret
  exact ⟨rfl, (Below.refl _ _).alloc (Nat.le_refl _) _⟩

theorem Tab.below {w w' : World} {t p : Nat} {most keys : Int} {pl : List Pl} (h : Tab w t p most keys pl) (hb : Below w.heap.size w w') : Tab w' t p most keys pl :=
  ⟨h.top.below hb h.top.lt, h.row.below hb h.row.lt⟩

/-- A place at which a search ends. -/
def stops (a b c : Nat) (x : Pl) : Bool := x == ⟨false, 0, 0, 0, 0⟩ || (x.a == a && x.b == b && x.c == c)

end Go.Proofs.Ythpgaecloecflaa
