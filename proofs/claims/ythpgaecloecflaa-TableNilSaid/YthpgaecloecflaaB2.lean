import Derived.Test.YthpgaecloecflaaB1
namespace Go.Proofs.Ythpgaecloecflaa
open Go.RowKit

theorem free_lit (t p i L : Nat) (x : Pl) (w : World) (v : Bool) (hz : (x == ⟨false, 0, 0, 0, 0⟩) = v) (hil : i < L) (hpl : L ≤ 1000000) (c2 : w.cell? ⟨t, 2, none⟩ = some (.slice (some ⟨p, 0, none⟩) L L)) (d0 : w.cell? ⟨p, i * 5, none⟩ = some (.bool x.u))
    (d1 : w.cell? ⟨p, i * 5 + 1, none⟩ = some (.int .i64 x.a)) (d2 : w.cell? ⟨p, i * 5 + 2, none⟩ = some (.int .i64 x.b)) (d3 : w.cell? ⟨p, i * 5 + 3, none⟩ = some (.int .i64 x.c)) (d4 : w.cell? ⟨p, i * 5 + 4, none⟩ = some (.int .i64 x.n)) :
    Calls Try.prog 23 #[.pointer (some ⟨t, 0, none⟩), .int .i64 i] w fun e w' => e = .returned (.bool v) ∧ w' = w := by
  subst hz
  exact free_c t p i L x w hil hpl c2 d0 d1 d2 d3 d4

theorem behind_c (t p i L : Nat) (w : World) (hi : i < L) (hpl : L ≤ 1000000) (c2 : w.cell? ⟨t, 2, none⟩ = some (.slice (some ⟨p, 0, none⟩) L L)) :
    Calls Try.prog 31 #[.pointer (some ⟨t, 0, none⟩), .int .i64 i] w fun e w' => e = .returned (.int .i64 ((i + 1) % L : Nat)) ∧ w' = w := by
  go_enter Try.func31, Try.ntmps31
  go_wp2
  go_ret
  exact ⟨by simp only [Int.natCast_emod, Int.natCast_add]; rfl, rfl⟩

set_option maxHeartbeats 4000000 in
theorem find_ok {w : World} {t p : Nat} {most keys : Int} {pl : List Pl} (h : Tab w t p most keys pl) (a b c : Nat) (ha : a ≤ 1000) (hb : b ≤ 1) (hc : c ≤ 199) (hpl : pl.length ≤ 1000000)
    (s r : Nat) (hr : (hom a b c pl.length + s) % pl.length = r) (hs : ∀ j, j < s → ∃ x, pl[(hom a b c pl.length + j) % pl.length]? = some x ∧ stops a b c x = false) (x : Pl) (hx : pl[r]? = some x) (hst : stops a b c x = true) :
    Calls Try.prog 22 #[.pointer (some ⟨t, 0, none⟩), .agg #[.int .i64 a, .int .i64 b, .int .i64 c]] w fun e w' => e = .returned (.int .i64 (r : Nat)) ∧ Below w.heap.size w w' := by
  have hL : 0 < pl.length := by have := (List.getElem?_eq_some_iff.1 hx).1; omega
  have hB0 : Below w.heap.size w (w.alloc (.cells #[.int .i64 a, .int .i64 b, .int .i64 c] 34)) := (Below.refl _ _).alloc (Nat.le_refl _) _
  have hbox : Row (w.alloc (.cells #[.int .i64 a, .int .i64 b, .int .i64 c] 34)) w.heap.size 34 [.int .i64 a, .int .i64 b, .int .i64 c] := Row.new w 34 #[.int .i64 a, .int .i64 b, .int .i64 c]
  have HR := Lib.hid hr
  have HS := Lib.hid hs
  have HX := Lib.hid hx
  have HT := Lib.hid hst
  clear hr hs hx hst
  go_enter Try.func22, Try.ntmps22
  go_wp2_with fail
  refine (home_ok (h.below hB0) a b c ha hb hc hL hpl).mono ?_
  rintro e w1 ⟨rfl, hB1⟩
  have hbox1 := hbox.below hB1 hbox.lt
  have hB1' : Below w.heap.size w w1 := hB0.trans (hB1.mono (by simp))
  clear hB0 hB1 hbox
  have hh0 : hom a b c pl.length < pl.length := Nat.mod_lt _ hL
  generalize hh : hom a b c pl.length = h0 at *
  clear hh
  go_wp2_with fail
  go_loopg [5] s (fun k iv wr => ∃ i j : Nat, iv = .int .i64 i ∧ Hid (j + k = s) ∧ Hid (i = (h0 + j) % pl.length) ∧ Row wr w.heap.size 34 [.int .i64 a, .int .i64 b, .int .i64 c] ∧ Below w.heap.size w wr)
  case atStart => exact ⟨h0, 0, rfl, Nat.zero_add _, by show _ = _; rw [Nat.add_zero, Nat.mod_eq_of_lt hh0], hbox1, hB1'⟩
  case round =>
    obtain ⟨i, j, rfl, HJ, HI, hbx, hB⟩ := hrel
    have hT := h.below hB
    have c2 : wr.cell? ⟨t, 2, none⟩ = some (.slice (some ⟨p, 0, none⟩) pl.length pl.length) := hT.top.cell 2
    have b0 : wr.cell? ⟨w.heap.size, 0, none⟩ = some (.int .i64 a) := hbx.cell 0
    have b1 : wr.cell? ⟨w.heap.size, 1, none⟩ = some (.int .i64 b) := hbx.cell 1
    have b2 : wr.cell? ⟨w.heap.size, 2, none⟩ = some (.int .i64 c) := hbx.cell 2
    have hil : i < pl.length := by rw [HI.out]; exact Nat.mod_lt _ hL
    by_cases hjs : j = s
    · have hk0 : gk = 0 := by have := HJ.out; omega
      have hx2 : pl[i]? = some x := by rw [HI.out, hjs, HR.out]; exact HX.out
      have hir : i = r := by rw [HI.out, hjs, HR.out]
      have HIR := Lib.hid hir
      obtain ⟨d0, d1, d2, d3, d4⟩ := hT.cell hx2
      have hTT := HT.out
      clear hx2 hir hT h
      generalize pl.length = L at *
      by_cases hz : (x == ⟨false, 0, 0, 0, 0⟩) = true
      · have HZ := Lib.hid hz
        clear hz hTT
        go_wp2_with fail
        go_quiet ((go_at_call 23; exact Calls.quiet_of_same (free_lit t p i L x _ true HZ.out hil hpl c2 d0 d1 d2 d3 d4)))
        go_wp2
        go_ret
        exact ⟨by rw [HIR.out]; rfl, below_drewN hB _⟩
      · have hz2 : (x == ⟨false, 0, 0, 0, 0⟩) = false := by simpa using hz
        have HZ := Lib.hid hz2
        unfold stops at hTT
        rw [hz2, Bool.false_or] at hTT
        simp only [Bool.and_eq_true, beq_iff_eq] at hTT
        obtain ⟨⟨k1, k2⟩, k3⟩ := hTT
        rw [k1] at d1
        rw [k2] at d2
        rw [k3] at d3
        have K1 := Lib.hid k1
        have K2 := Lib.hid k2
        have K3 := Lib.hid k3
        clear hz hz2 k1 k2 k3
        go_wp2_with fail
        go_quiet ((go_at_call 23; exact Calls.quiet_of_same (free_lit t p i L x _ false HZ.out hil hpl c2 d0 (by rw [K1.out]; exact d1) (by rw [K2.out]; exact d2) (by rw [K3.out]; exact d3) d4)))
        go_wp2
        go_ret
        exact ⟨by rw [HIR.out]; rfl, below_drewN hB _⟩
    · have hjl : j < s := by have := HJ.out; omega
      obtain ⟨y, hy, hst⟩ := HS.out j hjl
      rw [← HI.out] at hy
      obtain ⟨d0, d1, d2, d3, d4⟩ := hT.cell hy
      clear hy hT h hjs
      unfold stops at hst
      rw [Bool.or_eq_false_iff] at hst
      obtain ⟨hz, hk⟩ := hst
      have HZ := Lib.hid hz
      clear hz
      generalize pl.length = L at *
      have hcases : ¬ (y.a = a) ∨ (y.a = a ∧ ¬ (y.b = b)) ∨ (y.a = a ∧ y.b = b ∧ ¬ (y.c = c)) := by
        by_cases q1 : y.a = a
        · by_cases q2 : y.b = b
          · by_cases q3 : y.c = c
            · exfalso
              rw [q1, q2, q3] at hk
              simp at hk
            · exact .inr (.inr ⟨q1, q2, q3⟩)
          · exact .inr (.inl ⟨q1, q2⟩)
        · exact .inl q1
      clear hk
      have fin : ∀ (nq : Nat), (∃ i' j', Value.int IntKind.i64 ((i + 1) % L : Nat) = .int .i64 (i' : Nat) ∧ Hid (j' + (gk - 1) = s) ∧ Hid (i' = (h0 + j') % L) ∧ Row (wr.drewN nq) w.heap.size 34 [.int .i64 a, .int .i64 b, .int .i64 c] ∧ Below w.heap.size w (wr.drewN nq)) := by
        intro nq
        refine ⟨(i + 1) % L, j + 1, rfl, ?_, ?_, hbx, below_drewN hB _⟩
        · show _ = _
          have := HJ.out
          omega
        · show _ = _
          rw [HI.out, Nat.mod_add_mod, Nat.add_assoc]
      have FIN := Lib.hid fin
      have hgk : gk - 1 < gk := by have := HJ.out; omega
      clear fin
      rcases hcases with n1 | ⟨k1, n2⟩ | ⟨k1, k2, n3⟩
      · have n1' : ((y.a : Int) == (a : Int)) = false := by simp; omega
        have n1'' : ¬ ((y.a : Int) = (a : Int)) := by omega
        go_wp2_with fail
        go_quiet ((go_at_call 23; exact Calls.quiet_of_same (free_lit t p i L y _ false HZ.out hil hpl c2 d0 d1 d2 d3 d4)))
        go_wp2_with fail
        refine (behind_c t p i L (wr.drewN nq) hil hpl c2).mono ?_
        rintro e w2 ⟨rfl, rfl⟩
        go_wp2
        go_roundg (gk - 1)
        case measure => exact hgk
        case rel => exact FIN.out _
      · rw [k1] at d1
        have K1 := Lib.hid k1
        clear k1
        have n1' : ((y.b : Int) == (b : Int)) = false := by simp; omega
        have n1'' : ¬ ((y.b : Int) = (b : Int)) := by omega
        go_wp2_with fail
        go_quiet ((go_at_call 23; exact Calls.quiet_of_same (free_lit t p i L y _ false HZ.out hil hpl c2 d0 (by rw [K1.out]; exact d1) d2 d3 d4)))
        go_wp2_with fail
        refine (behind_c t p i L (wr.drewN nq) hil hpl c2).mono ?_
        rintro e w2 ⟨rfl, rfl⟩
        go_wp2
        go_roundg (gk - 1)
        case measure => exact hgk
        case rel => exact FIN.out _
      · rw [k1] at d1
        rw [k2] at d2
        have K1 := Lib.hid k1
        have K2 := Lib.hid k2
        clear k1 k2
        have n1' : ((y.c : Int) == (c : Int)) = false := by simp; omega
        have n1'' : ¬ ((y.c : Int) = (c : Int)) := by omega
        go_wp2_with fail
        go_quiet ((go_at_call 23; exact Calls.quiet_of_same (free_lit t p i L y _ false HZ.out hil hpl c2 d0 (by rw [K1.out]; exact d1) (by rw [K2.out]; exact d2) d3 d4)))
        go_wp2_with fail
        refine (behind_c t p i L (wr.drewN nq) hil hpl c2).mono ?_
        rintro e w2 ⟨rfl, rfl⟩
        go_wp2
        go_roundg (gk - 1)
        case measure => exact hgk
        case rel => exact FIN.out _
end Go.Proofs.Ythpgaecloecflaa
