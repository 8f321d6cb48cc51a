import Derived.Test.YthpgaecloecflaaB7
namespace Go.Proofs.Ythpgaecloecflaa
open Go.RowKit

/-- What 'close' tells, and the cells that lie behind it. -/
theorem close_post {w : World} {t p : Nat} {most keys : Int} {pl : List Pl} (h : Tab w t p most keys pl) (g s : Nat) (hg : g < pl.length) (hpl : pl.length ≤ 1000000)
    (hs : ∀ j, j < s → ∃ x, pl[(g + 1 + j) % pl.length]? = some x ∧ (x == ⟨false, 0, 0, 0, 0⟩) = false ∧ reach pl.length ((g + 1 + j) % pl.length) g x = false ∧ x.a ≤ 1000 ∧ x.b ≤ 1 ∧ x.c ≤ 199) (he : pl[(g + 1 + s) % pl.length]? = some zp)
    (L : Nat) (hL : pl.length = L) (x : Pl) (hx : pl[g]? = some x) :
    Calls Try.prog 26 #[.pointer (some ⟨t, 0, none⟩), .int .i64 g] w fun e w2 => e = .returned (.int .i64 g) ∧ Hid (Tab w2 t p most keys pl ∧ Below w.heap.size w w2) ∧ w2.cell? ⟨t, 2, none⟩ = some (.slice (some ⟨p, 0, none⟩) L L) ∧
      w2.cell? ⟨p, g * 5, none⟩ = some (.bool x.u) ∧ w2.cell? ⟨p, g * 5 + 1, none⟩ = some (.int .i64 x.a) ∧ w2.cell? ⟨p, g * 5 + 2, none⟩ = some (.int .i64 x.b) ∧ w2.cell? ⟨p, g * 5 + 3, none⟩ = some (.int .i64 x.c) ∧ w2.cell? ⟨p, g * 5 + 4, none⟩ = some (.int .i64 x.n) ∧
      w2.frozen? ⟨p, g * 5, none⟩ = false ∧ w2.frozen? ⟨p, g * 5 + 1, none⟩ = false ∧ w2.frozen? ⟨p, g * 5 + 2, none⟩ = false ∧ w2.frozen? ⟨p, g * 5 + 3, none⟩ = false ∧ w2.frozen? ⟨p, g * 5 + 4, none⟩ = false := by
  refine (close_ok h g s hg hpl hs he).mono ?_
  rintro e w2 ⟨rfl, hB⟩
  have hT := h.below hB
  obtain ⟨e0, e1, e2, e3, e4⟩ := hT.cell hx
  exact ⟨rfl, ⟨hT, hB⟩, hT.c2 hL, e0, e1, e2, e3, e4, hT.row.free _, hT.row.free _, hT.row.free _, hT.row.free _, hT.row.free _⟩

set_option maxHeartbeats 4000000 in
theorem drop_ok {w : World} {t p : Nat} {most keys : Int} {pl : List Pl} (h : Tab w t p most keys pl) (htp : t ≠ p) (B : Nat) (hBt : B ≤ t) (hBp : B ≤ p) (hk : keys ≠ 0) (hk1 : 0 ≤ keys) (hk2 : keys ≤ 1000000)
    (a b c : Nat) (ha : a ≤ 1000) (hb : b ≤ 1) (hc : c ≤ 199) (hpl : pl.length ≤ 1000000)
    (s r : Nat) (hr : (hom a b c pl.length + s) % pl.length = r) (hs : ∀ j, j < s → ∃ x, pl[(hom a b c pl.length + j) % pl.length]? = some x ∧ stops a b c x = false) (x : Pl) (hx : pl[r]? = some x) (hst : stops a b c x = true) (hz : (x == ⟨false, 0, 0, 0, 0⟩) = false)
    (s2 : Nat) (hs2 : ∀ j, j < s2 → ∃ x, pl[(r + 1 + j) % pl.length]? = some x ∧ (x == ⟨false, 0, 0, 0, 0⟩) = false ∧ reach pl.length ((r + 1 + j) % pl.length) r x = false ∧ x.a ≤ 1000 ∧ x.b ≤ 1 ∧ x.c ≤ 199) (he2 : pl[(r + 1 + s2) % pl.length]? = some zp) :
    Calls Try.prog 14 #[.pointer (some ⟨t, 0, none⟩), .agg #[.int .i64 a, .int .i64 b, .int .i64 c]] w fun e w' => e = .returned (.bool true) ∧ Tab w' t p most (keys - 1) (pl.set r zp) ∧ Below B w w' := by
  have hB0 : Below w.heap.size w (w.alloc (.cells #[.int .i64 a, .int .i64 b, .int .i64 c] 34)) := (Below.refl _ _).alloc (Nat.le_refl _) _
  have hbox : Row (w.alloc (.cells #[.int .i64 a, .int .i64 b, .int .i64 c] 34)) w.heap.size 34 [.int .i64 a, .int .i64 b, .int .i64 c] := Row.new w 34 #[.int .i64 a, .int .i64 b, .int .i64 c]
  have H0 := Lib.hid (h.below hB0)
  have hrl : r < pl.length := (List.getElem?_eq_some_iff.1 hx).1
  have FIND := fun (L : Nat) (hL : pl.length = L) (w' : World) (h' : Tab w' t p most keys pl) (hg : Row w' w.heap.size 34 [.int .i64 a, .int .i64 b, .int .i64 c]) => find_post h' a b c ha hb hc hpl s r hr hs x hx hst w.heap.size L hL hg
  have HF := Lib.hid FIND
  have CLOSE := fun (L : Nat) (hL : pl.length = L) (w' : World) (h' : Tab w' t p most keys pl) => close_post h' r s2 hrl hpl hs2 he2 L hL x hx
  have HC := Lib.hid CLOSE
  have HX := Lib.hid hx
  have HZ := Lib.hid hz
  have htl := h.top.lt
  have hpl2 := h.row.lt
  clear FIND CLOSE hr hs hst hs2 he2 hx hz
  have dk : (keys == 0) = false := by simpa using hk
  obtain ⟨L, hL⟩ : ∃ L, pl.length = L := ⟨_, rfl⟩
  have HL := Lib.hid hL
  have HPL := Lib.hid hpl
  have HRL := Lib.hid hrl
  rw [hL] at hrl hpl
  clear hL hk
  go_enter Try.func14, Try.ntmps14
  go_wp2_with fail
  refine (len_c t keys _ (H0.out.top.cell 1)).mono ?_
  rintro e w1 ⟨rfl, rfl⟩
  go_wp2_with fail
  refine (key_ok a b c ha hb hc _).mono ?_
  rintro e w1 ⟨rfl, hB1⟩
  have H1 := Lib.hid (H0.out.below hB1)
  have hbox1 := hbox.below hB1 hbox.lt
  have hB1' : Below w.heap.size w w1 := hB0.trans (hB1.mono (by simp))
  have b0 : w1.cell? ⟨w.heap.size, 0, none⟩ = some (.int .i64 a) := hbox1.cell 0
  have b1 : w1.cell? ⟨w.heap.size, 1, none⟩ = some (.int .i64 b) := hbox1.cell 1
  have b2 : w1.cell? ⟨w.heap.size, 2, none⟩ = some (.int .i64 c) := hbox1.cell 2
  clear hB1 hB0 hbox h
  go_wp2_with fail
  refine (HF.out L HL.out w1 H1.out hbox1).mono ?_
  rintro e w2 ⟨rfl, FP, f0, f1, f2, f3, f4, f5, f6, f7, f8⟩
  have k2 : Below w.heap.size w w2 := hB1'.trans (FP.out.2.2.mono hB1'.size)
  have H2 := Lib.hid FP.out.1
  clear b0 b1 b2 f1 f2 f3 f4 f5 f6 f7 f8
  go_wp2_with fail
  refine (free_ok H2.out r x HX.out HPL.out).mono ?_
  rintro e w3 ⟨rfl, rfl⟩
  rw [HZ.out]
  go_wp2_with fail
  go_region_held3 (fun w' => w'.cell? ⟨t, 2, none⟩ = some (.slice (some ⟨p, 0, none⟩) L L)) (go_keep)
    ((go_at_call 26; refine (HC.out L HL.out w3.drew H2.out).mono ?_; rintro e w4 ⟨rfl, CP, j0, j1, j2, j3, j4, j5, z0, z1, z2, z3, z4⟩; have ne1 : p ≠ t := fun e => htp e.symm))
  have T5 : Tab (((((w4.setCell ⟨p, r * 5, none⟩ (.bool false)).setCell ⟨p, r * 5 + 1, none⟩ (.int .i64 0)).setCell ⟨p, r * 5 + 2, none⟩ (.int .i64 0)).setCell ⟨p, r * 5 + 3, none⟩ (.int .i64 0)).setCell ⟨p, r * 5 + 4, none⟩ (.int .i64 0)) t p most keys (pl.set r zp) := tab_set CP.out.1 htp r HRL.out zp
  have k4 : Below B w w4 := ((k2.mono (by omega)).drew).trans (CP.out.2.mono (by have := k2.size; show B ≤ w3.heap.size; omega))
  have k5 : Below B w (((((w4.setCell ⟨p, r * 5, none⟩ (.bool false)).setCell ⟨p, r * 5 + 1, none⟩ (.int .i64 0)).setCell ⟨p, r * 5 + 2, none⟩ (.int .i64 0)).setCell ⟨p, r * 5 + 3, none⟩ (.int .i64 0)).setCell ⟨p, r * 5 + 4, none⟩ (.int .i64 0)) := below_setPl (y := zp) k4 hBp
  generalize (((((w4.setCell ⟨p, r * 5, none⟩ (.bool false)).setCell ⟨p, r * 5 + 1, none⟩ (.int .i64 0)).setCell ⟨p, r * 5 + 2, none⟩ (.int .i64 0)).setCell ⟨p, r * 5 + 3, none⟩ (.int .i64 0)).setCell ⟨p, r * 5 + 4, none⟩ (.int .i64 0)) = W at *
  have c1 : W.cell? ⟨t, 1, none⟩ = some (.int .i64 keys) := T5.top.cell 1
  have g1 : W.frozen? ⟨t, 1, none⟩ = false := T5.top.free 1
  have HT5 := Lib.hid T5
  have K5 := Lib.hid k5
  clear T5 k5 f0 j0 j1 j2 j3 j4 j5 z0 z1 z2 z3 z4 ne1
  go_wp2_with fail
  go_ret
  refine ⟨rfl, ⟨?_, ?_⟩, ?_⟩
  · exact HT5.out.top.setCell 1 (.int .i64 (keys - 1))
  · exact HT5.out.row.grown (grownBy_setCell _ t 1 _) (fun e => htp (Option.some.inj e).symm)
  · exact K5.out.setCell (p := ⟨t, 1, none⟩) hBt _
end Go.Proofs.Ythpgaecloecflaa
