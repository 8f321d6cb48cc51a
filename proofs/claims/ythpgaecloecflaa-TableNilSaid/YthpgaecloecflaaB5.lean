import Derived.Test.YthpgaecloecflaaB4
namespace Go.Proofs.Ythpgaecloecflaa
open Go.RowKit

/-- A place of a table is written. -/
def setPl (W : World) (p r : Nat) (y : Pl) : World :=
  ((((W.setCell ⟨p, r * 5, none⟩ (.bool y.u)).setCell ⟨p, r * 5 + 1, none⟩ (.int .i64 y.a)).setCell ⟨p, r * 5 + 2, none⟩ (.int .i64 y.b)).setCell ⟨p, r * 5 + 3, none⟩ (.int .i64 y.c)).setCell ⟨p, r * 5 + 4, none⟩ (.int .i64 y.n)

theorem tab_set {W : World} {t p : Nat} {most keys : Int} {pl : List Pl} (h : Tab W t p most keys pl) (htp : t ≠ p) (r : Nat) (hr : r < pl.length) (y : Pl) : Tab (setPl W p r y) t p most keys (pl.set r y) := by
  have hne : ∀ {x : Nat}, some t ≠ some p := fun e => htp (Option.some.inj e)
  constructor
  · rw [List.length_set]
    exact ((((h.top.grown (grownBy_setCell _ p _ _) (hne (x := 0))).grown (grownBy_setCell _ p _ _) (hne (x := 0))).grown (grownBy_setCell _ p _ _) (hne (x := 0))).grown (grownBy_setCell _ p _ _) (hne (x := 0))).grown (grownBy_setCell _ p _ _) (hne (x := 0))
  · rw [← flat_set pl r y hr]
    exact ((((h.row.setCell _ _).setCell _ _).setCell _ _).setCell _ _).setCell _ _

theorem below_setPl {B : Nat} {w W : World} {p r : Nat} {y : Pl} (h : Below B w W) (hp : B ≤ p) : Below B w (setPl W p r y) :=
  below_set (below_set (below_set (below_set (below_set h hp) hp) hp) hp) hp

theorem Tab.drew {W : World} {t p : Nat} {most keys : Int} {pl : List Pl} (h : Tab W t p most keys pl) : Tab W.drew t p most keys pl := h

set_option maxHeartbeats 4000000 in
theorem put_new {w : World} {t p : Nat} {most keys : Int} {pl : List Pl} (h : Tab w t p most keys pl) (htp : t ≠ p) (B : Nat) (hBt : B ≤ t) (hBp : B ≤ p) (hm : most ≠ 0) (hk : keys ≠ most) (hk1 : 0 ≤ keys) (hk2 : keys ≤ 1000000)
    (a b c : Nat) (ha : a ≤ 1000) (hb : b ≤ 1) (hc : c ≤ 199) (hpl : pl.length ≤ 1000000)
    (s r : Nat) (hr : (hom a b c pl.length + s) % pl.length = r) (hs : ∀ j, j < s → ∃ x, pl[(hom a b c pl.length + j) % pl.length]? = some x ∧ stops a b c x = false) (hx : pl[r]? = some zp) (n : Int) :
    Calls Try.prog 10 #[.pointer (some ⟨t, 0, none⟩), .agg #[.int .i64 a, .int .i64 b, .int .i64 c], .int .i64 n] w fun e w' => e = .returned (.int .i64 0) ∧ Tab w' t p most (keys + 1) (pl.set r ⟨true, a, b, c, n⟩) ∧ Below B w w' := by
  have hB0 : Below w.heap.size w (w.alloc (.cells #[.int .i64 a, .int .i64 b, .int .i64 c] 34)) := (Below.refl _ _).alloc (Nat.le_refl _) _
  have hbox : Row (w.alloc (.cells #[.int .i64 a, .int .i64 b, .int .i64 c] 34)) w.heap.size 34 [.int .i64 a, .int .i64 b, .int .i64 c] := Row.new w 34 #[.int .i64 a, .int .i64 b, .int .i64 c]
  have H0 := Lib.hid (h.below hB0)
  have hst : stops a b c zp = true := by simp [stops, zp]
  have FIND := fun (L : Nat) (hL : pl.length = L) (w' : World) (h' : Tab w' t p most keys pl) (hg : Row w' w.heap.size 34 [.int .i64 a, .int .i64 b, .int .i64 c]) => find_post h' a b c ha hb hc hpl s r hr hs zp hx hst w.heap.size L hL hg
  have HF := Lib.hid FIND
  have HX := Lib.hid hx
  have htl := h.top.lt
  have hpl2 := h.row.lt
  clear FIND hr hs hst
  have hrl : r < pl.length := (List.getElem?_eq_some_iff.1 hx).1
  clear hx
  have dm : (most == 0) = false := by simpa using hm
  have dk : (keys == most) = false := by simpa using hk
  obtain ⟨L, hL⟩ : ∃ L, pl.length = L := ⟨_, rfl⟩
  have HL := Lib.hid hL
  have HPL := Lib.hid hpl
  rw [hL] at hrl hpl
  clear hL
  go_enter Try.func10, Try.ntmps10
  go_wp2_with fail
  refine (key_ok a b c ha hb hc _).mono ?_
  rintro e w1 ⟨rfl, hB1⟩
  have H1 := Lib.hid (H0.out.below hB1)
  have hbox1 := hbox.below hB1 hbox.lt
  have hB1' : Below w.heap.size w w1 := hB0.trans (hB1.mono (by simp))
  have b0 : w1.cell? ⟨w.heap.size, 0, none⟩ = some (.int .i64 a) := hbox1.cell 0
  have b1 : w1.cell? ⟨w.heap.size, 1, none⟩ = some (.int .i64 b) := hbox1.cell 1
  have b2 : w1.cell? ⟨w.heap.size, 2, none⟩ = some (.int .i64 c) := hbox1.cell 2
  have c0 : w1.cell? ⟨t, 0, none⟩ = some (.int .i64 most) := H1.out.top.cell 0
  clear hB1 hB0 hbox h hm hk
  go_wp2_with fail
  refine (HF.out L HL.out w1 H1.out hbox1).mono ?_
  rintro e w2 ⟨rfl, FP, f0, f1, f2, f3, f4, f5, f6, f7, f8⟩
  have k2 : Below w.heap.size w w2 := hB1'.trans (FP.out.2.2.mono hB1'.size)
  have H2 := Lib.hid FP.out.1
  have c0' : w2.cell? ⟨t, 0, none⟩ = some (.int .i64 most) := H2.out.top.cell 0
  have c1' : w2.cell? ⟨t, 1, none⟩ = some (.int .i64 keys) := H2.out.top.cell 1
  have g1' : w2.frozen? ⟨t, 1, none⟩ = false := H2.out.top.free 1
  clear b0 b1 b2 c0
  go_wp2_with fail
  refine (free_ok H2.out r zp HX.out HPL.out).mono ?_
  rintro e w3 ⟨rfl, rfl⟩
  rw [show (zp == (⟨false, 0, 0, 0, 0⟩ : Pl)) = true from rfl]
  go_wp2_with fail
  go_quiet (fail)
  have hT1 : Row ((w3.drewN nq).setCell ⟨t, 1, none⟩ (.int .i64 (keys + 1))) t 53 [.int .i64 most, .int .i64 (keys + 1), .slice (some ⟨p, 0, none⟩) pl.length pl.length] := Row.setCell (w := w3.drewN nq) H2.out.top 1 (.int .i64 (keys + 1))
  have hP1 : Row ((w3.drewN nq).setCell ⟨t, 1, none⟩ (.int .i64 (keys + 1))) p 57 (pl.flatMap plc) := Row.grown (w := w3.drewN nq) H2.out.row (grownBy_setCell _ t 1 _) (by intro e; exact htp (Option.some.inj e).symm)
  have hG1 : Row ((w3.drewN nq).setCell ⟨t, 1, none⟩ (.int .i64 (keys + 1))) w.heap.size 34 [.int .i64 a, .int .i64 b, .int .i64 c] := Row.grown (w := w3.drewN nq) FP.out.2.1 (grownBy_setCell _ t 1 _) (by intro e; have := Option.some.inj e; omega)
  have hTT : Tab ((w3.drewN nq).setCell ⟨t, 1, none⟩ (.int .i64 (keys + 1))) t p most (keys + 1) pl := ⟨hT1, hP1⟩
  have kB : Below B w ((w3.drewN nq).setCell ⟨t, 1, none⟩ (.int .i64 (keys + 1))) := (below_drewN (k2.mono (by omega)) nq).setCell (p := ⟨t, 1, none⟩) hBt _
  have KB := Lib.hid kB
  have HTT := Lib.hid hTT
  clear hT1 kB
  go_wp2_with fail
  generalize (w3.drewN nq).setCell ⟨t, 1, none⟩ (.int .i64 (keys + 1)) = W at *
  have r2 : W.cell? ⟨t, 2, none⟩ = some (.slice (some ⟨p, 0, none⟩) L L) := hTT.c2 HL.out
  have q0 : W.cell? ⟨w.heap.size, 0, none⟩ = some (.int .i64 a) := hG1.cell 0
  have q1 : W.cell? ⟨w.heap.size, 1, none⟩ = some (.int .i64 b) := hG1.cell 1
  have q2 : W.cell? ⟨w.heap.size, 2, none⟩ = some (.int .i64 c) := hG1.cell 2
  obtain ⟨d0, d1, d2, d3, d4⟩ := hTT.cell HX.out
  have z0 := hP1.free (r * 5)
  have z1 := hP1.free (r * 5 + 1)
  have z2 := hP1.free (r * 5 + 2)
  have z3 := hP1.free (r * 5 + 3)
  have z4 := hP1.free (r * 5 + 4)
  clear f0 f1 f2 f3 f4 f5 f6 f7 f8 c0' c1' g1' hTT
  have ne1 : p ≠ t := fun e => htp e.symm
  have ne2 : w.heap.size ≠ p := by omega
  have ne3 : p ≠ w.heap.size := by omega
  go_region_held3 (fun w' => w'.cell? ⟨t, 2, none⟩ = some (.slice (some ⟨p, 0, none⟩) L L) ∧ w'.cell? ⟨w.heap.size, 0, none⟩ = some (.int .i64 a) ∧ w'.cell? ⟨w.heap.size, 1, none⟩ = some (.int .i64 b) ∧ w'.cell? ⟨w.heap.size, 2, none⟩ = some (.int .i64 c)) (go_keep) (fail)
  clear r2 q0 q1 q2 d0 d1 d2 d3 d4 z0 z1 z2 z3 z4 ne1 ne2 ne3
  go_wp2
  go_ret
  refine ⟨rfl, ?_, ?_⟩
  · exact (tab_set HTT.out htp r (by rw [HL.out]; exact hrl) ⟨true, a, b, c, n⟩).drew
  · exact (below_setPl (y := ⟨true, a, b, c, n⟩) KB.out hBp).drew
end Go.Proofs.Ythpgaecloecflaa
