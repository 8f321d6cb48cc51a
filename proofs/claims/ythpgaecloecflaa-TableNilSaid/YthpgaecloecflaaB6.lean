import Derived.Test.YthpgaecloecflaaB5
namespace Go.Proofs.Ythpgaecloecflaa
open Go.RowKit

set_option maxHeartbeats 4000000 in
theorem put_full {w : World} {t p : Nat} {most keys : Int} {pl : List Pl} (h : Tab w t p most keys pl) (htp : t ≠ p) (B : Nat) (hBt : B ≤ t) (hBp : B ≤ p) (hm : most ≠ 0) (hk : keys = most) (hk1 : 0 ≤ keys) (hk2 : keys ≤ 1000000)
    (a b c : Nat) (ha : a ≤ 1000) (hb : b ≤ 1) (hc : c ≤ 199) (hpl : pl.length ≤ 1000000)
    (s r : Nat) (hr : (hom a b c pl.length + s) % pl.length = r) (hs : ∀ j, j < s → ∃ x, pl[(hom a b c pl.length + j) % pl.length]? = some x ∧ stops a b c x = false) (hx : pl[r]? = some zp) (n : Int) :
    Calls Try.prog 10 #[.pointer (some ⟨t, 0, none⟩), .agg #[.int .i64 a, .int .i64 b, .int .i64 c], .int .i64 n] w fun e w' => e = .returned (.int .i64 140) ∧ Below w.heap.size w w' := by
  have hB0 : Below w.heap.size w (w.alloc (.cells #[.int .i64 a, .int .i64 b, .int .i64 c] 34)) := (Below.refl _ _).alloc (Nat.le_refl _) _
  have hbox : Row (w.alloc (.cells #[.int .i64 a, .int .i64 b, .int .i64 c] 34)) w.heap.size 34 [.int .i64 a, .int .i64 b, .int .i64 c] := Row.new w 34 #[.int .i64 a, .int .i64 b, .int .i64 c]
  have H0 := Lib.hid (h.below hB0)
  have hst : stops a b c zp = true := by simp [stops, zp]
  have FIND := fun (L : Nat) (hL : pl.length = L) (w' : World) (h' : Tab w' t p most keys pl) (hg : Row w' w.heap.size 34 [.int .i64 a, .int .i64 b, .int .i64 c]) => find_post h' a b c ha hb hc hpl s r hr hs zp hx hst w.heap.size L hL hg
  have HF := Lib.hid FIND
  have HX := Lib.hid hx
  have htl := h.top.lt
  have hpl2 := h.row.lt
  clear FIND hr hs hst
  have hrl : r < pl.length := (List.getElem?_eq_some_iff.1 hx).1
  clear hx
  have dm : (most == 0) = false := by simpa using hm
  have dk : (keys == most) = true := by simpa using hk
  obtain ⟨L, hL⟩ : ∃ L, pl.length = L := ⟨_, rfl⟩
  have HL := Lib.hid hL
  have HPL := Lib.hid hpl
  rw [hL] at hrl hpl
  clear hL
  go_enter Try.func10, Try.ntmps10
  go_wp2_with fail
  refine (key_ok a b c ha hb hc _).mono ?_
  rintro e w1 ⟨rfl, hB1⟩
  have H1 := Lib.hid (H0.out.below hB1)
  have hbox1 := hbox.below hB1 hbox.lt
  have hB1' : Below w.heap.size w w1 := hB0.trans (hB1.mono (by simp))
  have b0 : w1.cell? ⟨w.heap.size, 0, none⟩ = some (.int .i64 a) := hbox1.cell 0
  have b1 : w1.cell? ⟨w.heap.size, 1, none⟩ = some (.int .i64 b) := hbox1.cell 1
  have b2 : w1.cell? ⟨w.heap.size, 2, none⟩ = some (.int .i64 c) := hbox1.cell 2
  have c0 : w1.cell? ⟨t, 0, none⟩ = some (.int .i64 most) := H1.out.top.cell 0
  clear hB1 hB0 hbox h hm hk
  go_wp2_with fail
  refine (HF.out L HL.out w1 H1.out hbox1).mono ?_
  rintro e w2 ⟨rfl, FP, f0, f1, f2, f3, f4, f5, f6, f7, f8⟩
  have k2 : Below w.heap.size w w2 := hB1'.trans (FP.out.2.2.mono hB1'.size)
  have H2 := Lib.hid FP.out.1
  have c0' : w2.cell? ⟨t, 0, none⟩ = some (.int .i64 most) := H2.out.top.cell 0
  have c1' : w2.cell? ⟨t, 1, none⟩ = some (.int .i64 keys) := H2.out.top.cell 1
  have g1' : w2.frozen? ⟨t, 1, none⟩ = false := H2.out.top.free 1
  clear b0 b1 b2 c0
  go_wp2_with fail
  refine (free_ok H2.out r zp HX.out HPL.out).mono ?_
  rintro e w3 ⟨rfl, rfl⟩
  rw [show (zp == (⟨false, 0, 0, 0, 0⟩ : Pl)) = true from rfl]
  go_wp2_with fail
  go_quiet (fail)
  go_wp2_with fail
  go_ret
  exact ⟨rfl, below_drewN k2 _⟩

/-- Does the place i's key reach the gap g? -/
def reach (L i g : Nat) (x : Pl) : Bool := !(x == ⟨false, 0, 0, 0, 0⟩) && decide ((i + L - g) % L ≤ (i + L - hom x.a x.b x.c L) % L)

theorem Tab.below' {w w' : World} {t p : Nat} {most keys : Int} {pl : List Pl} (h : Tab w t p most keys pl) {B : Nat} (hb : Below B w w') (ht : t < B) (hp : p < B) : Tab w' t p most keys pl :=
  ⟨h.top.below hb ht, h.row.below hb hp⟩

set_option maxHeartbeats 2000000 in
theorem reaches_ok {w : World} {t p : Nat} {most keys : Int} {pl : List Pl} (h : Tab w t p most keys pl) (i g : Nat) (hi : i < pl.length) (hg : g < pl.length) (hpl : pl.length ≤ 1000000) (x : Pl) (hx : pl[i]? = some x)
    (ha : x.a ≤ 1000) (hb : x.b ≤ 1) (hc : x.c ≤ 199) :
    Calls Try.prog 32 #[.pointer (some ⟨t, 0, none⟩), .int .i64 i, .int .i64 g] w fun e w' => e = .returned (.bool (reach pl.length i g x)) ∧ Below w.heap.size w w' := by
  have hL : 0 < pl.length := by omega
  have HOME := fun (w' : World) (h' : Tab w' t p most keys pl) => home_ok h' x.a x.b x.c ha hb hc hL hpl
  have HH := Lib.hid HOME
  have HX := Lib.hid hx
  have H0 := Lib.hid h
  have HPL := Lib.hid hpl
  have hh : hom x.a x.b x.c pl.length < pl.length := Nat.mod_lt _ hL
  obtain ⟨d0, d1, d2, d3, d4⟩ := h.cell hx
  clear HOME hx
  unfold reach
  generalize hom x.a x.b x.c pl.length = hq at *
  obtain ⟨L, hLe⟩ : ∃ L, pl.length = L := ⟨_, rfl⟩
  have c2 := h.c2 hLe
  have HL := Lib.hid hLe
  rw [hLe] at hi hg hpl hh hL ⊢
  clear h hLe
  have e1 : (i : Int) - hq + L = ((i + L - hq : Nat) : Int) := by omega
  have e2 : (i : Int) - g + L = ((i + L - g : Nat) : Int) := by omega
  have E1 := Lib.hid e1
  have E2 := Lib.hid e2
  clear e1 e2
  go_enter Try.func32, Try.ntmps32
  go_wp2_with fail
  refine (HH.out w H0.out).mono ?_
  rintro e w1 ⟨rfl, hB1⟩
  have H1 := Lib.hid (H0.out.below hB1)
  have e1' : ((i : Int) - hq) % (L : Int) = (((i + L - hq) % L : Nat) : Int) := by
    rw [Int.natCast_emod, ← E1.out, Int.add_emod_right]
  have e2' : ((i : Int) - g) % (L : Int) = (((i + L - g) % L : Nat) : Int) := by
    rw [Int.natCast_emod, ← E2.out, Int.add_emod_right]
  have eL : decide (((i : Int) - g) % (L : Int) ≤ ((i : Int) - hq) % (L : Int)) = decide ((i + L - g) % L ≤ (i + L - hq) % L) := by
    rw [e1', e2']
    exact decide_eq_decide.2 Int.ofNat_le
  have EL := Lib.hid eL
  clear e1' e2' eL d0 d1 d2 d3 d4 c2
  by_cases hz : (x == ⟨false, 0, 0, 0, 0⟩) = true
  · have HZ := Lib.hid hz
    clear hz
    go_wp2_with fail
    refine (free_ok H1.out i x HX.out HPL.out).mono ?_
    rintro e w2 ⟨rfl, rfl⟩
    rw [HZ.out]
    go_wp2
    go_ret
    exact ⟨by rw [HZ.out]; rfl, hB1⟩
  · have hz2 : (x == ⟨false, 0, 0, 0, 0⟩) = false := by simpa using hz
    have HZ := Lib.hid hz2
    clear hz hz2
    go_wp2_with fail
    refine (free_ok H1.out i x HX.out HPL.out).mono ?_
    rintro e w2 ⟨rfl, rfl⟩
    rw [HZ.out]
    go_wp2
    go_ret
    refine ⟨?_, hB1⟩
    rw [HZ.out, Bool.not_false, Bool.true_and, ← EL.out]
    rfl
end Go.Proofs.Ythpgaecloecflaa
