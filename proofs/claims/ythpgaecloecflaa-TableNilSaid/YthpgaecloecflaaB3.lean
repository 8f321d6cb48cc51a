import Derived.Test.YthpgaecloecflaaB2
namespace Go.Proofs.Ythpgaecloecflaa
open Go.RowKit

theorem len_c (t : Nat) (keys : Int) (w : World) (c1 : w.cell? ⟨t, 1, none⟩ = some (.int .i64 keys)) : Calls Try.prog 16 #[.pointer (some ⟨t, 0, none⟩)] w fun e w' => e = .returned (.int .i64 keys) ∧ w' = w := by
  go_enter Try.func16, Try.ntmps16
  go_wp2
  go_ret
  exact ⟨rfl, rfl⟩

theorem info_pl : (Try.prog.info? 57).map (fun i => (i.zero, i.size, i.bytes)) = some (some (.agg #[.bool false, .int .i64 0, .int .i64 0, .int .i64 0, .int .i64 0]), 5, 40) := by kernel_rfl

theorem Tab.c2 {w : World} {t p L : Nat} {most keys : Int} {pl : List Pl} (h : Tab w t p most keys pl) (hl : pl.length = L) : w.cell? ⟨t, 2, none⟩ = some (.slice (some ⟨p, 0, none⟩) L L) := by
  subst hl
  exact h.top.cell 2

/-- What a search tells, and the cells that lie behind it. -/
def FindPost (t p L g r a b c : Nat) (most keys : Int) (pl : List Pl) (x : Pl) (w w2 : World) : Prop :=
  Tab w2 t p most keys pl ∧ Row w2 g 34 [.int .i64 a, .int .i64 b, .int .i64 c] ∧ Below w.heap.size w w2

theorem find_post {w : World} {t p : Nat} {most keys : Int} {pl : List Pl} (h : Tab w t p most keys pl) (a b c : Nat) (ha : a ≤ 1000) (hb : b ≤ 1) (hc : c ≤ 199) (hpl : pl.length ≤ 1000000)
    (s r : Nat) (hr : (hom a b c pl.length + s) % pl.length = r) (hs : ∀ j, j < s → ∃ x, pl[(hom a b c pl.length + j) % pl.length]? = some x ∧ stops a b c x = false) (x : Pl) (hx : pl[r]? = some x) (hst : stops a b c x = true)
    (g L : Nat) (hL : pl.length = L) (hg : Row w g 34 [.int .i64 a, .int .i64 b, .int .i64 c]) :
    Calls Try.prog 22 #[.pointer (some ⟨t, 0, none⟩), .agg #[.int .i64 a, .int .i64 b, .int .i64 c]] w fun e w2 => e = .returned (.int .i64 (r : Nat)) ∧ Hid (FindPost t p L g r a b c most keys pl x w w2) ∧ w2.cell? ⟨t, 2, none⟩ = some (.slice (some ⟨p, 0, none⟩) L L) ∧ w2.cell? ⟨g, 0, none⟩ = some (.int .i64 a) ∧ w2.cell? ⟨g, 1, none⟩ = some (.int .i64 b) ∧ w2.cell? ⟨g, 2, none⟩ = some (.int .i64 c) ∧ w2.cell? ⟨p, r * 5, none⟩ = some (.bool x.u) ∧ w2.cell? ⟨p, r * 5 + 1, none⟩ = some (.int .i64 x.a) ∧ w2.cell? ⟨p, r * 5 + 2, none⟩ = some (.int .i64 x.b) ∧ w2.cell? ⟨p, r * 5 + 3, none⟩ = some (.int .i64 x.c) ∧ w2.cell? ⟨p, r * 5 + 4, none⟩ = some (.int .i64 x.n) := by
  refine (find_ok h a b c ha hb hc hpl s r hr hs x hx hst).mono ?_
  rintro e w2 ⟨rfl, hB⟩
  have hT := h.below hB
  have hG := hg.below hB hg.lt
  obtain ⟨e0, e1, e2, e3, e4⟩ := hT.cell hx
  exact ⟨rfl, ⟨hT, hG, hB⟩, hT.c2 hL, hG.cell 0, hG.cell 1, hG.cell 2, e0, e1, e2, e3, e4⟩

theorem var_row {t p L g r a b c : Nat} {most keys : Int} {pl : List Pl} {x : Pl} {w1 w2 : World} {cs : Array Value} (h : Hid (FindPost t p L g r a b c most keys pl x (w1.alloc (.cells cs 57)).drew w2)) : Row w2 w1.heap.size 57 cs.toList :=
  (show Row (w1.alloc (.cells cs 57)).drew w1.heap.size 57 cs.toList from Row.new w1 57 cs).below h.out.2.2 (by show _ < (w1.alloc _).heap.size; simp)

theorem below_set {B : Nat} {a w : World} {g i : Nat} {u : Value} (h : Below B a w) (hg : B ≤ g) : Below B a (w.setCell ⟨g, i, none⟩ u) := h.setCell (p := ⟨g, i, none⟩) hg u

set_option maxHeartbeats 2000000 in
theorem get_ok {w : World} {t p : Nat} {most keys : Int} {pl : List Pl} (h : Tab w t p most keys pl) (hk : keys ≠ 0) (a b c : Nat) (ha : a ≤ 1000) (hb : b ≤ 1) (hc : c ≤ 199) (hpl : pl.length ≤ 1000000)
    (s r : Nat) (hr : (hom a b c pl.length + s) % pl.length = r) (hs : ∀ j, j < s → ∃ x, pl[(hom a b c pl.length + j) % pl.length]? = some x ∧ stops a b c x = false) (x : Pl) (hx : pl[r]? = some x) (hst : stops a b c x = true) :
    Calls Try.prog 12 #[.pointer (some ⟨t, 0, none⟩), .agg #[.int .i64 a, .int .i64 b, .int .i64 c]] w fun e w' => e = .returned (.tuple #[.int .i64 x.n, .bool x.u]) ∧ Below w.heap.size w w' := by
  have hB0 : Below w.heap.size w (w.alloc (.cells #[.int .i64 a, .int .i64 b, .int .i64 c] 34)) := (Below.refl _ _).alloc (Nat.le_refl _) _
  have hbox : Row (w.alloc (.cells #[.int .i64 a, .int .i64 b, .int .i64 c] 34)) w.heap.size 34 [.int .i64 a, .int .i64 b, .int .i64 c] := Row.new w 34 #[.int .i64 a, .int .i64 b, .int .i64 c]
  have H0 := Lib.hid (h.below hB0)
  have hk0 : (keys == 0) = false := by simpa using hk
  have FIND := fun (L : Nat) (hL : pl.length = L) (w' : World) (h' : Tab w' t p most keys pl) (hg : Row w' w.heap.size 34 [.int .i64 a, .int .i64 b, .int .i64 c]) => find_post h' a b c ha hb hc hpl s r hr hs x hx hst w.heap.size L hL hg
  have HF := Lib.hid FIND
  have HX := Lib.hid hx
  clear FIND hr hs hst hk
  have hrl : r < pl.length := (List.getElem?_eq_some_iff.1 hx).1
  clear hx
  go_enter Try.func12, Try.ntmps12
  go_wp2_with fail
  refine (len_c t keys _ (H0.out.top.cell 1)).mono ?_
  rintro e w1 ⟨rfl, rfl⟩
  go_wp2_with fail
  refine (key_ok a b c ha hb hc _).mono ?_
  rintro e w1 ⟨rfl, hB1⟩
  have H1 := Lib.hid (H0.out.below hB1)
  have hbox1 := hbox.below hB1 hbox.lt
  have hB1' : Below w.heap.size w w1 := hB0.trans (hB1.mono (by simp))
  have b0 : w1.cell? ⟨w.heap.size, 0, none⟩ = some (.int .i64 a) := hbox1.cell 0
  have b1 : w1.cell? ⟨w.heap.size, 1, none⟩ = some (.int .i64 b) := hbox1.cell 1
  have b2 : w1.cell? ⟨w.heap.size, 2, none⟩ = some (.int .i64 c) := hbox1.cell 2
  obtain ⟨L, hL⟩ : ∃ L, pl.length = L := ⟨_, rfl⟩
  have HL := Lib.hid hL
  have c2 : w1.cell? ⟨t, 2, none⟩ = some (.slice (some ⟨p, 0, none⟩) L L) := H1.out.c2 hL
  rw [hL] at hrl hpl
  clear hL
  obtain ⟨d0, d1, d2, d3, d4⟩ := H1.out.cell HX.out
  clear hB1 hB0 hbox h
  have HA : Hid (Tab (w1.alloc (.cells #[.bool false, .int .i64 0, .int .i64 0, .int .i64 0, .int .i64 0] 57)) t p most keys pl) := H1.out.below ((Below.refl _ _).alloc (Nat.le_refl _) _)
  have hbA := hbox1.alloc (.cells #[.bool false, .int .i64 0, .int .i64 0, .int .i64 0, .int .i64 0] 57)
  have n0 := World.new_ne w1 _ c2
  have n1 := World.new_ne w1 _ b0
  have n2 := World.new_ne w1 _ d0
  go_wp2_with fail
  go_region_held3 (fun w' => w'.cell? ⟨t, 2, none⟩ = some (.slice (some ⟨p, 0, none⟩) L L) ∧ w'.cell? ⟨w.heap.size, 0, none⟩ = some (.int .i64 a) ∧ w'.cell? ⟨w.heap.size, 1, none⟩ = some (.int .i64 b) ∧ w'.cell? ⟨w.heap.size, 2, none⟩ = some (.int .i64 c)
    ∧ w'.cell? ⟨p, r * 5, none⟩ = some (.bool x.u) ∧ w'.cell? ⟨p, r * 5 + 1, none⟩ = some (.int .i64 x.a) ∧ w'.cell? ⟨p, r * 5 + 2, none⟩ = some (.int .i64 x.b) ∧ w'.cell? ⟨p, r * 5 + 3, none⟩ = some (.int .i64 x.c) ∧ w'.cell? ⟨p, r * 5 + 4, none⟩ = some (.int .i64 x.n)) (go_keep)
    (first
      | (go_at_call 22; refine (HF.out L HL.out w1.drew H1.out hbox1).mono ?_; rintro e w2 ⟨rfl, FP, f0, f1, f2, f3, f4, f5, f6, f7, f8⟩; have n0 := World.new_ne w2 _ f0; have n1 := World.new_ne w2 _ f1; have n2 := World.new_ne w2 _ f4)
      | (go_at_call 22; refine (HF.out L HL.out (w1.alloc (.cells #[.bool false, .int .i64 0, .int .i64 0, .int .i64 0, .int .i64 0] 57)).drew HA.out hbA).mono ?_; rintro e w2 ⟨rfl, FP, f0, f1, f2, f3, f4, f5, f6, f7, f8⟩; have hv := var_row FP; have v0 := hv.cell 0; have v1 := hv.cell 1; have v2 := hv.cell 2; have v3 := hv.cell 3; have v4 := hv.cell 4; have g0 := hv.free 0; have g1 := hv.free 1; have g2 := hv.free 2; have g3 := hv.free 3; have g4 := hv.free 4))
  · have nv := Row.new w2 57 #[.bool x.u, .int .i64 x.a, .int .i64 x.b, .int .i64 x.c, .int .i64 x.n]
    have u0 := nv.cell 0
    have u4 := nv.cell 4
    have hsz1 := hB1'.size
    have k2 : Below w.heap.size w w2 := hB1'.drew.trans (FP.out.2.2.mono hsz1)
    have s2 := k2.size
    clear n0 n1 n2 f0 f1 f2 f3 f4 f5 f6 f7 f8 b0 b1 b2 c2 d0 d1 d2 d3 d4
    go_wp2_with fail
    go_quiet (fail)
    go_wp2
    go_ret2
    exact ⟨rfl, below_drewN (k2.alloc s2 _) _⟩
  · have hsz1 := hB1'.size
    have k2 : Below w.heap.size w w2 := (hB1'.alloc hsz1 _).drew.trans (FP.out.2.2.mono (by show _ ≤ (w1.alloc _).heap.size; simp; omega))
    have hv0 := hv.setCell 0 (.bool x.u)
    have hv1 := hv0.setCell 1 (.int .i64 x.a)
    have hv2 := hv1.setCell 2 (.int .i64 x.b)
    have hv3 := hv2.setCell 3 (.int .i64 x.c)
    have hv4 := hv3.setCell 4 (.int .i64 x.n)
    have u0 := hv4.cell 0
    have u4 := hv4.cell 4
    clear n0 n1 n2 f0 f1 f2 f3 f4 f5 f6 f7 f8 b0 b1 b2 c2 d0 d1 d2 d3 d4 v0 v1 v2 v3 v4 g0 g1 g2 g3 g4
    go_wp2_with fail
    go_quiet (fail)
    go_wp2
    go_ret2
    exact ⟨rfl, below_drewN (below_set (below_set (below_set (below_set (below_set k2 hsz1) hsz1) hsz1) hsz1) hsz1) _⟩
end Go.Proofs.Ythpgaecloecflaa
