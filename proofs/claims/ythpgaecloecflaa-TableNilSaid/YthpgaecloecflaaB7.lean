import Derived.Test.YthpgaecloecflaaB6
import Derived.Scope
namespace Go.Proofs.Ythpgaecloecflaa
open Go.RowKit

set_option maxHeartbeats 4000000 in
theorem close_ok {w : World} {t p : Nat} {most keys : Int} {pl : List Pl} (h : Tab w t p most keys pl) (g s : Nat) (hg : g < pl.length) (hpl : pl.length ≤ 1000000)
    (hs : ∀ j, j < s → ∃ x, pl[(g + 1 + j) % pl.length]? = some x ∧ (x == ⟨false, 0, 0, 0, 0⟩) = false ∧ reach pl.length ((g + 1 + j) % pl.length) g x = false ∧ x.a ≤ 1000 ∧ x.b ≤ 1 ∧ x.c ≤ 199) (he : pl[(g + 1 + s) % pl.length]? = some zp) :
    Calls Try.prog 26 #[.pointer (some ⟨t, 0, none⟩), .int .i64 g] w fun e w' => e = .returned (.int .i64 g) ∧ Below w.heap.size w w' := by
  have H0 := Lib.hid h
  have HS := Lib.hid hs
  have HE := Lib.hid he
  have c2 := h.top.cell 2
  have hL : 0 < pl.length := by omega
  clear hs he h c2
  go_enter Try.func26, Try.ntmps26
  go_wp2_with fail
  have hR : ∀ (Q : Exit → Act → World → Prop) a w, Q .ret a w → Exit.noGoto Q .ret a w := fun _ _ _ h => h
  have hN : ∀ (Q : Exit → Act → World → Prop) a w, Q .normal a w → Exit.noGoto Q .normal a w := fun _ _ _ h => h
  refine wp_scope_straight ?_
  refine wp_seq (wp_label ?_)
  go_wp2_with fail
  go_loopg [1, 5] 0 (fun k gv iv wr => gv = .int .i64 g ∧ Below w.heap.size w wr)
  case atStart => exact ⟨rfl, Below.refl _ _⟩
  case round =>
    obtain ⟨rfl, hB0⟩ := hrel
    have HT := Lib.hid (H0.out.below hB0)
    go_wp2_with fail
    refine (behind_ok HT.out g hg hpl).mono ?_
    rintro e w1 ⟨rfl, rfl⟩
    go_wp2_with fail
    have hmod : (g + 1) % pl.length = (g + 1 + 0) % pl.length := by rw [Nat.add_zero]
    have HMOD := Lib.hid hmod
    clear hmod
    go_loopg [5] s (fun k iv wr => ∃ i j : Nat, iv = .int .i64 i ∧ Hid (j + k = s) ∧ Hid (i = (g + 1 + j) % pl.length) ∧ Below w.heap.size w wr)
    case atStart => exact ⟨_, 0, rfl, Nat.zero_add _, HMOD.out, hB0⟩
    case round =>
      obtain ⟨i, j, rfl, HJ, HI, hB⟩ := hrel
      have HT2 := Lib.hid (H0.out.below hB)
      have hil : i < pl.length := by rw [HI.out]; exact Nat.mod_lt _ hL
      have hsz := hB.size
      by_cases hjs : j = s
      · have hx : pl[i]? = some zp := by rw [HI.out, hjs]; exact HE.out
        have HX := Lib.hid hx
        have hre : reach pl.length i g zp = false := rfl
        have HRE := Lib.hid hre
        clear hx hre
        go_wp2_with fail
        refine (reaches_ok HT2.out i g hil hg hpl zp HX.out (by decide) (by decide) (by decide)).mono ?_
        rintro e w2 ⟨rfl, hB2⟩
        rw [HRE.out]
        have HT3 := Lib.hid (HT2.out.below hB2)
        go_wp2_with fail
        refine (free_ok HT3.out i zp HX.out hpl).mono ?_
        rintro e w3 ⟨rfl, rfl⟩
        rw [show (zp == (⟨false, 0, 0, 0, 0⟩ : Pl)) = true from rfl]
        go_wp2
        refine hR _ _ _ ?_
        go_ret
        exact ⟨rfl, hB.trans (hB2.mono hsz)⟩
      · have hjl : j < s := by have := HJ.out; omega
        obtain ⟨x, hx, hz, hre, ha, hb, hc⟩ := HS.out j hjl
        rw [← HI.out] at hx hre
        have HX := Lib.hid hx
        have HZ := Lib.hid hz
        have HRE := Lib.hid hre
        clear hx hz hre
        go_wp2_with fail
        refine (reaches_ok HT2.out i g hil hg hpl x HX.out ha hb hc).mono ?_
        rintro e w2 ⟨rfl, hB2⟩
        rw [HRE.out]
        have HT3 := Lib.hid (HT2.out.below hB2)
        have k2 := hB.trans (hB2.mono hsz)
        go_wp2_with fail
        refine (free_ok HT3.out i x HX.out hpl).mono ?_
        rintro e w3 ⟨rfl, rfl⟩
        rw [HZ.out]
        go_wp2_with fail
        refine (behind_ok HT3.out i hil hpl).mono ?_
        rintro e w4 ⟨rfl, rfl⟩
        go_wp2
        have hgk : 0 < gk := by have := HJ.out; omega
        go_roundg (gk - 1)
        case measure => omega
        case rel =>
          refine ⟨(i + 1) % pl.length, j + 1, by simp only [Int.natCast_emod, Int.natCast_add]; rfl, ?_, ?_, k2⟩
          · show _ = _
            have := HJ.out
            omega
          · show _ = _
            rw [HI.out, Nat.mod_add_mod, Nat.add_assoc]
end Go.Proofs.Ythpgaecloecflaa
