/- Layer 4: RowsBack, RowsTurned. -/
import Derived.Test.YtmeakgiojhoofaaGe
namespace Go.Proofs.Ytmeakgiojhoofaa
set_option linter.unusedSimpArgs false
set_option linter.unusedVariables false
set_option maxHeartbeats 4000000
set_option maxRecDepth 100000
theorem okR_mk {n : Nat} {E : List Ed} (h : (mkR n E).ok) : okR (mkR n E) := by
  have := h.f.hi
  have := h.f.tl
  have := h.b.hi
  have := h.b.tl
  exact ⟨by omega, by omega, by omega, by omega⟩
def zR : Rw := ⟨[], [], [], []⟩
theorem zR_ok : okR zR := ⟨by decide, by decide, by decide, by decide⟩
theorem zR_chk : chk zR = false := chk_no fun h => absurd h.f.lo (by decide)
theorem back_run {g : Gr} (hf : gFit g) : runP tab 1313 [.agg (gS g)] [] = some (.bool true, []) := by
  refine runP_fn t1313 rfl ?_
  have gb := bigG_run hf
  have gt := told_run
  simp only [gS] at gb
  cases hb : bigB g with
  | true =>
    rw [hb] at gb
    simp (config := { maxSteps := 1000000 }) (disch := omega) only [go_sem, ↓reduceIte, Nat.reduceEqDiff, Nat.reduceAdd, Int.reduceToNat, reduceCtorEq, Nat.reduceLeDiff, Nat.reduceSub, Nat.reduceDiv, Nat.reduceMod, Nat.reduceMul, d1313, gS, gb]
  | false =>
    rw [hb] at gb
    have hg := bigB_ok hf hb
    have gn := norm_run hg
    have gm := makeG_run (tG_ok hg)
    rw [nrmA_eq] at gn
    cases c : okB g with
    | true =>
      have hi := tG_isB g
      rw [c] at hi
      obtain ⟨n, h1, h2, h3, h4, h5, h6⟩ := isB_pl hi
      have ok := mkR_ok h2 h3 h4 h5 h6
      have ge := edges_run (okR_mk ok)
      have gk := (okR_mk ok).check
      have gs := seds_run (a := (tG g).E) (b := (tG g).E) (by omega) (by omega)
      have ho := mkR_off n (tG g).E
      rw [chk_yes ok] at gk
      rw [toldE, if_pos (chk_yes ok), ho, Nat.add_sub_cancel, edU_all h5 h6] at ge
      rw [mkA, if_pos hi, h1, Int.toNat_natCast] at gm
      simp only [decide_true] at gs
      rw [codeA, if_pos c] at gn
      have hl : (tG g).W.length ≤ 250 := (tG_ok hg).w
      generalize tG g = N at *
      obtain ⟨nn, E, W⟩ := N
      simp only at h1 h4 h5 h6 ho gs
      subst h1
      generalize mkR n E = r at *
      obtain ⟨o, t, ro, rv⟩ := r
      simp only at ho
      simp only [gS, gV, rwV, rwS] at gn gm ge gk
      have q : (o.length : Int) = (n : Int) + 1 := by omega
      simp (config := { maxSteps := 1000000 }) (disch := omega) only [go_sem, ↓reduceIte, Nat.reduceEqDiff, Nat.reduceAdd, Int.reduceToNat, reduceCtorEq, Nat.reduceLeDiff, Nat.reduceSub, Nat.reduceDiv, Nat.reduceMod, Nat.reduceMul, d1313, gS, gb, gt, gn, gm, ge, gk, gs, q]
    | false =>
      have hi := tG_isB g
      rw [c] at hi
      have ge := edges_run zR_ok
      rw [toldE, if_neg (by rw [zR_chk]; simp)] at ge
      rw [mkA, if_neg (by rw [hi]; simp)] at gm
      rw [codeA, if_neg (by rw [c]; simp)] at gn
      generalize tG g = N at *
      obtain ⟨nn, E, W⟩ := N
      simp only [gS, gV, rwS, zR, ints, List.map_nil] at gn gm ge
      simp (config := { maxSteps := 1000000 }) (disch := omega) only [go_sem, ↓reduceIte, Nat.reduceEqDiff, Nat.reduceAdd, Int.reduceToNat, reduceCtorEq, Nat.reduceLeDiff, Nat.reduceSub, Nat.reduceDiv, Nat.reduceMod, Nat.reduceMul, d1313, gS, gb, gt, gn, gm, ge]
end Go.Proofs.Ytmeakgiojhoofaa
