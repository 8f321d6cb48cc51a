/- Rows of a graph that is turned. -/
import Derived.Test.YtmeakgiojhoofaaGf
namespace Go.Proofs.Ytmeakgiojhoofaa
set_option linter.unusedSimpArgs false
set_option linter.unusedVariables false
set_option maxHeartbeats 4000000
set_option maxRecDepth 100000
theorem mkR_turn {n : Nat} {E E' : List Ed} (ha : asc ltE E) (ha' : asc ltE E') (h : ∀ a b, (a, b) ∈ E' ↔ (b, a) ∈ E) : mkR n E' = ⟨(mkR n E).roff, (mkR n E).rev, (mkR n E).off, (mkR n E).to⟩ := by
  have e1 : (List.range n).map (outV E') = (List.range n).map (inV E) := List.map_congr_left fun v _ => inc_ext (outV_inc ha' v) (inV_inc ha v) fun w => by rw [outV_mem, inV_mem, h]
  have e2 : (List.range n).map (inV E') = (List.range n).map (outV E) := List.map_congr_left fun v _ => inc_ext (inV_inc ha' v) (outV_inc ha v) fun w => by rw [outV_mem, inV_mem, h]
  rw [mkR_eq, mkR_eq, e1, e2]
theorem turn_run {g : Gr} (hf : gFit g) : runP tab 1315 [.agg (gS g)] [] = some (.bool true, []) := by
  refine runP_fn t1315 rfl ?_
  have gb := bigG_run hf
  have gt := told_run
  simp only [gS] at gb
  cases hb : bigB g with
  | true =>
    rw [hb] at gb
    simp (config := { maxSteps := 1000000 }) (disch := omega) only [go_sem, ↓reduceIte, Nat.reduceEqDiff, Nat.reduceAdd, Int.reduceToNat, reduceCtorEq, Nat.reduceLeDiff, Nat.reduceSub, Nat.reduceDiv, Nat.reduceMod, Nat.reduceMul, d1315, gS, gb]
  | false =>
    rw [hb] at gb
    have hg := bigB_ok hf hb
    have hg' := turnG_ok hg
    have gn := norm_run hg
    have gu := turned_run hg
    have gm := makeG_run (tG_ok hg)
    have gm' := makeG_run (tG_ok hg')
    rw [nrmA_eq] at gn gu
    have hi := tG_isB g
    have hi' := tG_isB (turnG g)
    rw [turn_okB] at hi'
    have cc : codeA (turnG g) = codeA g := by rw [codeA, codeA, turn_okB]
    rw [cc] at gu
    cases c : okB g with
    | true =>
      rw [c] at hi hi'
      obtain ⟨n, h1, h2, h3, h4, h5, h6⟩ := isB_pl hi
      obtain ⟨n', h1', h2', h3', h4', h5', h6'⟩ := isB_pl hi'
      have ok := mkR_ok h2 h3 h4 h5 h6
      have en : n' = n := by
        have e1 : (tG g).n = g.n := by rw [tG, if_pos c]; rfl
        have e2 : (tG (turnG g)).n = g.n := by rw [tG, if_pos (by rw [turn_okB]; exact c)]; rfl
        omega
      subst en
      have em : mkR n' (tG (turnG g)).E = ⟨(mkR n' (tG g).E).roff, (mkR n' (tG g).E).rev, (mkR n' (tG g).E).off, (mkR n' (tG g).E).to⟩ := mkR_turn h5 h5' fun a b => by
        have e1 : (tG g).E = nrmL ltE g.E := by rw [tG, if_pos c]; rfl
        have e2 : (tG (turnG g)).E = nrmL ltE (turnE g.E) := by rw [tG, if_pos (by rw [turn_okB]; exact c)]; rfl
        rw [e1, e2, nrm_mem ordrE, nrm_mem ordrE, turnE_mem]
      have okr := okR_mk ok
      rw [mkA, if_pos hi, h1, Int.toNat_natCast] at gm
      rw [mkA, if_pos hi', h1', Int.toNat_natCast, em] at gm'
      rw [codeA, if_pos c] at gn gu
      clear em ok
      generalize tG g = N at *
      generalize tG (turnG g) = T at *
      generalize mkR n' N.E = r at *
      obtain ⟨o, t, ro, rv⟩ := r
      have gs := rsame_run (a := ⟨ro, rv, o, t⟩) (b := ⟨ro, rv, o, t⟩) ⟨okr.c, okr.d, okr.a, okr.b⟩ ⟨okr.c, okr.d, okr.a, okr.b⟩
      simp only [decide_true] at gs
      simp only [gS, gV, rwV, rwS] at gn gu gm gm' gs
      simp (config := { maxSteps := 1000000 }) (disch := omega) only [go_sem, ↓reduceIte, Nat.reduceEqDiff, Nat.reduceAdd, Int.reduceToNat, reduceCtorEq, Nat.reduceLeDiff, Nat.reduceSub, Nat.reduceDiv, Nat.reduceMod, Nat.reduceMul, d1315, gS, gb, gt, gn, gu, gm, gm', gs]
    | false =>
      rw [c] at hi hi'
      rw [mkA, if_neg (by rw [hi]; simp)] at gm
      rw [mkA, if_neg (by rw [hi']; simp)] at gm'
      rw [codeA, if_neg (by rw [c]; simp)] at gn gu
      generalize tG g = N at *
      generalize tG (turnG g) = T at *
      simp only [gS, gV] at gn gu gm gm'
      simp (config := { maxSteps := 1000000 }) (disch := omega) only [go_sem, ↓reduceIte, Nat.reduceEqDiff, Nat.reduceAdd, Int.reduceToNat, reduceCtorEq, Nat.reduceLeDiff, Nat.reduceSub, Nat.reduceDiv, Nat.reduceMod, Nat.reduceMul, d1315, gS, gb, gt, gn, gu, gm, gm']
end Go.Proofs.Ytmeakgiojhoofaa
