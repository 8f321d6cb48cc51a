/- Layer 2: GraphTwice. -/
import Derived.Test.YtmeakgiojhoofaaGi
namespace Go.Proofs.Ytmeakgiojhoofaa
set_option linter.unusedSimpArgs false
set_option linter.unusedVariables false
set_option maxHeartbeats 4000000
set_option maxRecDepth 100000
theorem wl_some (V : List (List Txt)) : wl (V.map some) = V := by simp [wl, Function.comp_def]
theorem nrmW_of {a b : Gr} (hl : a.W.length = b.W.length) (h : ∀ i, i < a.W.length → ∀ s, s ∈ a.w i ↔ s ∈ b.w i) : nrmW a = nrmW b := by
  unfold nrmW
  rw [hl]
  refine List.map_congr_left fun i hi => ?_
  rw [List.mem_range] at hi
  exact nrm_congr ordrS (h i (by omega))
theorem nG_of {a b : Gr} (hn : a.n = b.n) (he : ∀ e, e ∈ a.E ↔ e ∈ b.E) (hl : a.W.length = b.W.length) (h : ∀ i, i < a.W.length → ∀ s, s ∈ a.w i ↔ s ∈ b.w i) : nG a = nG b := by
  unfold nG
  rw [hn, nrm_congr ordrE he, nrmW_of hl h]
theorem nG_nG (g : Gr) : nG (nG g) = nG g := nG_of rfl (fun e => nrm_mem ordrE _ _) (nG_len g) fun i hi s => by rw [nG_len] at hi; rw [nG_w hi, nrm_mem ordrS]
theorem nG_turn2 (g : Gr) : nG (turnG (nG (turnG g))) = nG g := nG_of rfl (fun e => by
    have e1 : e ∈ turnE (nrmL ltE (turnE g.E)) ↔ (e.2, e.1) ∈ nrmL ltE (turnE g.E) := turnE_mem
    have e2 : (e.2, e.1) ∈ turnE g.E ↔ e ∈ g.E := turnE_mem
    show e ∈ turnE (nrmL ltE (turnE g.E)) ↔ _
    rw [e1, nrm_mem ordrE, e2]) (nG_len (turnG g)) fun i hi s => by
    have hi' : i < (turnG g).W.length := by rw [← nG_len]; exact hi
    show s ∈ (nG (turnG g)).w i ↔ _
    rw [nG_w hi', nrm_mem ordrS]; rfl
theorem isB_same {g : Gr} (h : okB g = true) : sameB (nG g) g = isB g := by
  have ew : wl (nG g).W = nrmW g := wl_some _
  unfold sameB isB
  rw [h, Bool.true_and, ew, show decide ((nG g).n = g.n) = true by rw [decide_eq_true_eq]; rfl, Bool.true_and]
  have e1 : decide ((nG g).E = g.E) = ascB ltE g.E := by
    rw [Bool.eq_iff_iff, decide_eq_true_eq, ascB_iff]
    constructor
    · intro h; rw [← h]; exact nrm_asc ordrE _
    · exact nrm_of_asc ordrE
  have e2 : decide (nrmW g = wl g.W) = wAsc g := by
    by_cases c : ∀ i, i < g.W.length → asc ltS (g.w i)
    · rw [wAsc_yes c, decide_eq_true_eq]
      refine getD_all [] (by simp [nrmW, wl]) fun i hi => ?_
      have hi : i < g.W.length := by simpa [nrmW] using hi
      rw [wl_at, ← ew, wl_at]
      show (nG g).w i = g.w i
      rw [nG_w hi, nrm_of_asc ordrS (c i hi)]
    · rw [wAsc_no c, decide_eq_false_iff_not]
      intro h
      refine c fun i hi => ?_
      have : (nrmW g).getD i [] = (wl g.W).getD i [] := by rw [h]
      rw [wl_at, ← ew, wl_at] at this
      have e : (nG g).w i = g.w i := this
      rw [← e, nG_w hi]; exact nrm_asc ordrS _
  rw [e1, e2]
theorem sameB_self (g : Gr) : sameB g g = true := by simp [sameB]
theorem twice_run {g : Gr} (hf : gFit g) : runP tab 1260 [.agg (gS g)] [] = some (.bool true, []) := by
  refine runP_fn t1260 rfl ?_
  have gb := bigG_run hf
  have gg := graphs_run
  cases hb : bigB g with
  | true =>
    rw [hb] at gb
    simp only [gS] at gb
    simp (config := { maxSteps := 1000000 }) (disch := omega) only [go_sem, ↓reduceIte, Nat.reduceEqDiff, Nat.reduceAdd, Int.reduceToNat, reduceCtorEq, Nat.reduceLeDiff, Nat.reduceSub, Nat.reduceDiv, Nat.reduceMod, Nat.reduceMul, d1260, gS, gb]
  | false =>
    rw [hb] at gb
    have hg := bigB_ok hf hb
    have gn := norm_run hg
    have gk := gck_run hg
    rw [nrmA_eq] at gn
    cases c : okB g with
    | false =>
      rw [c] at gk
      have ez : tG g = zG := by rw [tG, if_neg (by rw [c]; simp)]
      rw [ez, codeA, if_neg (by rw [c]; simp)] at gn
      have gz : gV zG.n zG.E zG.W = [.int .i64 0, .vec 2 [], .vec 1 []] := rfl
      rw [gz] at gn
      simp only [gS] at gn gb gk
      simp (config := { maxSteps := 1000000 }) (disch := omega) only [go_sem, ↓reduceIte, Nat.reduceEqDiff, Nat.reduceAdd, Int.reduceToNat, reduceCtorEq, Nat.reduceLeDiff, Nat.reduceSub, Nat.reduceDiv, Nat.reduceMod, Nat.reduceMul, d1260, gS, gb, gg, gn, gk]
    | true =>
      rw [c] at gk
      have ez : tG g = nG g := by rw [tG, if_pos c]
      rw [ez, codeA, if_pos c] at gn
      have hN := nG_ok hg
      have okN := nG_okB c
      have gn2 := norm_run hN
      rw [nrmA_eq, tG, if_pos okN, codeA, if_pos okN, nG_nG] at gn2
      have ct : okB (turnG g) = true := by rw [turn_okB, c]
      have gt := turned_run hg
      rw [nrmA_eq, tG, if_pos ct, codeA, if_pos ct] at gt
      have hC := nG_ok (turnG_ok hg)
      have okC := nG_okB ct
      have gt2 := turned_run hC
      have ct2 : okB (turnG (nG (turnG g))) = true := by rw [turn_okB, okC]
      rw [nrmA_eq, tG, if_pos ct2, codeA, if_pos ct2, nG_turn2] at gt2
      have s1 := sameG_run hN hN
      rw [sameB_self] at s1
      have s2 := sameG_run hN hg
      rw [isB_same c] at s2
      have i1 := isg_run hN
      rw [nG_isB c] at i1
      have i2 := isg_run hC
      rw [nG_isB ct] at i2
      have i3 := isg_run hg
      clear ez okN ct okC ct2
      have hl : (nG g).E.length ≤ 2100 := hN.e
      have hl2 : (nG g).W.length ≤ 250 := hN.w
      have hl3 : (nG (turnG g)).E.length ≤ 2100 := hC.e
      have hl4 : (nG (turnG g)).W.length ≤ 250 := hC.w
      clear hN hC
      generalize nG g = N at *
      generalize nG (turnG g) = C at *
      generalize isB g = q at *
      obtain ⟨n1, E1, W1⟩ := N
      obtain ⟨n2, E2, W2⟩ := C
      simp only [gS, gV] at gb gk gn gn2 gt gt2 s1 s2 i1 i2 i3 hl hl2 hl3 hl4
      simp (config := { maxSteps := 1000000 }) (disch := omega) only [go_sem, ↓reduceIte, Nat.reduceEqDiff, Nat.reduceAdd, Int.reduceToNat, reduceCtorEq, Nat.reduceLeDiff, Nat.reduceSub, Nat.reduceDiv, Nat.reduceMod, Nat.reduceMul, d1260, gS, gb, gg, gn, gk, gn2, gt, gt2, s1, s2, i1, i2, i3]
end Go.Proofs.Ytmeakgiojhoofaa
