/- Layer 10: the queue's heap: what is put, what is taken out of the middle. -/
import Derived.Test.YtpanhbaiimnlhaaHs
import Derived.Test.YtpanhbaiimnlhaaHt
namespace Go.Proofs.Ytpanhbaiimnlhaa
set_option linter.unusedSimpArgs false
set_option linter.unusedVariables false
set_option maxHeartbeats 4000000
set_option maxRecDepth 100000
open Go.Sort (size_swp)
def htA (x : Ed) : AV := .agg [.int .i64 x.1, .int .i64 x.2]
def huS (m : Int) (j : Nat) (d : Array Ed) : St := ⟨[(0, .ifc 23 (.ref 0 0)), (1, .int .i64 (j : Int))], [.row false [.vec 2 (prs d.toList), .int .i64 m]], 1, [(0, 1, [0, 1], [])]⟩
theorem hup_loop {m : Int} {Q : AX → St → Prop} : ∀ (j : Nat) (d : Array Ed), j < d.size → d.size ≤ 1000000 →
    (∀ env hp, (hp = [.row false [.vec 2 (prs (upw ltH d j).toList), .int .i64 m]] ∨ hp = [.row false [.own 2 1, .int .i64 m], .row false (prs (upw ltH d j).toList)]) → Q (.exit 0) ⟨env, hp, 1, [(0, 1, [0, 1], [])]⟩) → Ev tab (.loop d1494_b0) (huS m j d) Q := by
  intro j
  induction j using Nat.strongRecOn with
  | _ j ih =>
    intro d hj hs hq
    rw [upw] at hq
    by_cases h0 : j = 0
    · subst h0
      rw [dif_pos rfl] at hq
      refine Ev_stop ?_
      have e : ((0 : Int) - 1).tdiv 2 = 0 := by decide
      simp (config := { maxSteps := 1000000 }) (disch := omega) only [go_sem, ↓reduceIte, Nat.reduceEqDiff, Nat.reduceAdd, Int.reduceToNat, reduceCtorEq, Nat.reduceLeDiff, Nat.reduceSub, Nat.reduceDiv, Nat.reduceMod, Nat.reduceMul, d1494_b0, huS, e, Int.cast_ofNat_Int]
      exact hq _ _ (.inl rfl)
    · rw [dif_neg h0] at hq
      have g2 := hless_h (d := d) (i := j) (j := (j - 1) / 2) hj (by omega)
      have g3 := hswp_h (d := d) (i := (j - 1) / 2) (j := j) (by omega) hj
      have e1 : (j : Int) - 1 = ((j - 1 : Nat) : Int) := by omega
      have e2 : ((j - 1 : Nat) : Int).tdiv 2 = (((j - 1) / 2 : Nat) : Int) := rfl
      have hne : ¬ ((((j - 1) / 2 : Nat) : Int) = (j : Int)) := by omega
      cases h4 : ltH d[j]! d[(j - 1) / 2]! with
      | true =>
        rw [h4] at g2
        rw [if_pos h4] at hq
        refine Ev_step (st' := huS m ((j - 1) / 2) (Go.Sort.swp d ((j - 1) / 2) j)) ?_ (ih ((j - 1) / 2) (by omega) _ (by rw [size_swp]; omega) (by rw [size_swp]; exact hs) hq)
        simp (config := { maxSteps := 1000000 }) (disch := omega) only [go_sem, ↓reduceIte, Nat.reduceEqDiff, Nat.reduceAdd, Int.reduceToNat, reduceCtorEq, Nat.reduceLeDiff, Nat.reduceSub, Nat.reduceDiv, Nat.reduceMod, Nat.reduceMul, d1494_b0, huS, e1, e2, hne, g2, g3]
      | false =>
        rw [h4] at g2
        rw [if_neg (by rw [h4]; simp)] at hq
        refine Ev_stop ?_
        simp (config := { maxSteps := 1000000 }) (disch := omega) only [go_sem, ↓reduceIte, Nat.reduceEqDiff, Nat.reduceAdd, Int.reduceToNat, reduceCtorEq, Nat.reduceLeDiff, Nat.reduceSub, Nat.reduceDiv, Nat.reduceMod, Nat.reduceMul, d1494_b0, huS, e1, e2, hne, g2]
        exact hq _ _ (.inr rfl)
theorem hup_run {m : Int} {j : Nat} {d : Array Ed} (hj : j < d.size) (hs : d.size ≤ 1000000) : runP tab 1494 [.ifc 23 (.ref 0 0), .int .i64 (j : Int)] [.row false [.vec 2 (prs d.toList), .int .i64 m]] = some (.tup [], [.row false [.vec 2 (prs (upw ltH d j).toList), .int .i64 m]]) := by
  refine runP_fn t1494 rfl ?_
  simp (config := { maxSteps := 1000000 }) (disch := omega) only [go_sem, ↓reduceIte, Nat.reduceEqDiff, Nat.reduceAdd, Int.reduceToNat, reduceCtorEq, Nat.reduceLeDiff, Nat.reduceSub, Nat.reduceDiv, Nat.reduceMod, Nat.reduceMul, d1494]
  refine hup_loop j d hj hs (fun env hp hh => ?_)
  rcases hh with rfl | rfl <;> simp (config := { maxSteps := 1000000 }) (disch := omega) only [go_sem, ↓reduceIte, Nat.reduceEqDiff, Nat.reduceAdd, Int.reduceToNat, reduceCtorEq, Nat.reduceLeDiff, Nat.reduceSub, Nat.reduceDiv, Nat.reduceMod, Nat.reduceMul]
theorem hpushm_run {m : Int} {d : Array Ed} {x : Ed} (hs : d.size < 1000000) : runP tab 1514 [.ref 0 0, .ifc 54 (htA x)] [.row false [.vec 2 (prs d.toList), .int .i64 m]] = some (.tup [], [.row false [.vec 2 (prs (d.push x).toList), .int .i64 m]]) := by
  refine runP_fn t1514 rfl ?_
  have e : prs d.toList ++ [.int .i64 x.1, .int .i64 x.2] = prs (d.push x).toList := by simp [prs]
  simp (config := { maxSteps := 1000000 }) (disch := omega) only [go_sem, ↓reduceIte, Nat.reduceEqDiff, Nat.reduceAdd, Int.reduceToNat, reduceCtorEq, Nat.reduceLeDiff, Nat.reduceSub, Nat.reduceDiv, Nat.reduceMod, Nat.reduceMul, htA, arr_len, e, d1514]
theorem hpush_run {m : Int} {d : Array Ed} {x : Ed} (hs : d.size < 1000000) : runP tab 1488 [.ifc 23 (.ref 0 0), .ifc 54 (htA x)] [.row false [.vec 2 (prs d.toList), .int .i64 m]] = some (.tup [], [.row false [.vec 2 (prs (hpPut ltH d x).toList), .int .i64 m]]) := by
  refine runP_fn t1488 rfl ?_
  have g1 := hpushm_run (m := m) (x := x) hs
  have g2 := hlen_h (m := m) (d.push x).toList
  have g3 := hup_run (m := m) (d := d.push x) (j := d.size) (by simp) (by simp; omega)
  have e : ((d.push x).toList.length : Int) - 1 = (d.size : Int) := by simp
  simp only [htA] at g1
  unfold hpPut
  simp (config := { maxSteps := 1000000 }) (disch := omega) only [go_sem, ↓reduceIte, Nat.reduceEqDiff, Nat.reduceAdd, Int.reduceToNat, reduceCtorEq, Nat.reduceLeDiff, Nat.reduceSub, Nat.reduceDiv, Nat.reduceMod, Nat.reduceMul, d1488, htA, g1, g2, e, g3]
theorem hrem_run {m : Int} {d : Array Ed} {i : Nat} (hi : i < d.size) (hs : d.size ≤ 1000000) : runP tab 1489 [.ifc 23 (.ref 0 0), .int .i64 (i : Int)] [.row false [.vec 2 (prs d.toList), .int .i64 m]] = some (.ifc 54 (htA d[i]!), [.row false [.vec 2 (prs (hpRem ltH d i).toList), .int .i64 m]]) := by
  refine runP_fn t1489 rfl ?_
  have g0 := hlen_h (m := m) d.toList
  rw [arr_len] at g0
  have e : ((d.size : Int) - 1) = ((d.size - 1 : Nat) : Int) := by omega
  by_cases he : d.size - 1 = i
  · have g1 := hpop_h (m := m) (d := d) (by omega) hs
    rw [he] at g1
    have er : hpRem ltH d i = d.pop := by unfold hpRem; rw [if_pos he]
    rw [er]
    have e' : ((d.size : Int) - 1) = (i : Int) := by omega
    simp (config := { maxSteps := 1000000 }) (disch := omega) only [go_sem, ↓reduceIte, Nat.reduceEqDiff, Nat.reduceAdd, Int.reduceToNat, reduceCtorEq, Nat.reduceLeDiff, Nat.reduceSub, Nat.reduceDiv, Nat.reduceMod, Nat.reduceMul, d1489, g0, e', g1, htA]
  · have g1 := hswp_h (d := d) (i := i) (j := d.size - 1) hi (by omega)
    have hsz : (Go.Sort.swp d i (d.size - 1)).size = d.size := size_swp _ _ _
    have g2 := hdown_h (m := m) (n := d.size - 1) (i := i) (d := Go.Sort.swp d i (d.size - 1)) (by omega) (by omega) (by omega)
    have hds := dn_size (lt := ltH) (d.size - 1) (Go.Sort.swp d i (d.size - 1)) i
    have hdo := dn_out (lt := ltH) (n := d.size - 1) (d := Go.Sort.swp d i (d.size - 1)) (by omega) i (Nat.le_refl (d.size - 1))
    have hlast : (Go.Sort.swp d i (d.size - 1))[d.size - 1]! = d[i]! := by rw [Go.Sort.swp_get d (by omega) (by omega), if_pos rfl]
    have hne : ¬ (((d.size - 1 : Nat) : Int) = (i : Int)) := by omega
    by_cases hm : i < (dn ltH (d.size - 1) (Go.Sort.swp d i (d.size - 1)) i).2
    · have er : hpRem ltH d i = (dn ltH (d.size - 1) (Go.Sort.swp d i (d.size - 1)) i).1.pop := by unfold hpRem; rw [if_neg he, if_pos hm]
      rw [er]
      rw [decide_eq_true (by omega)] at g2
      have g3 := hpop_h (m := m) (d := (dn ltH (d.size - 1) (Go.Sort.swp d i (d.size - 1)) i).1) (by omega) (by omega)
      rw [hds, hsz, hdo, hlast] at g3
      generalize dn ltH (d.size - 1) (Go.Sort.swp d i (d.size - 1)) i = q at *
      simp (config := { maxSteps := 1000000 }) (disch := omega) only [go_sem, ↓reduceIte, Nat.reduceEqDiff, Nat.reduceAdd, Int.reduceToNat, reduceCtorEq, Nat.reduceLeDiff, Nat.reduceSub, Nat.reduceDiv, Nat.reduceMod, Nat.reduceMul, d1489, g0, e, hne, g1, g2, g3, htA]
    · have er : hpRem ltH d i = (upw ltH (dn ltH (d.size - 1) (Go.Sort.swp d i (d.size - 1)) i).1 i).pop := by unfold hpRem; rw [if_neg he, if_neg hm]
      rw [er]
      rw [decide_eq_false (by omega)] at g2
      have g3 := hup_run (m := m) (d := (dn ltH (d.size - 1) (Go.Sort.swp d i (d.size - 1)) i).1) (j := i) (by omega) (by omega)
      have hus := upw_size (lt := ltH) (dn ltH (d.size - 1) (Go.Sort.swp d i (d.size - 1)) i).1 i
      have huo := upw_out (lt := ltH) (d := (dn ltH (d.size - 1) (Go.Sort.swp d i (d.size - 1)) i).1) (j := i) (k := d.size - 1) (by omega) (by omega)
      have g4 := hpop_h (m := m) (d := upw ltH (dn ltH (d.size - 1) (Go.Sort.swp d i (d.size - 1)) i).1 i) (by omega) (by omega)
      rw [hus, hds, hsz, huo, hdo, hlast] at g4
      generalize dn ltH (d.size - 1) (Go.Sort.swp d i (d.size - 1)) i = q at *
      generalize upw ltH q.1 i = q2 at *
      simp (config := { maxSteps := 1000000 }) (disch := omega) only [go_sem, ↓reduceIte, Nat.reduceEqDiff, Nat.reduceAdd, Int.reduceToNat, reduceCtorEq, Nat.reduceLeDiff, Nat.reduceSub, Nat.reduceDiv, Nat.reduceMod, Nat.reduceMul, d1489, g0, e, hne, g1, g2, g3, g4, htA]
theorem hlast_run {d : Array Ed} (h0 : 0 < d.size) (hs : d.size ≤ 1000000) : runP tab 1490 [.sl 2 (prs d.toList)] [] = some (.int .i64 (lst ltH d d.size : Int), []) := by
  refine runP_fn t1490 rfl ?_
  simp (config := { maxSteps := 1000000 }) (disch := omega) only [go_sem, ↓reduceIte, Nat.reduceEqDiff, Nat.reduceAdd, Int.reduceToNat, reduceCtorEq, Nat.reduceLeDiff, Nat.reduceSub, Nat.reduceDiv, Nat.reduceMod, Nat.reduceMul, arr_len, d1490]
  refine Ev_loop0 (fun i => ⟨[(0, .sl 2 (prs d.toList)), (3, .int .i64 (lst ltH d i : Int)), (6, .int .i64 (d.size : Int)), (7, .int .i64 (i : Int))], [], 0, [(0, 0, [0, 3, 6, 7], [])]⟩) d.size rfl (fun i hi => ?_) ?_
  · have hl : lst ltH d i < d.size := by
      rcases Nat.eq_zero_or_pos i with rfl | h
      · exact h0
      · have := lst_lt (lt := ltH) d i h; omega
    have g := gc_h d[lst ltH d i]! d[i]!
    have e : lst ltH d (i + 1) = if ltH d[lst ltH d i]! d[i]! = true then i else lst ltH d i := rfl
    cases h : ltH d[lst ltH d i]! d[i]! with
    | true =>
      rw [h, if_pos rfl] at e
      simp (config := { maxSteps := 1000000 }) (disch := omega) only [go_sem, ↓reduceIte, Nat.reduceEqDiff, Nat.reduceAdd, Int.reduceToNat, reduceCtorEq, Nat.reduceLeDiff, Nat.reduceSub, Nat.reduceDiv, Nat.reduceMod, Nat.reduceMul, d1490_b0, arr_len, at_e, g, ordh_lt, h, e]
    | false =>
      rw [h, if_neg (by simp)] at e
      simp (config := { maxSteps := 1000000 }) (disch := omega) only [go_sem, ↓reduceIte, Nat.reduceEqDiff, Nat.reduceAdd, Int.reduceToNat, reduceCtorEq, Nat.reduceLeDiff, Nat.reduceSub, Nat.reduceDiv, Nat.reduceMod, Nat.reduceMul, d1490_b0, arr_len, at_e, g, ordh_lt, h, e]
  · simp (config := { maxSteps := 1000000 }) (disch := omega) only [go_sem, ↓reduceIte, Nat.reduceEqDiff, Nat.reduceAdd, Int.reduceToNat, reduceCtorEq, Nat.reduceLeDiff, Nat.reduceSub, Nat.reduceDiv, Nat.reduceMod, Nat.reduceMul, d1490_b0]
end Go.Proofs.Ytpanhbaiimnlhaa
