/-
  Rows: what goes through them all.
-/
import Derived.Test.YtmeakgiojhoofaaHr
namespace Go.Proofs.Ytmeakgiojhoofaa
set_option linter.unusedSimpArgs false
set_option linter.unusedVariables false
set_option maxHeartbeats 4000000
set_option maxRecDepth 100000

/-- Where rows begin, and no row leaves the numbers. -/
structure Lay (off to : List Int) : Prop where
  lo : 2 ≤ off.length
  hi : off.length ≤ 201
  tl : to.length ≤ 2000
  z : gi off 0 = 0
  e : gi off (off.length - 1) = to.length
  mono : ∀ v, v + 1 < off.length → gi off v ≤ gi off (v + 1)
section
variable {off to : List Int}
theorem Lay.oz (H : Lay off to) : oi off 0 = 0 := by rw [oi, H.z]; rfl
theorem Lay.nn (H : Lay off to) {v : Nat} (h : v < off.length) : 0 ≤ gi off v := by rw [← H.z]; exact mono_of H.mono (Nat.zero_le _) h
theorem Lay.le (H : Lay off to) {v : Nat} (h : v < off.length) : gi off v ≤ to.length := by rw [← H.e]; exact mono_of H.mono (by omega) (by omega)
theorem Lay.gn (H : Lay off to) {v : Nat} (h : v < off.length) : gi off v = oi off v := by have := H.nn h; rw [oi]; omega
theorem Lay.ole (H : Lay off to) {v : Nat} (h : v < off.length) : oi off v ≤ to.length := by have := H.le h; have := H.gn h; omega
theorem Lay.om (H : Lay off to) {v : Nat} (h : v + 1 < off.length) : oi off v ≤ oi off (v + 1) := by have := H.mono v h; rw [H.gn h, H.gn (show v < off.length by omega)] at this; omega
theorem Lay.oe (H : Lay off to) : oi off (off.length - 1) = to.length := by rw [oi, H.e]; rfl
theorem half.lay (H : half off to) : Lay off to := ⟨H.lo, H.hi, H.tl, H.z, H.e, H.mono⟩
end
/-- A number, and whether its row's numbers are places that rise, up to there. -/
def good (off to : List Int) (v k : Nat) : Prop := 0 ≤ gi to k ∧ gi to k < off.length - 1 ∧ (oi off v < k → gi to (k - 1) < gi to k)
def goodV (off to : List Int) (v : Nat) : Prop := ∀ i, i < oi off (v + 1) - oi off v → good off to v (oi off v + i)

/-- The last place with a row of some numbers ahead of v; and the last number ahead of k. -/
def lv (off : List Int) : Nat → Int
  | 0 => -1
  | v + 1 => if oi off v < oi off (v + 1) then (v : Int) else lv off v
open Classical in
noncomputable def halfB (off to : List Int) : Bool := decide (half off to)
theorem half_no {off to : List Int} (h : ¬ half off to) : halfB off to = false := by simp [halfB, h]
theorem half_yes {off to : List Int} (h : half off to) : halfB off to = true := by simp [halfB, h]
theorem lv_lt (off : List Int) : ∀ v, lv off v < v
  | 0 => by simp [lv]
  | v + 1 => by
    have := lv_lt off v
    simp only [lv]; split <;> omega
theorem lv_ge (off : List Int) : ∀ v, -1 ≤ lv off v
  | 0 => by simp [lv]
  | v + 1 => by
    have := lv_ge off v
    simp only [lv]; split <;> omega
def lw (to : List Int) (k : Nat) : Int := if k = 0 then -1 else gi to (k - 1)
def lvi (off : List Int) (v i : Nat) : Int := if i = 0 then lv off v else v

theorem each_run {off to : List Int} : runP tab 1202 [.sl 1 (ints off), .sl 1 (ints to)] [] = some (.clo 1212 [] [.box [.sl 1 (ints off)], .box [.sl 1 (ints to)]], []) := by
  refine runP_fn t1202 rfl ?_
  simp (config := { maxSteps := 1000000 }) (disch := omega) only [go_sem, ↓reduceIte, Nat.reduceEqDiff, Nat.reduceAdd, Int.reduceToNat, reduceCtorEq, Nat.reduceLeDiff, Nat.reduceSub, Nat.reduceDiv, Nat.reduceMod, Nat.reduceMul, d1202]

def stL : Blk := .lp 0 [(4, .ref 0 0), (5, .ref 1 0), (6, .ref 2 0), (7, .ref 3 0), (46, .clo 1212 [] [.ref 4 0, .ref 5 0])] [47, 48] d1199_r0a d1199_r0 .normal
def stS (off to : List Int) (v : Nat) : St := ⟨[(0, .yld 6), (1, .ref 4 0), (2, .ref 5 0), (9, .int .i64 (off.length - 1)), (10, .int .i64 (v : Int))], [.row false [.bool false], .row false [.int .i64 ((off.length : Int) - 1)], .row false [.int .i64 (lv off v)], .row false [.int .i64 (lw to (oi off v))], .row false [.sl 1 (ints off)], .row false [.sl 1 (ints to)], stL], 7, [(0, 7, [0, 1, 2, 9, 10], [(0, 6), (1, 4), (2, 5)])]⟩
def stI (off to R : List Int) (v i : Nat) : St := ⟨[(0, .yld 6), (1, .ref 4 0), (2, .ref 5 0), (4, .int .i64 (v : Int)), (9, .int .i64 (off.length - 1)), (10, .int .i64 (v : Int)), (23, .sl 1 (ints R)), (24, .int .i64 ((oi off (v + 1) - oi off v : Nat) : Int)), (25, .int .i64 (i : Int))], [.row false [.bool false], .row false [.int .i64 ((off.length : Int) - 1)], .row false [.int .i64 (lvi off v i)], .row false [.int .i64 (lw to (oi off v + i))], .row false [.sl 1 (ints off)], .row false [.sl 1 (ints to)], stL], 7, [(1, 7, [0, 1, 2, 4, 9, 10, 23, 24, 25], [(0, 6), (1, 4), (2, 5)]), (0, 7, [0, 1, 2, 9, 10], [(0, 6), (1, 4), (2, 5)])]⟩
theorem row_cut {off to : List Int} (H : Lay off to) {v : Nat} (hv : v < off.length - 1) : (List.take (oi off (v + 1) - oi off v) (List.drop (oi off v) to)).length = oi off (v + 1) - oi off v ∧ ∀ i, i < oi off (v + 1) - oi off v → (List.take (oi off (v + 1) - oi off v) (List.drop (oi off v) to)).getD i 0 = gi to (oi off v + i) := by
  have a4 := H.ole (v := v + 1) (by omega)
  refine ⟨by rw [List.length_take, List.length_drop]; omega, fun i hi => ?_⟩
  rw [List.getD_eq_getElem?_getD, List.getElem?_take, if_pos hi, List.getElem?_drop, gi, List.getD_eq_getElem?_getD]

theorem st_num {off to R : List Int} {v i : Nat} (H : Lay off to) (hv : v < off.length - 1) (hRl : R.length = oi off (v + 1) - oi off v) (hRi : ∀ i, i < oi off (v + 1) - oi off v → R.getD i 0 = gi to (oi off v + i)) (hi : i < oi off (v + 1) - oi off v) (gk : good off to v (oi off v + i)) : Ev tab d1212_b1 (stI off to R v i) (fun x st => x = .normal ∧ st = stI off to R v (i + 1)) := by
  have h2 := H.hi
  have a4 := H.ole (v := v + 1) (by omega)
  have h3 := H.tl
  have er := hRi i hi
  obtain ⟨g1, g2, g3⟩ := gk
  have gp := places_run (n := (off.length : Int) - 1) (l := [gi to (oi off v + i)]) (by simp)
  rw [show allPl ((off.length : Int) - 1) [gi to (oi off v + i)] = true by simp [allPl]; omega] at gp
  simp only [ints, List.map_cons, List.map_nil] at gp
  simp (config := { maxSteps := 1000000 }) (disch := omega) only [go_sem, ↓reduceIte, Nat.reduceEqDiff, Nat.reduceAdd, Int.reduceToNat, reduceCtorEq, Nat.reduceLeDiff, Nat.reduceSub, Nat.reduceDiv, Nat.reduceMod, Nat.reduceMul, d1212_b1, stI, stL, er]
  refine EvR_eq rfl rfl ?_
  have hl := lv_lt off v
  by_cases hi0 : i = 0
  · subst hi0
    have q5 : lvi off v 0 = lv off v := rfl
    have q6 : ¬ (v : Int) = lv off v := by omega
    have q7 : lvi off v (0 + 1) = v := rfl
    have q8 : lw to (oi off v + 1) = gi to (oi off v) := by rw [lw, if_neg (by omega)]; congr 1
    rw [Nat.add_zero] at gp
    simp (config := { maxSteps := 1000000 }) (disch := omega) only [go_sem, ↓reduceIte, Nat.reduceEqDiff, Nat.reduceAdd, Int.reduceToNat, reduceCtorEq, Nat.reduceLeDiff, Nat.reduceSub, Nat.reduceDiv, Nat.reduceMod, Nat.reduceMul, d1199_r0a, d1199_r0, gp, q5, q6, q7, q8]
  · have q5 : lvi off v i = v := by rw [lvi, if_neg hi0]
    have q6 : lw to (oi off v + i) = gi to (oi off v + i - 1) := by rw [lw, if_neg (by omega)]
    have q7 : lvi off v (i + 1) = v := rfl
    have q8 : lw to (oi off v + (i + 1)) = gi to (oi off v + i) := by rw [lw, if_neg (by omega)]; congr 1
    have g4 := g3 (by omega)
    simp (config := { maxSteps := 1000000 }) (disch := omega) only [go_sem, ↓reduceIte, Nat.reduceEqDiff, Nat.reduceAdd, Int.reduceToNat, reduceCtorEq, Nat.reduceLeDiff, Nat.reduceSub, Nat.reduceDiv, Nat.reduceMod, Nat.reduceMul, d1199_r0a, d1199_r0, gp, q5, q6, q7, q8]

theorem st_row {off to : List Int} {v : Nat} (H : Lay off to) (hv : v < off.length - 1) (gv : goodV off to v) : Ev tab d1212_b0 (stS off to v) (fun x st => x = .normal ∧ st = stS off to (v + 1)) := by
  have h1 := H.lo
  have h2 := H.hi
  have h3 := H.tl
  have a1 := H.gn (v := v) (by omega)
  have a2 := H.gn (v := v + 1) (by omega)
  have a3 := H.om (v := v) (by omega)
  have a4 := H.ole (v := v + 1) (by omega)
  unfold goodV at gv
  simp only [gi] at a1 a2
  have q2 : ((v : Int) + 1).toNat = v + 1 := by omega
  obtain ⟨hRl, hRi⟩ := row_cut H hv
  have q3 : min (oi off (v + 1) - oi off v) (to.length - oi off v) = oi off (v + 1) - oi off v := by omega
  simp (config := { maxSteps := 1000000 }) (disch := omega) only [go_sem, ↓reduceIte, Nat.reduceEqDiff, Nat.reduceAdd, Int.reduceToNat, reduceCtorEq, Nat.reduceLeDiff, Nat.reduceSub, Nat.reduceDiv, Nat.reduceMod, Nat.reduceMul, d1212_b0, stS, stL, a1, a2, q2, q3]
  generalize List.take (oi off (v + 1) - oi off v) (List.drop (oi off v) to) = R at *
  refine Ev_loop0 (stI off to R v) (oi off (v + 1) - oi off v) (by simp [stI, stL, lvi]) (fun i hi => st_num H hv hRl hRi hi (gv i hi)) ?_
  have q5 : lvi off v (oi off (v + 1) - oi off v) = lv off (v + 1) := by
    simp only [lvi, lv]
    by_cases h : oi off v < oi off (v + 1)
    · rw [if_neg (by omega), if_pos h]
    · rw [if_pos (by omega), if_neg h]
  have q6 : oi off v + (oi off (v + 1) - oi off v) = oi off (v + 1) := by omega
  simp (config := { maxSteps := 1000000 }) (disch := omega) only [go_sem, ↓reduceIte, Nat.reduceEqDiff, Nat.reduceAdd, Int.reduceToNat, reduceCtorEq, Nat.reduceLeDiff, Nat.reduceSub, Nat.reduceDiv, Nat.reduceMod, Nat.reduceMul, d1212_b1, stI, stL, q5, q6]

theorem straight_run {off to : List Int} (ho : off.length ≤ 1000000) (ht : to.length ≤ 1000000) : runP tab 1199 [.sl 1 (ints off), .sl 1 (ints to)] [] = some (.bool (halfB off to), []) := by
  have hs := sorted_run ho
  by_cases k1 : (off.length : Int) - 1 < 1
  · rw [half_no fun h => by have := h.lo; omega]
    refine runP_fn t1199 rfl ?_
    simp (config := { maxSteps := 1000000 }) (disch := omega) only [go_sem, ↓reduceIte, Nat.reduceEqDiff, Nat.reduceAdd, Int.reduceToNat, reduceCtorEq, Nat.reduceLeDiff, Nat.reduceSub, Nat.reduceDiv, Nat.reduceMod, Nat.reduceMul, d1199]
  by_cases k2 : 200 < (off.length : Int) - 1
  · rw [half_no fun h => by have := h.hi; omega]
    refine runP_fn t1199 rfl ?_
    simp (config := { maxSteps := 1000000 }) (disch := omega) only [go_sem, ↓reduceIte, Nat.reduceEqDiff, Nat.reduceAdd, Int.reduceToNat, reduceCtorEq, Nat.reduceLeDiff, Nat.reduceSub, Nat.reduceDiv, Nat.reduceMod, Nat.reduceMul, d1199]
  by_cases k3 : 2000 < (to.length : Int)
  · rw [half_no fun h => by have := h.tl; omega]
    refine runP_fn t1199 rfl ?_
    simp (config := { maxSteps := 1000000 }) (disch := omega) only [go_sem, ↓reduceIte, Nat.reduceEqDiff, Nat.reduceAdd, Int.reduceToNat, reduceCtorEq, Nat.reduceLeDiff, Nat.reduceSub, Nat.reduceDiv, Nat.reduceMod, Nat.reduceMul, d1199]
  have e0 : rdc (ints off) none = some (.int .i64 (gi off 0)) := by
    have := ints_rdc0 (l := off) (i := 0) (by omega)
    rw [List.drop_zero] at this
    exact this
  by_cases k4 : gi off 0 = 0
  case neg =>
    rw [half_no fun h => k4 h.z]
    refine runP_fn t1199 rfl ?_
    simp (config := { maxSteps := 1000000 }) (disch := omega) only [go_sem, ↓reduceIte, Nat.reduceEqDiff, Nat.reduceAdd, Int.reduceToNat, reduceCtorEq, Nat.reduceLeDiff, Nat.reduceSub, Nat.reduceDiv, Nat.reduceMod, Nat.reduceMul, d1199, e0, k4]
  rw [k4] at e0
  have q1 : ((off.length : Int) - 1).toNat = off.length - 1 := by omega
  by_cases k5 : gi off (off.length - 1) = to.length
  case neg =>
    rw [half_no fun h => k5 h.e]
    refine runP_fn t1199 rfl ?_
    simp only [gi] at k5
    simp (config := { maxSteps := 1000000 }) (disch := omega) only [go_sem, ↓reduceIte, Nat.reduceEqDiff, Nat.reduceAdd, Int.reduceToNat, reduceCtorEq, Nat.reduceLeDiff, Nat.reduceSub, Nat.reduceDiv, Nat.reduceMod, Nat.reduceMul, d1199, e0, k5, q1]
  have he := k5
  simp only [gi] at he
  by_cases k6 : mono off
  case neg =>
    rw [half_no fun h => k6 h.mono]
    rw [show monoB off = false by simp [monoB, k6]] at hs
    refine runP_fn t1199 rfl ?_
    simp (config := { maxSteps := 1000000 }) (disch := omega) only [go_sem, ↓reduceIte, Nat.reduceEqDiff, Nat.reduceAdd, Int.reduceToNat, reduceCtorEq, Nat.reduceLeDiff, Nat.reduceSub, Nat.reduceDiv, Nat.reduceMod, Nat.reduceMul, d1199, e0, he, q1, hs]
  rw [show monoB off = true by simp [monoB, k6]] at hs
  have H : Lay off to := ⟨by omega, by omega, by omega, k4, k5, k6⟩
  refine runP_fn t1199 rfl ?_
  simp (config := { maxSteps := 1000000 }) (disch := omega) only [go_sem, ↓reduceIte, Nat.reduceEqDiff, Nat.reduceAdd, Int.reduceToNat, reduceCtorEq, Nat.reduceLeDiff, Nat.reduceSub, Nat.reduceDiv, Nat.reduceMod, Nat.reduceMul, d1199, hs, each_run, q1, he, e0]
  refine Ev_rangef rfl ?_
  refine EvC_fn t1212 rfl ?_
  simp (config := { maxSteps := 1000000 }) (disch := omega) only [go_sem, ↓reduceIte, Nat.reduceEqDiff, Nat.reduceAdd, Int.reduceToNat, reduceCtorEq, Nat.reduceLeDiff, Nat.reduceSub, Nat.reduceDiv, Nat.reduceMod, Nat.reduceMul, d1212]
  have hst0 : ∀ w, w = stS off to 0 → w = stS off to 0 := fun _ h => h
  rcases first_ix' (fun v => goodV off to v) (off.length - 1) with hg | ⟨v, hv, hb, hbad⟩
  · rw [half_yes ⟨H.lo, H.hi, H.tl, H.z, H.e, H.mono, fun v hv k h1 h2 => by
      have := hg v (by omega) (k - oi off v) (by omega)
      rw [show oi off v + (k - oi off v) = k by omega] at this
      exact this⟩]
    refine Ev_loop0 (stS off to) (off.length - 1) (by simp [stS, stL, lv, lw, H.oz]) (fun v hv => st_row H hv (hg v hv)) ?_
    simp (config := { maxSteps := 1000000 }) (disch := omega) only [go_sem, ↓reduceIte, Nat.reduceEqDiff, Nat.reduceAdd, Int.reduceToNat, reduceCtorEq, Nat.reduceLeDiff, Nat.reduceSub, Nat.reduceDiv, Nat.reduceMod, Nat.reduceMul, d1212_b0, stS, stL]
  · rw [half_no fun h => hbad fun i hi => h.pl v (by omega) (oi off v + i) (by omega) (by omega)]
    rcases first_ix' (fun i => good off to v (oi off v + i)) (oi off (v + 1) - oi off v) with hg | ⟨i, hi, hbi, hbadi⟩
    · exact absurd hg hbad
    refine Ev_loop0 (stS off to) v (by simp [stS, stL, lv, lw, H.oz]) (fun u hu => st_row H (by omega) (hb u hu)) ?_
    have a1 := H.gn (v := v) (by omega)
    have a2 := H.gn (v := v + 1) (by omega)
    have a3 := H.om (v := v) (by omega)
    have a4 := H.ole (v := v + 1) (by omega)
    simp only [gi] at a1 a2
    have q2 : ((v : Int) + 1).toNat = v + 1 := by omega
    obtain ⟨hRl, hRi⟩ := row_cut H hv
    have q3 : min (oi off (v + 1) - oi off v) (to.length - oi off v) = oi off (v + 1) - oi off v := by omega
    simp (config := { maxSteps := 1000000 }) (disch := omega) only [go_sem, ↓reduceIte, Nat.reduceEqDiff, Nat.reduceAdd, Int.reduceToNat, reduceCtorEq, Nat.reduceLeDiff, Nat.reduceSub, Nat.reduceDiv, Nat.reduceMod, Nat.reduceMul, d1212_b0, stS, stL, a1, a2, q2, q3]
    generalize List.take (oi off (v + 1) - oi off v) (List.drop (oi off v) to) = R at *
    refine Ev_loop0 (stI off to R v) i (by simp [stI, stL, lvi]) (fun j hj => st_num H hv hRl hRi (by omega) (hbi j hj)) ?_
    have er := hRi i hi
    have gp := places_run (n := (off.length : Int) - 1) (l := [gi to (oi off v + i)]) (by simp)
    simp only [ints, List.map_cons, List.map_nil] at gp
    simp (config := { maxSteps := 1000000 }) (disch := omega) only [go_sem, ↓reduceIte, Nat.reduceEqDiff, Nat.reduceAdd, Int.reduceToNat, reduceCtorEq, Nat.reduceLeDiff, Nat.reduceSub, Nat.reduceDiv, Nat.reduceMod, Nat.reduceMul, d1212_b1, stI, stL, er]
    refine EvR_eq rfl rfl ?_
    by_cases g1 : 0 ≤ gi to (oi off v + i) ∧ gi to (oi off v + i) < (off.length : Int) - 1
    · rw [show allPl ((off.length : Int) - 1) [gi to (oi off v + i)] = true by simp [allPl]; omega] at gp
      have g2 : 0 < i ∧ gi to (oi off v + i) ≤ gi to (oi off v + i - 1) := by
        refine ⟨Nat.pos_of_ne_zero fun h => hbadi ⟨g1.1, g1.2, fun h2 => by omega⟩, ?_⟩
        by_cases h : gi to (oi off v + i) ≤ gi to (oi off v + i - 1)
        · exact h
        · exact absurd ⟨g1.1, g1.2, fun _ => by omega⟩ hbadi
      have q5 : lvi off v i = v := by rw [lvi, if_neg (by omega)]
      have q6 : lw to (oi off v + i) = gi to (oi off v + i - 1) := by rw [lw, if_neg (by omega)]
      simp (config := { maxSteps := 1000000 }) (disch := omega) only [go_sem, ↓reduceIte, Nat.reduceEqDiff, Nat.reduceAdd, Int.reduceToNat, reduceCtorEq, Nat.reduceLeDiff, Nat.reduceSub, Nat.reduceDiv, Nat.reduceMod, Nat.reduceMul, d1199_r0a, d1199_r0, gp, q5, q6]
    · rw [show allPl ((off.length : Int) - 1) [gi to (oi off v + i)] = false by simp [allPl]; omega] at gp
      simp (config := { maxSteps := 1000000 }) (disch := omega) only [go_sem, ↓reduceIte, Nat.reduceEqDiff, Nat.reduceAdd, Int.reduceToNat, reduceCtorEq, Nat.reduceLeDiff, Nat.reduceSub, Nat.reduceDiv, Nat.reduceMod, Nat.reduceMul, d1199_r0a, d1199_r0, gp]

end Go.Proofs.Ytmeakgiojhoofaa
