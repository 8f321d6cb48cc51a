/-
  Rows: both tell the same ways.
-/
import Derived.Test.YtmeakgiojhoofaaHs
namespace Go.Proofs.Ytmeakgiojhoofaa
set_option linter.unusedSimpArgs false
set_option linter.unusedVariables false
set_option maxHeartbeats 4000000
set_option maxRecDepth 100000

/-- Where the next one of each row of Rev stands, behind k numbers. -/
def nx (roff to : List Int) (k : Nat) : List Int := (List.range roff.length).map fun w => gi roff w + cntI to w k
theorem nx_len (roff to : List Int) (k : Nat) : (nx roff to k).length = roff.length := by simp [nx]
theorem nx_at {roff to : List Int} {k w : Nat} (h : w < roff.length) : (nx roff to k).getD w 0 = gi roff w + cntI to w k := by
  rw [nx, List.getD_eq_getElem?_getD, List.getElem?_map, List.getElem?_range h]; rfl
theorem nx_zero (roff to : List Int) : nx roff to 0 = roff := by
  refine gi_ext (by simp [nx]) fun i hi => ?_
  rw [nx_len] at hi
  rw [gi, nx_at hi]; simp [cntI]
theorem nx_succ {roff to : List Int} {k w : Nat} (hw : gi to k = w) (h : w < roff.length) : (nx roff to k).set w (gi roff w + cntI to w k + 1) = nx roff to (k + 1) := by
  refine gi_ext (by simp [nx]) fun i hi => ?_
  rw [List.length_set, nx_len] at hi
  rw [gi_set (by rw [nx_len]; exact h)]
  have e := nx_at (roff := roff) (to := to) (k := k + 1) hi
  have e2 := nx_at (roff := roff) (to := to) (k := k) hi
  simp only [gi] at e e2 ⊢
  rw [e]
  by_cases hiw : i = w
  · subst hiw
    rw [if_pos rfl, cntI_yes hw]; omega
  · rw [if_neg hiw, e2, cntI_no (by rw [hw]; omega)]

def rwS (r : Rw) : List AV := [.sl 1 (ints r.off), .sl 1 (ints r.to), .sl 1 (ints r.roff), .sl 1 (ints r.rev)]

theorem cnt_le {r : Rw} (b : half r.roff r.rev) : ∀ {k : Nat}, (∀ j, j < k → stepOk r j) → ∀ w : Nat, w + 1 < r.roff.length → oi r.roff w + cntI r.to w k ≤ oi r.roff (w + 1)
  | 0, _, w, hw => by have := b.om hw; simp [cntI]; exact this
  | k + 1, h, w, hw => by
    have ih := cnt_le b (k := k) (fun j hj => h j (by omega)) w hw
    by_cases e : gi r.to k = w
    · rw [cntI_yes e]
      obtain ⟨s1, _⟩ := h k (by omega)
      rw [e, Int.toNat_natCast] at s1
      omega
    · rw [cntI_no e]; exact ih

def miL : Blk := .lp 0 [(1, .ref 0 0), (2, .ref 1 0), (3, .ref 3 0), (21, .clo 1212 [] [.ref 4 0, .ref 5 0])] [22, 23] d1200_r0a d1200_r0 .normal
def miH (r : Rw) (k : Nat) : List Blk := [.row false [.sl 1 (ints r.off), .sl 1 (ints r.to), .sl 1 (ints r.roff), .sl 1 (ints r.rev)], .row false [.bool false], .dead, .row false [.own 1 6], .row false [.sl 1 (ints r.off)], .row false [.sl 1 (ints r.to)], .row false (ints (nx r.roff r.to k)), miL]
def miS (r : Rw) (v : Nat) : St := ⟨[(0, .yld 7), (1, .ref 4 0), (2, .ref 5 0), (9, .int .i64 (r.off.length - 1)), (10, .int .i64 (v : Int))], miH r (oi r.off v), 8, [(0, 8, [0, 1, 2, 9, 10], [(0, 7), (1, 4), (2, 5)])]⟩
def miI (r : Rw) (R : List Int) (v i : Nat) : St := ⟨[(0, .yld 7), (1, .ref 4 0), (2, .ref 5 0), (4, .int .i64 (v : Int)), (9, .int .i64 (r.off.length - 1)), (10, .int .i64 (v : Int)), (23, .sl 1 (ints R)), (24, .int .i64 ((oi r.off (v + 1) - oi r.off v : Nat) : Int)), (25, .int .i64 (i : Int))], miH r (oi r.off v + i), 8, [(1, 8, [0, 1, 2, 4, 9, 10, 23, 24, 25], [(0, 7), (1, 4), (2, 5)]), (0, 8, [0, 1, 2, 9, 10], [(0, 7), (1, 4), (2, 5)])]⟩

theorem mi_num {r : Rw} {R : List Int} {v i : Nat} (hl : r.off.length = r.roff.length) (f : half r.off r.to) (b : half r.roff r.rev) (hv : v < r.off.length - 1) (hRl : R.length = oi r.off (v + 1) - oi r.off v) (hRi : ∀ i, i < oi r.off (v + 1) - oi r.off v → R.getD i 0 = gi r.to (oi r.off v + i)) (hi : i < oi r.off (v + 1) - oi r.off v) (hs : stepOk r (oi r.off v + i)) : Ev tab d1212_b1 (miI r R v i) (fun x st => x = .normal ∧ st = miI r R v (i + 1)) := by
  have b2 := b.hi
  have b3 := b.tl
  have f3 := f.tl
  have a4 := f.ole (v := v + 1) (by omega)
  have hp := f.pl v (by omega) (oi r.off v + i) (by omega) (by omega)
  obtain ⟨w, hw⟩ : ∃ w : Nat, gi r.to (oi r.off v + i) = w := ⟨(gi r.to (oi r.off v + i)).toNat, by omega⟩
  obtain ⟨s1, s2⟩ := hs
  rw [f.se (v := v) (by omega) (by omega) (by omega)] at s2
  rw [hw, Int.toNat_natCast] at s1 s2
  have hw1 : w + 1 < r.roff.length := by omega
  have er := hRi i hi
  rw [hw] at er
  have hb1 := b.gn (v := w) (by omega)
  have hb2 := b.gn (v := w + 1) (by omega)
  have hb3 := b.ole (v := w + 1) (by omega)
  have en := nx_at (roff := r.roff) (to := r.to) (k := oi r.off v + i) (w := w) (by omega)
  have es := nx_succ (roff := r.roff) (to := r.to) hw (by omega)
  rw [hb1] at en es
  simp only [gi] at hb2 s2
  have hnl := nx_len r.roff r.to (oi r.off v + i)
  generalize hc : cntI r.to w (oi r.off v + i) = c at *
  have q1 : ((oi r.roff w : Int) + (c : Int)).toNat = oi r.roff w + c := by omega
  have q2 : ((w : Int) + 1).toNat = w + 1 := by omega
  have q3 : ¬ ((oi r.roff w : Int) + (c : Int) = (oi r.roff (w + 1) : Int)) := by omega
  have q4 : oi r.off v + (i + 1) = oi r.off v + i + 1 := by omega
  generalize hN : nx r.roff r.to (oi r.off v + i) = N at *
  simp (config := { maxSteps := 1000000 }) (disch := omega) only [go_sem, ↓reduceIte, Nat.reduceEqDiff, Nat.reduceAdd, Int.reduceToNat, reduceCtorEq, Nat.reduceLeDiff, Nat.reduceSub, Nat.reduceDiv, Nat.reduceMod, Nat.reduceMul, d1212_b1, miI, miH, miL, er, hN]
  refine EvR_eq rfl rfl ?_
  simp (config := { maxSteps := 1000000 }) (disch := omega) only [go_sem, ↓reduceIte, Nat.reduceEqDiff, Nat.reduceAdd, Int.reduceToNat, reduceCtorEq, Nat.reduceLeDiff, Nat.reduceSub, Nat.reduceDiv, Nat.reduceMod, Nat.reduceMul, d1200_r0a, d1200_r0, en, hb2, s2, q1, q2, q3, es, q4]

theorem mi_row {r : Rw} {v : Nat} (hl : r.off.length = r.roff.length) (f : half r.off r.to) (b : half r.roff r.rev) (hv : v < r.off.length - 1) (hs : ∀ i, i < oi r.off (v + 1) - oi r.off v → stepOk r (oi r.off v + i)) : Ev tab d1212_b0 (miS r v) (fun x st => x = .normal ∧ st = miS r (v + 1)) := by
  have H := f.lay
  have h1 := H.lo
  have h2 := H.hi
  have h3 := H.tl
  have a1 := H.gn (v := v) (by omega)
  have a2 := H.gn (v := v + 1) (by omega)
  have a3 := H.om (v := v) (by omega)
  have a4 := H.ole (v := v + 1) (by omega)
  simp only [gi] at a1 a2
  have q2 : ((v : Int) + 1).toNat = v + 1 := by omega
  obtain ⟨hRl, hRi⟩ := row_cut H hv
  have q3 : min (oi r.off (v + 1) - oi r.off v) (r.to.length - oi r.off v) = oi r.off (v + 1) - oi r.off v := by omega
  simp (config := { maxSteps := 1000000 }) (disch := omega) only [go_sem, ↓reduceIte, Nat.reduceEqDiff, Nat.reduceAdd, Int.reduceToNat, reduceCtorEq, Nat.reduceLeDiff, Nat.reduceSub, Nat.reduceDiv, Nat.reduceMod, Nat.reduceMul, d1212_b0, miS, miH, miL, a1, a2, q2, q3]
  generalize List.take (oi r.off (v + 1) - oi r.off v) (List.drop (oi r.off v) r.to) = R at *
  refine Ev_loop0 (miI r R v) (oi r.off (v + 1) - oi r.off v) (by simp [miI, miH, miL]) (fun i hi => mi_num hl f b hv hRl hRi hi (hs i hi)) ?_
  have q6 : oi r.off v + (oi r.off (v + 1) - oi r.off v) = oi r.off (v + 1) := by omega
  simp (config := { maxSteps := 1000000 }) (disch := omega) only [go_sem, ↓reduceIte, Nat.reduceEqDiff, Nat.reduceAdd, Int.reduceToNat, reduceCtorEq, Nat.reduceLeDiff, Nat.reduceSub, Nat.reduceDiv, Nat.reduceMod, Nat.reduceMul, d1212_b1, miI, miH, miL, q6]

theorem mirrored_run {r : Rw} (hl : r.off.length = r.roff.length) (f : half r.off r.to) (b : half r.roff r.rev) : runP tab 1200 [.agg (rwS r)] [] = some (.bool (chk r), []) := by
  refine runP_fn t1200 rfl ?_
  have b2 := b.hi
  have b1 := b.lo
  have b3 := b.tl
  have f1 := f.lo
  have f2 := f.hi
  have f3 := f.tl
  have gc := clonei_run (l := r.roff) (by omega)
  by_cases hm : r.to.length = r.rev.length
  · have q1 : ((r.to.length : Int) = r.rev.length) := by omega
    simp (config := { maxSteps := 1000000 }) (disch := omega) only [go_sem, ↓reduceIte, Nat.reduceEqDiff, Nat.reduceAdd, Int.reduceToNat, reduceCtorEq, Nat.reduceLeDiff, Nat.reduceSub, Nat.reduceDiv, Nat.reduceMod, Nat.reduceMul, d1200, rwS, gc, each_run, q1]
    refine Ev_rangef rfl ?_
    refine EvC_fn t1212 rfl ?_
    simp (config := { maxSteps := 1000000 }) (disch := omega) only [go_sem, ↓reduceIte, Nat.reduceEqDiff, Nat.reduceAdd, Int.reduceToNat, reduceCtorEq, Nat.reduceLeDiff, Nat.reduceSub, Nat.reduceDiv, Nat.reduceMod, Nat.reduceMul, d1212]
    have h0 : nx r.roff r.to (oi r.off 0) = r.roff := by rw [f.oz, nx_zero]
    rcases first_ix' (fun k => stepOk r k) r.to.length with h | ⟨k, hk, hb, hbad⟩
    · rw [chk_yes ⟨hl, f, b, hm, mir_of_steps hl f b h⟩]
      refine Ev_loop0 (miS r) (r.off.length - 1) (by simp [miS, miH, miL, h0]) (fun v hv => mi_row hl f b hv fun i hi => h _ (by have := f.ole (v := v + 1) (by omega); omega)) ?_
      simp (config := { maxSteps := 1000000 }) (disch := omega) only [go_sem, ↓reduceIte, Nat.reduceEqDiff, Nat.reduceAdd, Int.reduceToNat, reduceCtorEq, Nat.reduceLeDiff, Nat.reduceSub, Nat.reduceDiv, Nat.reduceMod, Nat.reduceMul, d1212_b0, miS, miH, miL]
    · rw [chk_no fun h => hbad (steps_of_mir hl f b hm h.mir hk)]
      obtain ⟨v, v1, v2, v3⟩ := f.ex hk
      obtain ⟨i, rfl⟩ : ∃ i, k = oi r.off v + i := ⟨k - oi r.off v, by omega⟩
      have hv : v < r.off.length - 1 := by omega
      refine Ev_loop0 (miS r) v (by simp [miS, miH, miL, h0]) (fun u hu => mi_row hl f b (by omega) fun j hj => hb _ (by have := f.omm (v := u + 1) (w := v) (by omega) (by omega); omega)) ?_
      have H := f.lay
      have a1 := H.gn (v := v) (by omega)
      have a2 := H.gn (v := v + 1) (by omega)
      have a3 := H.om (v := v) (by omega)
      have a4 := H.ole (v := v + 1) (by omega)
      simp only [gi] at a1 a2
      have q2 : ((v : Int) + 1).toNat = v + 1 := by omega
      obtain ⟨hRl, hRi⟩ := row_cut H hv
      have q3 : min (oi r.off (v + 1) - oi r.off v) (r.to.length - oi r.off v) = oi r.off (v + 1) - oi r.off v := by omega
      simp (config := { maxSteps := 1000000 }) (disch := omega) only [go_sem, ↓reduceIte, Nat.reduceEqDiff, Nat.reduceAdd, Int.reduceToNat, reduceCtorEq, Nat.reduceLeDiff, Nat.reduceSub, Nat.reduceDiv, Nat.reduceMod, Nat.reduceMul, d1212_b0, miS, miH, miL, a1, a2, q2, q3]
      generalize List.take (oi r.off (v + 1) - oi r.off v) (List.drop (oi r.off v) r.to) = R at *
      refine Ev_loop0 (miI r R v) i (by simp [miI, miH, miL]) (fun j hj => mi_num hl f b hv hRl hRi (by omega) (hb _ (by omega))) ?_
      have hp := f.pl v (by omega) (oi r.off v + i) (by omega) (by omega)
      obtain ⟨w, hw⟩ : ∃ w : Nat, gi r.to (oi r.off v + i) = w := ⟨(gi r.to (oi r.off v + i)).toNat, by omega⟩
      have hw1 : w + 1 < r.roff.length := by omega
      have hcl := cnt_le b hb w hw1
      unfold stepOk at hbad
      rw [f.se (v := v) (by omega) (by omega) (by omega), hw, Int.toNat_natCast] at hbad
      have er := hRi i (by omega)
      rw [hw] at er
      have hb1 := b.gn (v := w) (by omega)
      have hb2 := b.gn (v := w + 1) (by omega)
      have hb3 := b.ole (v := w + 1) (by omega)
      have en := nx_at (roff := r.roff) (to := r.to) (k := oi r.off v + i) (w := w) (by omega)
      rw [hb1] at en
      simp only [gi] at hb2 hbad
      have hnl := nx_len r.roff r.to (oi r.off v + i)
      generalize hc : cntI r.to w (oi r.off v + i) = c at *
      have q1 : ((oi r.roff w : Int) + (c : Int)).toNat = oi r.roff w + c := by omega
      have q2 : ((w : Int) + 1).toNat = w + 1 := by omega
      generalize hN : nx r.roff r.to (oi r.off v + i) = N at *
      simp (config := { maxSteps := 1000000 }) (disch := omega) only [go_sem, ↓reduceIte, Nat.reduceEqDiff, Nat.reduceAdd, Int.reduceToNat, reduceCtorEq, Nat.reduceLeDiff, Nat.reduceSub, Nat.reduceDiv, Nat.reduceMod, Nat.reduceMul, d1212_b1, miI, miH, miL, er, hN]
      refine EvR_eq rfl rfl ?_
      by_cases h5 : (oi r.roff w : Int) + (c : Int) = (oi r.roff (w + 1) : Int)
      · simp (config := { maxSteps := 1000000 }) (disch := omega) only [go_sem, ↓reduceIte, Nat.reduceEqDiff, Nat.reduceAdd, Int.reduceToNat, reduceCtorEq, Nat.reduceLeDiff, Nat.reduceSub, Nat.reduceDiv, Nat.reduceMod, Nat.reduceMul, d1200_r0a, d1200_r0, en, hb2, q1, q2, h5]
      · have h6 : ¬ r.rev.getD (oi r.roff w + c) 0 = (v : Int) := fun h => hbad ⟨by omega, h⟩
        simp (config := { maxSteps := 1000000 }) (disch := omega) only [go_sem, ↓reduceIte, Nat.reduceEqDiff, Nat.reduceAdd, Int.reduceToNat, reduceCtorEq, Nat.reduceLeDiff, Nat.reduceSub, Nat.reduceDiv, Nat.reduceMod, Nat.reduceMul, d1200_r0a, d1200_r0, en, hb2, q1, q2, h5, h6]
  · have q1 : ¬ ((r.to.length : Int) = r.rev.length) := by omega
    rw [chk_no fun h => hm h.m]
    simp (config := { maxSteps := 1000000 }) (disch := omega) only [go_sem, ↓reduceIte, Nat.reduceEqDiff, Nat.reduceAdd, Int.reduceToNat, reduceCtorEq, Nat.reduceLeDiff, Nat.reduceSub, Nat.reduceDiv, Nat.reduceMod, Nat.reduceMul, d1200, rwS, q1]

theorem check_run {r : Rw} (h1 : r.off.length ≤ 1000000) (h2 : r.to.length ≤ 1000000) (h3 : r.roff.length ≤ 1000000) (h4 : r.rev.length ≤ 1000000) : runP tab 1188 [.agg (rwS r)] [] = some (.bool (chk r), []) := by
  refine runP_fn t1188 rfl ?_
  have g1 := straight_run h1 h2
  have g2 := straight_run h3 h4
  by_cases hl : r.off.length = r.roff.length
  case neg =>
    rw [chk_no fun h => hl h.l]
    have q : ¬ ((r.off.length : Int) = r.roff.length) := by omega
    simp (config := { maxSteps := 1000000 }) (disch := omega) only [go_sem, ↓reduceIte, Nat.reduceEqDiff, Nat.reduceAdd, Int.reduceToNat, reduceCtorEq, Nat.reduceLeDiff, Nat.reduceSub, Nat.reduceDiv, Nat.reduceMod, Nat.reduceMul, d1188, rwS, q]
  have q : ((r.off.length : Int) = r.roff.length) := by omega
  by_cases f : half r.off r.to
  case neg =>
    rw [chk_no fun h => f h.f]
    rw [half_no f] at g1
    simp (config := { maxSteps := 1000000 }) (disch := omega) only [go_sem, ↓reduceIte, Nat.reduceEqDiff, Nat.reduceAdd, Int.reduceToNat, reduceCtorEq, Nat.reduceLeDiff, Nat.reduceSub, Nat.reduceDiv, Nat.reduceMod, Nat.reduceMul, d1188, rwS, q, g1]
  rw [half_yes f] at g1
  by_cases b : half r.roff r.rev
  case neg =>
    rw [chk_no fun h => b h.b]
    rw [half_no b] at g2
    simp (config := { maxSteps := 1000000 }) (disch := omega) only [go_sem, ↓reduceIte, Nat.reduceEqDiff, Nat.reduceAdd, Int.reduceToNat, reduceCtorEq, Nat.reduceLeDiff, Nat.reduceSub, Nat.reduceDiv, Nat.reduceMod, Nat.reduceMul, d1188, rwS, q, g1, g2]
  rw [half_yes b] at g2
  have g3 := mirrored_run hl f b
  simp only [rwS] at g3
  simp (config := { maxSteps := 1000000 }) (disch := omega) only [go_sem, ↓reduceIte, Nat.reduceEqDiff, Nat.reduceAdd, Int.reduceToNat, reduceCtorEq, Nat.reduceLeDiff, Nat.reduceSub, Nat.reduceDiv, Nat.reduceMod, Nat.reduceMul, d1188, rwS, q, g1, g2, g3]

end Go.Proofs.Ytmeakgiojhoofaa
