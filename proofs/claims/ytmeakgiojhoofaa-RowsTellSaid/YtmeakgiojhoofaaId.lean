/-
  Layer 4: RowsTell.
-/
import Derived.Test.YtmeakgiojhoofaaIc
namespace Go.Proofs.Ytmeakgiojhoofaa
set_option linter.unusedSimpArgs false
set_option linter.unusedVariables false
set_option maxHeartbeats 4000000
set_option maxRecDepth 100000

def sevens (n : Nat) (l : List Int) : List Int := List.replicate n (-7) ++ l.drop n
theorem sevens_succ {n : Nat} {l : List Int} (h : n < l.length) : (sevens n l).set n (-7) = sevens (n + 1) l := by
  unfold sevens
  rw [List.set_append_right _ _ (by simp), List.length_replicate, Nat.sub_self, List.drop_eq_getElem_cons h, List.set_cons_zero, List.replicate_succ', List.append_assoc]; rfl
theorem sevens_len {n : Nat} {l : List Int} (h : n ≤ l.length) : (sevens n l).length = l.length := by simp [sevens]; omega

theorem told1_cases (r : Rw) (off to : List Int) (v : Int) : ∃ (L : List Int) (b : Bool), told1 r off to v = .tup [.vec 1 (ints L), .bool b] ∧ (L = [] ∨ ∃ w : Nat, chk r = true ∧ v = w ∧ w + 1 < off.length ∧ L = rowI off to w) := by
  unfold told1
  by_cases h : chk r = true ∧ 0 ≤ v ∧ v < (off.length : Int) - 1
  · rw [if_pos h]
    exact ⟨_, true, rfl, .inr ⟨v.toNat, h.1, by omega, by omega, rfl⟩⟩
  · rw [if_neg h]
    exact ⟨[], false, rfl, .inl rfl⟩
theorem toldE_cases (r : Rw) : ∃ (E : List Ed) (e : Int), toldE r = .tup [.vec 2 (prs E), .int .i64 e] ∧ E.length ≤ 2000 := by
  unfold toldE
  cases hc : chk r with
  | true =>
    have f := (chk_iff.1 hc).f
    rw [if_pos rfl]
    refine ⟨_, 0, rfl, ?_⟩
    have lo := f.lo
    rw [edU_len f (by omega)]
    have := f.ole (v := r.off.length - 1) (by omega)
    have := f.tl
    omega
  | false =>
    rw [if_neg (by simp)]
    exact ⟨[], 40, rfl, by simp⟩

theorem tell_run {r : Rw} {v w : Int} (hf : rwFit r) (hv : I64 v) (hw : I64 w) : runP tab 1312 [.agg (rwS r), .int .i64 v, .int .i64 w] [] = some (.bool true, []) := by
  refine runP_fn t1312 rfl ?_
  have gb := bigR_run hf
  have gt := told_run
  simp only [rwS] at gb
  cases hb : bigR r with
  | true =>
    rw [hb] at gb
    simp (config := { maxSteps := 1000000 }) (disch := omega) only [go_sem, ↓reduceIte, Nat.reduceEqDiff, Nat.reduceAdd, Int.reduceToNat, reduceCtorEq, Nat.reduceLeDiff, Nat.reduceSub, Nat.reduceDiv, Nat.reduceMod, Nat.reduceMul, d1312, rwS, gb, gt]
  | false =>
    rw [hb] at gb
    have hr := bigR_ok hb
    have go := rown_run hr
    have g1 := out_run hr hv
    have g2 := rout_run hr hv
    have g3 := in_run hr hv
    have g4 := rinn_run hr hv
    have g5 := edges_run hr
    have g6 := redges_run hr
    have g7 := hr.check
    have g8 := rcheck_run hr
    have g9 := has_run hr hv hw
    have g10 := rhas_run hr hv hw
    have g11 := rsame_run hr hr
    have ha := hr.a
    have hbb := hr.b
    have hcc := hr.c
    have hdd := hr.d
    obtain ⟨L, b1, e1, l1⟩ := told1_cases r r.off r.to v
    obtain ⟨M, b2, e2, l2⟩ := told1_cases r r.roff r.rev v
    obtain ⟨E, e, e3, l3⟩ := toldE_cases r
    have hL : L.length ≤ 2000 := by
      rcases l1 with rfl | ⟨u, h1, _, h2, rfl⟩
      · simp
      · exact row_le (chk_iff.1 h1) h2
    have hM : M.length ≤ 2000 := by
      rcases l2 with rfl | ⟨u, h1, _, h2, rfl⟩
      · simp
      · exact row_le' (chk_iff.1 h1) h2
    rw [e1] at g1 g2
    rw [e2] at g3 g4
    rw [e3] at g5 g6
    have i1 := ints_run (a := L) (b := L) (by omega) (by omega)
    have i2 := ints_run (a := M) (b := M) (by omega) (by omega)
    have i3 := seds_run (a := E) (b := E) (by omega) (by omega)
    simp only [decide_true, beq_self_eq_true] at g11 i1 i2 i3
    simp only [rwS] at go g1 g2 g3 g4 g5 g6 g7 g8 g9 g10 g11
    generalize chk r = c at *
    generalize way r v w = y at *
    clear e1 e2 e3 l1 l2
    have cb : (c == c) = true := by simp
    have yb : (y == y) = true := by simp
    have bb1 : (b1 == b1) = true := by simp
    have bb2 : (b2 == b2) = true := by simp
    simp (config := { maxSteps := 1000000 }) (disch := omega) only [go_sem, ↓reduceIte, Nat.reduceEqDiff, Nat.reduceAdd, Int.reduceToNat, reduceCtorEq, Nat.reduceLeDiff, Nat.reduceSub, Nat.reduceDiv, Nat.reduceMod, Nat.reduceMul, d1312, rwS, gb, gt, go, g1, g2, g3, g4, g5, g6, g7, g8, g9, g10, g11, i1, i2, i3, cb, yb, bb1, bb2]
    refine Ev_loop0 (fun i => ⟨[(3, .ref 0 0), (7, .ref 5 0), (8, .own 1 6), (12, .own 1 12), (20, .bool true), (21, .int .i64 (i : Int))], [.row false [.sl 1 (ints r.off), .sl 1 (ints r.to), .sl 1 (ints r.roff), .sl 1 (ints r.rev)], .dead, .dead, .dead, .dead, .row false [.own 1 7, .own 1 8, .own 1 9, .own 1 10], .row false (ints (sevens i L)), .row false (ints r.off), .row false (ints r.to), .row false (ints r.roff), .row false (ints r.rev), .row false (ints L), .row false (ints M), .row false (ints M), .row false (prs E), .row false (prs E)], 0, [(0, 16, [3, 7, 8, 12, 20, 21], [(3, 0), (7, 5), (8, 6), (12, 12)])]⟩) L.length (by simp [sevens]) (fun i hi => ?_) ?_
    · have sl := sevens_len (n := i) (l := L) (by omega)
      have ss := sevens_succ hi
      simp (config := { maxSteps := 1000000 }) (disch := omega) only [go_sem, ↓reduceIte, Nat.reduceEqDiff, Nat.reduceAdd, Int.reduceToNat, reduceCtorEq, Nat.reduceLeDiff, Nat.reduceSub, Nat.reduceDiv, Nat.reduceMod, Nat.reduceMul, d1312_b0, sl, ss]
    · have sl := sevens_len (n := L.length) (l := L) (by omega)
      simp (config := { maxSteps := 1000000 }) (disch := omega) only [go_sem, ↓reduceIte, Nat.reduceEqDiff, Nat.reduceAdd, Int.reduceToNat, reduceCtorEq, Nat.reduceLeDiff, Nat.reduceSub, Nat.reduceDiv, Nat.reduceMod, Nat.reduceMul, d1312_b0, sl]
      refine Ev_loop0 (fun i => ⟨[(3, .ref 0 0), (7, .ref 5 0), (12, .own 1 12), (20, .bool true), (22, .int .i64 (i : Int))], [.row false [.sl 1 (ints r.off), .sl 1 (ints r.to), .sl 1 (ints r.roff), .sl 1 (ints r.rev)], .dead, .dead, .dead, .dead, .row false [.own 1 7, .own 1 8, .own 1 9, .own 1 10], .row false (ints (sevens L.length L)), .row false (ints r.off), .row false (ints r.to), .row false (ints r.roff), .row false (ints r.rev), .row false (ints L), .row false (ints (sevens i M)), .row false (ints M), .row false (prs E), .row false (prs E)], 0, [(1, 16, [3, 7, 12, 20, 22], [(3, 0), (7, 5), (12, 12)]), (0, 16, [3, 7, 8, 12, 20, 21], [(3, 0), (7, 5), (8, 6), (12, 12)])]⟩) M.length (by simp [sevens]) (fun i hi => ?_) ?_
      · have sl := sevens_len (n := i) (l := M) (by omega)
        have ss := sevens_succ hi
        simp (config := { maxSteps := 1000000 }) (disch := omega) only [go_sem, ↓reduceIte, Nat.reduceEqDiff, Nat.reduceAdd, Int.reduceToNat, reduceCtorEq, Nat.reduceLeDiff, Nat.reduceSub, Nat.reduceDiv, Nat.reduceMod, Nat.reduceMul, d1312_b1, sl, ss]
      · have sl := sevens_len (n := M.length) (l := M) (by omega)
        simp (config := { maxSteps := 1000000 }) (disch := omega) only [go_sem, ↓reduceIte, Nat.reduceEqDiff, Nat.reduceAdd, Int.reduceToNat, reduceCtorEq, Nat.reduceLeDiff, Nat.reduceSub, Nat.reduceDiv, Nat.reduceMod, Nat.reduceMul, d1312_b1, sl, gt, g11]

end Go.Proofs.Ytmeakgiojhoofaa
