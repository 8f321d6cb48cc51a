/- Layer 4: all ways; RowsTell. -/
import Derived.Test.YtjebbkpbaglooaaIb
namespace Go.Proofs.Ytjebbkpbaglooaa
set_option linter.unusedSimpArgs false
set_option linter.unusedVariables false
set_option maxHeartbeats 4000000
set_option maxRecDepth 100000
def egL : Blk := .lp 0 [(2, .nils), (3, .int .i64 0), (4, .ref 1 0), (14, .clo 1212 [] [.ref 2 0, .ref 3 0])] [15, 16] d1191_r0a d1191_r0 .normal
def egH (r : Rw) (E : List Ed) : List Blk := [.row false (rwS r), .row false [.vec 2 (prs E)], .row false [.sl 1 (ints r.off)], .row false [.sl 1 (ints r.to)], egL]
def egS (r : Rw) (v : Nat) : St := ⟨[(0, .yld 4), (1, .ref 2 0), (2, .ref 3 0), (9, .int .i64 (r.off.length - 1)), (10, .int .i64 (v : Int))], egH r (edU r v), 5, [(0, 5, [0, 1, 2, 9, 10], [(0, 4), (1, 2), (2, 3)])]⟩
def egI (r : Rw) (R : List Int) (v i : Nat) : St := ⟨[(0, .yld 4), (1, .ref 2 0), (2, .ref 3 0), (4, .int .i64 (v : Int)), (9, .int .i64 (r.off.length - 1)), (10, .int .i64 (v : Int)), (23, .sl 1 (ints R)), (24, .int .i64 ((oi r.off (v + 1) - oi r.off v : Nat) : Int)), (25, .int .i64 (i : Int))], egH r (edU r v ++ (R.take i).map fun w => ((v : Int), w)), 5, [(1, 5, [0, 1, 2, 4, 9, 10, 23, 24, 25], [(0, 4), (1, 2), (2, 3)]), (0, 5, [0, 1, 2, 9, 10], [(0, 4), (1, 2), (2, 3)])]⟩
theorem edges_run {r : Rw} (hr : okR r) : runP tab 1191 [.agg (rwS r)] [] = some (toldE r, []) := by
  refine runP_fn t1191 rfl ?_
  have gc := hr.check
  simp only [rwS] at gc
  unfold toldE
  cases hc : chk r with
  | false =>
    rw [hc] at gc
    rw [if_neg (by simp)]
    simp (config := { maxSteps := 1000000 }) (disch := omega) only [go_sem, ↓reduceIte, Nat.reduceEqDiff, Nat.reduceAdd, Int.reduceToNat, reduceCtorEq, Nat.reduceLeDiff, Nat.reduceSub, Nat.reduceDiv, Nat.reduceMod, Nat.reduceMul, d1191, rwS, gc]
  | true =>
    rw [hc] at gc
    rw [if_pos rfl]
    have f := (chk_iff.1 hc).f
    have h1 := f.lo
    have h2 := f.hi
    have h3 := f.tl
    simp (config := { maxSteps := 1000000 }) (disch := omega) only [go_sem, ↓reduceIte, Nat.reduceEqDiff, Nat.reduceAdd, Int.reduceToNat, reduceCtorEq, Nat.reduceLeDiff, Nat.reduceSub, Nat.reduceDiv, Nat.reduceMod, Nat.reduceMul, d1191, rwS, gc, each_run]
    refine Ev_rangef rfl ?_
    refine EvC_fn t1212 rfl ?_
    simp (config := { maxSteps := 1000000 }) (disch := omega) only [go_sem, ↓reduceIte, Nat.reduceEqDiff, Nat.reduceAdd, Int.reduceToNat, reduceCtorEq, Nat.reduceLeDiff, Nat.reduceSub, Nat.reduceDiv, Nat.reduceMod, Nat.reduceMul, d1212]
    refine Ev_loop0 (egS r) (r.off.length - 1) (by simp [egS, egH, egL, rwS, edU, prs]) (fun v hv => ?_) ?_
    · have H := f.lay
      have a1 := H.gn (v := v) (by omega)
      have a2 := H.gn (v := v + 1) (by omega)
      have a3 := H.om (v := v) (by omega)
      have a4 := H.ole (v := v + 1) (by omega)
      simp only [gi] at a1 a2
      have q2 : ((v : Int) + 1).toNat = v + 1 := by omega
      obtain ⟨hRl, hRi⟩ := row_cut H hv
      have q3 : min (oi r.off (v + 1) - oi r.off v) (r.to.length - oi r.off v) = oi r.off (v + 1) - oi r.off v := by omega
      have he := edU_len f (v := v) (by omega)
      have es := edU_succ r v
      have ev : edV r v = (rowI r.off r.to v).map fun w => ((v : Int), w) := rfl
      have hR : rowI r.off r.to v = List.take (oi r.off (v + 1) - oi r.off v) (List.drop (oi r.off v) r.to) := rfl
      rw [hR] at ev
      simp (config := { maxSteps := 1000000 }) (disch := omega) only [go_sem, ↓reduceIte, Nat.reduceEqDiff, Nat.reduceAdd, Int.reduceToNat, reduceCtorEq, Nat.reduceLeDiff, Nat.reduceSub, Nat.reduceDiv, Nat.reduceMod, Nat.reduceMul, d1212_b0, egS, egH, egL, rwS, a1, a2, q2, q3]
      generalize List.take (oi r.off (v + 1) - oi r.off v) (List.drop (oi r.off v) r.to) = R at *
      refine Ev_loop0 (egI r R v) (oi r.off (v + 1) - oi r.off v) (by simp [egI, egH, egL, rwS]) (fun i hi => ?_) ?_
      · have er : rdc (ints (R.drop i)) none = some (.int .i64 (R.getD i 0)) := ints_rdc0 (by omega)
        have e : (R.take (i + 1)).map (fun w => ((v : Int), w)) = (R.take i).map (fun w => ((v : Int), w)) ++ [((v : Int), R.getD i 0)] := by rw [take_snoc 0 (by omega), List.map_append]; rfl
        have el : ((R.take i).map fun w => ((v : Int), w)).length = i := by rw [List.length_map, List.length_take]; omega
        simp (config := { maxSteps := 1000000 }) (disch := omega) only [go_sem, ↓reduceIte, Nat.reduceEqDiff, Nat.reduceAdd, Int.reduceToNat, reduceCtorEq, Nat.reduceLeDiff, Nat.reduceSub, Nat.reduceDiv, Nat.reduceMod, Nat.reduceMul, d1212_b1, egI, egH, egL, rwS, e]
        refine EvR_eq rfl rfl ?_
        generalize (R.take i).map (fun w => ((v : Int), w)) = X at *
        simp (config := { maxSteps := 1000000 }) (disch := omega) only [go_sem, ↓reduceIte, Nat.reduceEqDiff, Nat.reduceAdd, Int.reduceToNat, reduceCtorEq, Nat.reduceLeDiff, Nat.reduceSub, Nat.reduceDiv, Nat.reduceMod, Nat.reduceMul, d1191_r0a, d1191_r0, prs_snoc, el, he, List.append_assoc]
      · have q6 : List.take (oi r.off (v + 1) - oi r.off v) R = R := List.take_of_length_le (by omega)
        simp (config := { maxSteps := 1000000 }) (disch := omega) only [go_sem, ↓reduceIte, Nat.reduceEqDiff, Nat.reduceAdd, Int.reduceToNat, reduceCtorEq, Nat.reduceLeDiff, Nat.reduceSub, Nat.reduceDiv, Nat.reduceMod, Nat.reduceMul, d1212_b1, egI, egH, egL, rwS, q6, es, ev]
    · simp (config := { maxSteps := 1000000 }) (disch := omega) only [go_sem, ↓reduceIte, Nat.reduceEqDiff, Nat.reduceAdd, Int.reduceToNat, reduceCtorEq, Nat.reduceLeDiff, Nat.reduceSub, Nat.reduceDiv, Nat.reduceMod, Nat.reduceMul, d1212_b0, egS, egH, egL, rwS]
end Go.Proofs.Ytjebbkpbaglooaa
