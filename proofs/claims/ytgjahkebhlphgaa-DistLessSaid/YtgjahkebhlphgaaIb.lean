/- Layer 4: what the document tells of rows. -/
import Derived.Test.YtgjahkebhlphgaaIa
import Derived.Test.YtgjahkebhlphgaaHy
namespace Go.Proofs.Ytgjahkebhlphgaa
set_option linter.unusedSimpArgs false
set_option linter.unusedVariables false
set_option maxHeartbeats 4000000
set_option maxRecDepth 100000
theorem rout_run {r : Rw} {v : Int} (hr : okR r) (hv : I64 v) : runP tab 1328 [.agg (rwS r), .int .i64 v] [] = some (told1 r r.off r.to v, []) := by
  refine runP_fn t1328 rfl ?_
  have gc := rcheck_run hr
  have h1 := hr.a
  simp only [rwS] at gc
  unfold told1
  cases hc : chk r with
  | false =>
    rw [hc] at gc
    rw [if_neg (by simp)]
    simp (config := { maxSteps := 1000000 }) (disch := omega) only [go_sem, ↓reduceIte, Nat.reduceEqDiff, Nat.reduceAdd, Int.reduceToNat, reduceCtorEq, Nat.reduceLeDiff, Nat.reduceSub, Nat.reduceDiv, Nat.reduceMod, Nat.reduceMul, d1328, rwS, gc]
  | true =>
    rw [hc] at gc
    have ok := chk_iff.1 hc
    by_cases h0 : v < 0
    · rw [if_neg (by omega)]
      simp (config := { maxSteps := 1000000 }) (disch := omega) only [go_sem, ↓reduceIte, Nat.reduceEqDiff, Nat.reduceAdd, Int.reduceToNat, reduceCtorEq, Nat.reduceLeDiff, Nat.reduceSub, Nat.reduceDiv, Nat.reduceMod, Nat.reduceMul, d1328, rwS, gc]
    · by_cases h : v < (r.off.length : Int) - 1
      · rw [if_pos ⟨rfl, by omega, h⟩]
        obtain ⟨w, rfl⟩ : ∃ w : Nat, v = w := ⟨v.toNat, by omega⟩
        have g := rrow_run ok.f.lay (v := w) (by omega)
        rw [Int.toNat_natCast]
        simp (config := { maxSteps := 1000000 }) (disch := omega) only [go_sem, ↓reduceIte, Nat.reduceEqDiff, Nat.reduceAdd, Int.reduceToNat, reduceCtorEq, Nat.reduceLeDiff, Nat.reduceSub, Nat.reduceDiv, Nat.reduceMod, Nat.reduceMul, d1328, rwS, gc, g]
      · rw [if_neg (by omega)]
        simp (config := { maxSteps := 1000000 }) (disch := omega) only [go_sem, ↓reduceIte, Nat.reduceEqDiff, Nat.reduceAdd, Int.reduceToNat, reduceCtorEq, Nat.reduceLeDiff, Nat.reduceSub, Nat.reduceDiv, Nat.reduceMod, Nat.reduceMul, d1328, rwS, gc]
theorem rhas_run {r : Rw} {v w : Int} (hr : okR r) (hv : I64 v) (hw : I64 w) : runP tab 1333 [.agg (rwS r), .int .i64 v, .int .i64 w] [] = some (.bool (way r v w), []) := by
  refine runP_fn t1333 rfl ?_
  have g := rout_run hr hv
  unfold told1 at g
  unfold way
  simp only [rwS] at g
  by_cases h : chk r = true ∧ 0 ≤ v ∧ v < (r.off.length : Int) - 1
  · rw [if_pos h] at g
    have ok := chk_iff.1 h.1
    have gi := rin_run (l := rowI r.off r.to v.toNat) (x := w) (by have := row_le ok (v := v.toNat) (by omega); omega)
    rw [h.1, decide_eq_true h.2]
    simp (config := { maxSteps := 1000000 }) (disch := omega) only [go_sem, ↓reduceIte, Nat.reduceEqDiff, Nat.reduceAdd, Int.reduceToNat, reduceCtorEq, Nat.reduceLeDiff, Nat.reduceSub, Nat.reduceDiv, Nat.reduceMod, Nat.reduceMul, d1333, rwS, g, gi]
  · rw [if_neg h] at g
    have e : (chk r && (decide (0 ≤ v ∧ v < (r.off.length : Int) - 1) && decide (w ∈ rowI r.off r.to v.toNat))) = false := by
      cases hc : chk r with
      | false => rfl
      | true => rw [decide_eq_false fun h2 => h ⟨hc, h2⟩]; rfl
    rw [e]
    simp (config := { maxSteps := 1000000 }) (disch := omega) only [go_sem, ↓reduceIte, Nat.reduceEqDiff, Nat.reduceAdd, Int.reduceToNat, reduceCtorEq, Nat.reduceLeDiff, Nat.reduceSub, Nat.reduceDiv, Nat.reduceMod, Nat.reduceMul, d1333, rwS, g]
theorem rown_run {r : Rw} (hr : okR r) : runP tab 1176 [.agg (rwS r)] [] = some (.agg [.vec 1 (ints r.off), .vec 1 (ints r.to), .vec 1 (ints r.roff), .vec 1 (ints r.rev)], []) := by
  refine runP_fn t1176 rfl ?_
  have g1 := owni_run (l := r.off) (by have := hr.a; omega)
  have g2 := owni_run (l := r.to) (by have := hr.b; omega)
  have g3 := owni_run (l := r.roff) (by have := hr.c; omega)
  have g4 := owni_run (l := r.rev) (by have := hr.d; omega)
  simp (config := { maxSteps := 1000000 }) (disch := omega) only [go_sem, ↓reduceIte, Nat.reduceEqDiff, Nat.reduceAdd, Int.reduceToNat, reduceCtorEq, Nat.reduceLeDiff, Nat.reduceSub, Nat.reduceDiv, Nat.reduceMod, Nat.reduceMul, d1176, rwS, g1, g2, g3, g4]
theorem prs_snoc (l : List Ed) (a b : Int) : prs l ++ [.int .i64 a, .int .i64 b] = prs (l ++ [(a, b)]) := by rw [← prs_app]; rfl
def edV (r : Rw) (v : Nat) : List Ed := (rowI r.off r.to v).map fun w => ((v : Int), w)
def edU (r : Rw) (v : Nat) : List Ed := (List.range v).flatMap (edV r)
theorem edU_succ (r : Rw) (v : Nat) : edU r (v + 1) = edU r v ++ edV r v := by simp [edU, List.range_succ]
theorem edU_len {r : Rw} (f : half r.off r.to) : ∀ {v : Nat}, v < r.off.length → (edU r v).length = oi r.off v
  | 0, _ => by rw [f.oz]; rfl
  | v + 1, h => by
    rw [edU_succ, List.length_append, edU_len f (by omega), edV, List.length_map, f.row_len h]
    have := f.om h
    omega
theorem edV_snoc {r : Rw} {v i : Nat} {L : List Int} (hL : L = rowI r.off r.to v) (h : i < L.length) : (L.take (i + 1)).map (fun w => ((v : Int), w)) = (L.take i).map (fun w => ((v : Int), w)) ++ [((v : Int), L.getD i 0)] := by
  rw [take_snoc 0 h, List.map_append]; rfl
noncomputable def toldE (r : Rw) : AV := if chk r = true then .tup [.vec 2 (prs (edU r (r.off.length - 1))), .int .i64 0] else .tup [.vec 2 [], .int .i64 40]
theorem redges_run {r : Rw} (hr : okR r) : runP tab 1330 [.agg (rwS r)] [] = some (toldE r, []) := by
  refine runP_fn t1330 rfl ?_
  have gc := rcheck_run hr
  simp only [rwS] at gc
  unfold toldE
  cases hc : chk r with
  | false =>
    rw [hc] at gc
    rw [if_neg (by simp)]
    simp (config := { maxSteps := 1000000 }) (disch := omega) only [go_sem, ↓reduceIte, Nat.reduceEqDiff, Nat.reduceAdd, Int.reduceToNat, reduceCtorEq, Nat.reduceLeDiff, Nat.reduceSub, Nat.reduceDiv, Nat.reduceMod, Nat.reduceMul, d1330, rwS, gc]
  | true =>
    rw [hc] at gc
    rw [if_pos rfl]
    have ok := chk_iff.1 hc
    have h1 := ok.f.lo
    have h2 := ok.f.hi
    have h3 := ok.f.tl
    simp (config := { maxSteps := 1000000 }) (disch := omega) only [go_sem, ↓reduceIte, Nat.reduceEqDiff, Nat.reduceAdd, Int.reduceToNat, reduceCtorEq, Nat.reduceLeDiff, Nat.reduceSub, Nat.reduceDiv, Nat.reduceMod, Nat.reduceMul, d1330, rwS, gc]
    refine Ev_loop0 (fun v => ⟨[(1, .ref 0 0), (4, .own 2 1), (5, .int .i64 (v : Int))], [.row false (rwS r), .row false (prs (edU r v))], 0, [(0, 2, [1, 4, 5], [(1, 0), (4, 1)])]⟩) (r.off.length - 1) (by simp [rwS, edU, prs]) (fun v hv => ?_) ?_
    · have g := rrow_run ok.f.lay (v := v) (by omega)
      have hl := ok.f.row_len (v := v) (by omega)
      have he := edU_len ok.f (v := v) (by omega)
      have h4 := ok.f.ole (v := v + 1) (by omega)
      have h5 := ok.f.om (v := v) (by omega)
      have es := edU_succ r v
      have ev : edV r v = (rowI r.off r.to v).map fun w => ((v : Int), w) := rfl
      simp (config := { maxSteps := 1000000 }) (disch := omega) only [go_sem, ↓reduceIte, Nat.reduceEqDiff, Nat.reduceAdd, Int.reduceToNat, reduceCtorEq, Nat.reduceLeDiff, Nat.reduceSub, Nat.reduceDiv, Nat.reduceMod, Nat.reduceMul, d1330_b0, rwS, g]
      generalize hL : rowI r.off r.to v = L at *
      refine Ev_loop0 (fun i => ⟨[(1, .ref 0 0), (4, .own 2 1), (5, .int .i64 (v : Int)), (6, .own 1 2), (7, .int .i64 (i : Int))], [.row false (rwS r), .row false (prs (edU r v ++ (L.take i).map fun w => ((v : Int), w))), .row false (ints L)], 0, [(1, 3, [1, 4, 5, 6, 7], [(1, 0), (4, 1), (6, 2)]), (0, 2, [1, 4, 5], [(1, 0), (4, 1)])]⟩) L.length (by simp [rwS]) (fun i hi => ?_) ?_
      · have e := edV_snoc (r := r) (v := v) hL.symm hi
        have el : ((L.take i).map fun w => ((v : Int), w)).length = i := by rw [List.length_map, List.length_take]; omega
        rw [e]
        generalize (L.take i).map (fun w => ((v : Int), w)) = X at *
        simp (config := { maxSteps := 1000000 }) (disch := omega) only [go_sem, ↓reduceIte, Nat.reduceEqDiff, Nat.reduceAdd, Int.reduceToNat, reduceCtorEq, Nat.reduceLeDiff, Nat.reduceSub, Nat.reduceDiv, Nat.reduceMod, Nat.reduceMul, d1330_b1, rwS, prs_snoc, el, he, List.append_assoc]
      · rw [List.take_length]
        simp (config := { maxSteps := 1000000 }) (disch := omega) only [go_sem, ↓reduceIte, Nat.reduceEqDiff, Nat.reduceAdd, Int.reduceToNat, reduceCtorEq, Nat.reduceLeDiff, Nat.reduceSub, Nat.reduceDiv, Nat.reduceMod, Nat.reduceMul, d1330_b1, rwS, es, ev]
    · simp (config := { maxSteps := 1000000 }) (disch := omega) only [go_sem, ↓reduceIte, Nat.reduceEqDiff, Nat.reduceAdd, Int.reduceToNat, reduceCtorEq, Nat.reduceLeDiff, Nat.reduceSub, Nat.reduceDiv, Nat.reduceMod, Nat.reduceMul, d1330_b0, rwS]
end Go.Proofs.Ytgjahkebhlphgaa
