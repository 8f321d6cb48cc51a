/- Layer 2: GraphSums, GraphOrder. -/
import Derived.Test.YtmeakgiojhoofaaGj
namespace Go.Proofs.Ytmeakgiojhoofaa
set_option linter.unusedSimpArgs false
set_option linter.unusedVariables false
set_option maxHeartbeats 4000000
set_option maxRecDepth 100000
theorem ctE_all (f : Ed → Int) (v : Int) (E : List Ed) : ctE f v E E.length = (E.filter fun e => f e == v).length := by rw [ctE, List.take_length]
theorem sumN_mono {f : Nat → Nat} {i n : Nat} (h : i ≤ n) : sumN f i ≤ sumN f n := by
  induction h with
  | refl => exact Nat.le_refl _
  | step _ ih => rw [sumN]; omega
theorem sums_run {g : Gr} (hf : gFit g) : runP tab 1262 [.agg (gS g)] [] = some (.bool true, []) := by
  refine runP_fn t1262 rfl ?_
  have gb := bigG_run hf
  have gg := graphs_run
  cases hb : bigB g with
  | true =>
    rw [hb] at gb
    simp only [gS] at gb
    simp (config := { maxSteps := 1000000 }) (disch := omega) only [go_sem, ↓reduceIte, Nat.reduceEqDiff, Nat.reduceAdd, Int.reduceToNat, reduceCtorEq, Nat.reduceLeDiff, Nat.reduceSub, Nat.reduceDiv, Nat.reduceMod, Nat.reduceMul, d1262, gS, gb]
  | false =>
    rw [hb] at gb
    have hg := bigB_ok hf hb
    have gn := norm_run hg
    rw [nrmA_eq] at gn
    cases c : okB g with
    | false =>
      have ez : tG g = zG := by rw [tG, if_neg (by rw [c]; simp)]
      rw [ez, codeA, if_neg (by rw [c]; simp)] at gn
      have gz : gV zG.n zG.E zG.W = [.int .i64 0, .vec 2 [], .vec 1 []] := rfl
      rw [gz] at gn
      simp only [gS] at gn gb
      simp (config := { maxSteps := 1000000 }) (disch := omega) only [go_sem, ↓reduceIte, Nat.reduceEqDiff, Nat.reduceAdd, Int.reduceToNat, reduceCtorEq, Nat.reduceLeDiff, Nat.reduceSub, Nat.reduceDiv, Nat.reduceMod, Nat.reduceMul, d1262, gS, gb, gg, gn]
    | true =>
      have ez : tG g = nG g := by rw [tG, if_pos c]
      rw [ez, codeA, if_pos c] at gn
      obtain ⟨n, h1, h2, h3, h4, h5, h6⟩ := isB_pl (nG_isB c)
      have h1' : g.n = n := h1
      have hd : ∀ v : Nat, v < n → runP tab 1274 [.agg (gS g), .int .i64 (v : Int)] [] = some (.tup [.int .i64 (((nG g).E.filter fun e => e.1 == (v : Int)).length : Nat), .int .i64 (((nG g).E.filter fun e => e.2 == (v : Int)).length : Nat), .bool true], []) := fun v hv => by
        have := deg_run hg (v := v)
        rw [degA, if_pos ⟨c, by omega, by omega⟩, ctE_all, ctE_all] at this
        exact this
      have hd0 : runP tab 1274 [.agg (gS g), .int .i64 (n : Int)] [] = some (.tup [.int .i64 0, .int .i64 0, .bool false], []) := by
        have := deg_run hg (v := n)
        rw [degA, if_neg (by omega)] at this
        exact this
      have t1 := parts_len (fun e : Ed => e.1) (n := n) (E := (nG g).E) (fun e he => by have := h6 e he; omega)
      have t2 := parts_len (fun e : Ed => e.2) (n := n) (E := (nG g).E) (fun e he => by have := h6 e he; omega)
      have hl : (nG g).W.length ≤ 250 := (nG_ok hg).w
      generalize nG g = N at *
      obtain ⟨n', E, W⟩ := N
      simp only at h1 h4 t1 t2 hl hd
      subst h1
      generalize hA : (fun v : Nat => (E.filter fun e => e.1 == (v : Int)).length) = A at t1
      generalize hB : (fun v : Nat => (E.filter fun e => e.2 == (v : Int)).length) = B at t2
      have hd' : ∀ v : Nat, v < n → runP tab 1274 [.agg (gS g), .int .i64 (v : Int)] [] = some (.tup [.int .i64 (A v : Nat), .int .i64 (B v : Nat), .bool true], []) := by rw [← hA, ← hB]; exact hd
      clear hd
      simp only [gS, gV] at gb gn hd' hd0
      rw [h1'] at gb gn hd' hd0
      have g1 := hd0
      simp (config := { maxSteps := 1000000 }) (disch := omega) only [go_sem, ↓reduceIte, Nat.reduceEqDiff, Nat.reduceAdd, Int.reduceToNat, reduceCtorEq, Nat.reduceLeDiff, Nat.reduceSub, Nat.reduceDiv, Nat.reduceMod, Nat.reduceMul, d1262, gS, gb, gg, gn, h1']
      refine Ev_loop0 (fun i => ⟨[(1, .ref 0 0), (3, .ref 3 0), (5, .int .i64 (sumN A i : Nat)), (6, .int .i64 (sumN B i : Nat)), (7, .int .i64 (i : Int))], [.row false [.int .i64 n, .sl 2 (prs g.E), .sl 1 (wcs g.W)], .dead, .dead, .row false [.int .i64 n, .vec 2 (prs E), .vec 1 (wos W)]], 0, [(0, 4, [1, 3, 5, 6, 7], [(1, 0), (3, 3)])]⟩) n rfl (fun i hi => ?_) ?_
      · have g2 := hd' i hi
        have s1 := sumN_mono (f := A) (i := i) (n := n) (by omega)
        have s2 := sumN_mono (f := B) (i := i) (n := n) (by omega)
        have s3 := sumN_mono (f := A) (i := i + 1) (n := n) (by omega)
        have s4 := sumN_mono (f := B) (i := i + 1) (n := n) (by omega)
        have u1 : sumN A (i + 1) = sumN A i + A i := rfl
        have u2 : sumN B (i + 1) = sumN B i + B i := rfl
        simp (config := { maxSteps := 1000000 }) (disch := omega) only [go_sem, ↓reduceIte, Nat.reduceEqDiff, Nat.reduceAdd, Int.reduceToNat, reduceCtorEq, Nat.reduceLeDiff, Nat.reduceSub, Nat.reduceDiv, Nat.reduceMod, Nat.reduceMul, d1262_b0, g2, u1, u2]
      · rw [t1, t2]
        simp (config := { maxSteps := 1000000 }) (disch := omega) only [go_sem, ↓reduceIte, Nat.reduceEqDiff, Nat.reduceAdd, Int.reduceToNat, reduceCtorEq, Nat.reduceLeDiff, Nat.reduceSub, Nat.reduceDiv, Nat.reduceMod, Nat.reduceMul, d1262_b0, hd0, gg]
end Go.Proofs.Ytmeakgiojhoofaa
