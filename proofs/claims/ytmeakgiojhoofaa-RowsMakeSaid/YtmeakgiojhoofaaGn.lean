/- Graphs by definition: what is normal. -/
import Derived.Test.YtmeakgiojhoofaaGm
namespace Go.Proofs.Ytmeakgiojhoofaa
set_option linter.unusedSimpArgs false
set_option linter.unusedVariables false
set_option maxHeartbeats 4000000
set_option maxRecDepth 100000
def i2S (g : Gr) (i : Nat) : St := ⟨[(1, .ref 0 0), (3, .int .i64 ((i : Int) + 1))], [.row false [.int .i64 g.n, .sl 2 (prs g.E), .sl 1 (wcs g.W)]], 0, [(0, 1, [1, 3], [(1, 0)])]⟩
def i2W (g : Gr) (i : Nat) : St := ⟨[(1, .ref 0 0), (4, .int .i64 (i : Int))], [.row false [.int .i64 g.n, .sl 2 (prs g.E), .sl 1 (wcs g.W)]], 0, [(1, 1, [1, 4], [(1, 0)]), (0, 1, [1, 3], [(1, 0)])]⟩
def i2I (g : Gr) (i k : Nat) : St := ⟨[(1, .ref 0 0), (4, .int .i64 (i : Int)), (5, .int .i64 ((k : Int) + 1))], [.row false [.int .i64 g.n, .sl 2 (prs g.E), .sl 1 (wcs g.W)]], 0, [(2, 1, [1, 4, 5], [(1, 0)]), (1, 1, [1, 4], [(1, 0)]), (0, 1, [1, 3], [(1, 0)])]⟩
theorem bl_lt : ∀ x y : Txt, Op.bytesLess x y = ltS x y
  | [], [] => rfl
  | [], _ :: _ => rfl
  | _ :: _, [] => rfl
  | a :: x, b :: y => by
    have ih := bl_lt x y
    have l1 := @UInt8.lt_iff_toNat_lt a b
    have l2 := @UInt8.lt_iff_toNat_lt b a
    by_cases h1 : a < b
    · have e : Go.Lib.compareBytes (a :: x) (b :: y) = -1 := by simp [Go.Lib.compareBytes, h1]
      simp [ltS, e, Op.bytesLess, h1]
    · by_cases h2 : b < a
      · have e : Go.Lib.compareBytes (a :: x) (b :: y) = 1 := by simp [Go.Lib.compareBytes, h1, h2]
        have n : (a == b) = false := by rw [beq_eq_false_iff_ne]; rintro rfl; exact h1 h2
        simp [ltS, e, Op.bytesLess, h1, n]
      · have e : a = b := UInt8.toNat_inj.1 (by rw [l1] at h1; rw [l2] at h2; omega)
        subst e
        have e : Go.Lib.compareBytes (a :: x) (a :: y) = Go.Lib.compareBytes x y := by simp [Go.Lib.compareBytes, h1]
        simp only [ltS] at ih ⊢
        rw [e, ← ih]
        simp [Op.bytesLess, h1]
theorem i2_row {g : Gr} (hg : okG g) (c4 : (g.W.length : Int) = g.n) {i : Nat} (hi : i < g.W.length) {Q : AX → St → Prop} (hq : if ascB ltS (g.w i) = true then Q .normal (i2W g (i + 1)) else k2Q Q g) : Ev tab d1269_b1 (i2W g i) Q := by
  have e := wcs_at hi
  have hn := hg.w
  have ew : g.w i = (g.W.getD i none).getD [] := rfl
  have hl := hg.r i hi
  have hi' : (i : Int) < g.n := by omega
  rw [ew] at hq hl
  simp (config := { maxSteps := 1000000 }) (disch := omega) only [go_sem, ↓reduceIte, Nat.reduceEqDiff, Nat.reduceAdd, Int.reduceToNat, reduceCtorEq, Nat.reduceLeDiff, Nat.reduceSub, Nat.reduceDiv, Nat.reduceMod, Nat.reduceMul, d1269_b1, i2W, hi']
  cases hx : g.W.getD i none with
  | none =>
    rw [hx] at e hq
    simp only [Option.getD_none] at hq
    rw [if_pos (ascB_iff.2 .nil)] at hq
    refine Ev_loop0 (i2I g i) 0 (by simp [i2I]) (fun k hk => absurd hk (Nat.not_lt_zero _)) ?_
    simp (config := { maxSteps := 1000000 }) (disch := omega) only [go_sem, ↓reduceIte, Nat.reduceEqDiff, Nat.reduceAdd, Int.reduceToNat, reduceCtorEq, Nat.reduceLeDiff, Nat.reduceSub, Nat.reduceDiv, Nat.reduceMod, Nat.reduceMul, d1269_b2, i2I, e, wc]
    exact hq
  | some l =>
    rw [hx] at e hq hl
    simp only [Option.getD_some] at hl hq
    have hst := fun (k : Nat) (hk : k < l.length - 1) (q : adj ltS l k) => (show Ev tab d1269_b2 (i2I g i k) (fun x st => x = .normal ∧ st = i2I g i (k + 1)) from by
      have e1 := strs_rdc (l := l) (i := k) (by omega)
      have e2 := strs_rdc (l := l) (i := k + 1) (by omega)
      rw [adj] at q
      change ltS (l.getD k []) (l.getD (k + 1) []) = true at q
      simp (config := { maxSteps := 1000000 }) (disch := omega) only [go_sem, ↓reduceIte, Nat.reduceEqDiff, Nat.reduceAdd, Int.reduceToNat, reduceCtorEq, Nat.reduceLeDiff, Nat.reduceSub, Nat.reduceDiv, Nat.reduceMod, Nat.reduceMul, d1269_b2, i2I, e, wc, strs_length, Int.add_sub_cancel, tn1, e1, e2, bl_lt, q])
    rcases asc_ix ordrS l with ⟨h, ea⟩ | ⟨m, m1, m2, m3, ea⟩
    · rw [if_pos ea] at hq
      by_cases h0 : l = []
      · subst h0
        refine Ev_stop ?_
        simp (config := { maxSteps := 1000000 }) (disch := omega) only [go_sem, ↓reduceIte, Nat.reduceEqDiff, Nat.reduceAdd, Int.reduceToNat, reduceCtorEq, Nat.reduceLeDiff, Nat.reduceSub, Nat.reduceDiv, Nat.reduceMod, Nat.reduceMul, d1269_b2, i2I, e, wc, strs_length]
        exact hq
      have hp : 0 < l.length := List.length_pos_iff.2 h0
      refine Ev_loop0 (i2I g i) (l.length - 1) (by simp [i2I]) (fun k hk => hst k hk (h k hk)) ?_
      simp (config := { maxSteps := 1000000 }) (disch := omega) only [go_sem, ↓reduceIte, Nat.reduceEqDiff, Nat.reduceAdd, Int.reduceToNat, reduceCtorEq, Nat.reduceLeDiff, Nat.reduceSub, Nat.reduceDiv, Nat.reduceMod, Nat.reduceMul, d1269_b2, i2I, e, wc, strs_length]
      exact hq
    · rw [if_neg (by rw [ea]; simp)] at hq
      refine Ev_loop0 (i2I g i) m (by simp [i2I]) (fun k hk => hst k (by omega) (m2 k hk)) ?_
      have e1 := strs_rdc (l := l) (i := m) (by omega)
      have e2 := strs_rdc (l := l) (i := m + 1) (by omega)
      have q : ltS (l.getD m []) (l.getD (m + 1) []) = false := by
        have h := m3
        simp only [adj] at h
        change ¬ ltS (l.getD m []) (l.getD (m + 1) []) = true at h
        simpa using h
      simp (config := { maxSteps := 1000000 }) (disch := omega) only [go_sem, ↓reduceIte, Nat.reduceEqDiff, Nat.reduceAdd, Int.reduceToNat, reduceCtorEq, Nat.reduceLeDiff, Nat.reduceSub, Nat.reduceDiv, Nat.reduceMod, Nat.reduceMul, d1269_b2, i2I, e, wc, strs_length, Int.add_sub_cancel, tn1, e1, e2, bl_lt, q]
      exact hq _ _
theorem is2_run {g : Gr} (hg : okG g) : runP tab 1269 [.agg (gS g)] [] = some (.bool (isB g), []) := by
  refine runP_fn t1269 rfl ?_
  have gc := gck2_run hg
  have he := hg.e
  have hw := hg.w
  simp only [gS] at gc
  unfold isB
  cases c1 : okB g with
  | false =>
    rw [c1] at gc
    rw [Bool.false_and]
    simp (config := { maxSteps := 1000000 }) (disch := omega) only [go_sem, ↓reduceIte, Nat.reduceEqDiff, Nat.reduceAdd, Int.reduceToNat, reduceCtorEq, Nat.reduceLeDiff, Nat.reduceSub, Nat.reduceDiv, Nat.reduceMod, Nat.reduceMul, d1269, gS, gc]
  | true =>
    rw [c1] at gc
    rw [Bool.true_and]
    obtain ⟨n1, n2, n3, n4⟩ := okB_n c1
    simp (config := { maxSteps := 1000000 }) (disch := omega) only [go_sem, ↓reduceIte, Nat.reduceEqDiff, Nat.reduceAdd, Int.reduceToNat, reduceCtorEq, Nat.reduceLeDiff, Nat.reduceSub, Nat.reduceDiv, Nat.reduceMod, Nat.reduceMul, d1269, gS, gc]
    have hst := fun (i : Nat) (hi : i < g.E.length - 1) (h : adj ltE g.E i) => (show Ev tab d1269_b0 (i2S g i) (fun x st => x = .normal ∧ st = i2S g (i + 1)) from by
      have e1 := prs_at (l := g.E) (i := i) (by omega)
      have e2 := prs_at (l := g.E) (i := i + 1) (by omega)
      have gl := lessE_run (x := g.E.getD i default) (y := g.E.getD (i + 1) default)
      rw [adj] at h
      rw [h] at gl
      simp (config := { maxSteps := 1000000 }) (disch := omega) only [go_sem, ↓reduceIte, Nat.reduceEqDiff, Nat.reduceAdd, Int.reduceToNat, reduceCtorEq, Nat.reduceLeDiff, Nat.reduceSub, Nat.reduceDiv, Nat.reduceMod, Nat.reduceMul, d1269_b0, i2S, Int.add_sub_cancel, tn1, e1, e2, gl])
    rcases asc_ix ordrE g.E with ⟨h, ea⟩ | ⟨m, m1, m2, m3, ea⟩
    · rw [ea, Bool.true_and]
      have hw2 : ∀ {Q : AX → St → Prop}, (if wAsc g = true then (∀ e, Q (.exit 2) ⟨e, [.row false [.int .i64 g.n, .sl 2 (prs g.E), .sl 1 (wcs g.W)]], 0, [(1, 1, [1, 4], [(1, 0)]), (0, 1, [1, 3], [(1, 0)])]⟩) else k2Q Q g) → Ev tab (.loop d1269_b1) (i2W g 0) Q := fun {Q} hq => by
        rcases first_ix' (fun i => asc ltS (g.w i)) g.W.length with h | ⟨m, m1, m2, m3⟩
        · rw [if_pos (wAsc_yes h)] at hq
          refine Ev_loop0 (i2W g) g.W.length rfl (fun i hi => i2_row hg n4 hi (by rw [if_pos (ascB_iff.2 (h i hi))]; exact ⟨rfl, rfl⟩)) ?_
          simp (config := { maxSteps := 1000000 }) (disch := omega) only [go_sem, ↓reduceIte, Nat.reduceEqDiff, Nat.reduceAdd, Int.reduceToNat, reduceCtorEq, Nat.reduceLeDiff, Nat.reduceSub, Nat.reduceDiv, Nat.reduceMod, Nat.reduceMul, d1269_b1, i2W, n4]
          exact hq _
        · rw [if_neg (by rw [wAsc_no fun h => m3 (h m m1)]; simp)] at hq
          refine Ev_loop0 (i2W g) m rfl (fun i hi => i2_row hg n4 (by omega) (by rw [if_pos (ascB_iff.2 (m2 i hi))]; exact ⟨rfl, rfl⟩)) ?_
          refine i2_row hg n4 m1 ?_
          rw [if_neg (by rw [ascB_iff]; exact m3)]
          intro e k
          simp (config := { maxSteps := 1000000 }) (disch := omega) only [go_sem, ↓reduceIte, Nat.reduceEqDiff, Nat.reduceAdd, Int.reduceToNat, reduceCtorEq, Nat.reduceLeDiff, Nat.reduceSub, Nat.reduceDiv, Nat.reduceMod, Nat.reduceMul]
          exact hq _ _
      by_cases h0 : g.E = []
      · refine Ev_stop ?_
        have e0 : prs g.E = [] := by rw [h0]; rfl
        rw [e0] at hw2
        simp (config := { maxSteps := 1000000 }) (disch := omega) only [go_sem, ↓reduceIte, Nat.reduceEqDiff, Nat.reduceAdd, Int.reduceToNat, reduceCtorEq, Nat.reduceLeDiff, Nat.reduceSub, Nat.reduceDiv, Nat.reduceMod, Nat.reduceMul, d1269_b0, e0, h0, List.length_nil]
        simp only [i2W, e0] at hw2
        refine hw2 ?_
        cases hq : wAsc g with
        | true =>
          rw [if_pos rfl]
          intro e
          simp (config := { maxSteps := 1000000 }) (disch := omega) only [go_sem, ↓reduceIte, Nat.reduceEqDiff, Nat.reduceAdd, Int.reduceToNat, reduceCtorEq, Nat.reduceLeDiff, Nat.reduceSub, Nat.reduceDiv, Nat.reduceMod, Nat.reduceMul]
        | false =>
          rw [if_neg (by simp)]
          intro e m
          simp (config := { maxSteps := 1000000 }) (disch := omega) only [go_sem, ↓reduceIte, Nat.reduceEqDiff, Nat.reduceAdd, Int.reduceToNat, reduceCtorEq, Nat.reduceLeDiff, Nat.reduceSub, Nat.reduceDiv, Nat.reduceMod, Nat.reduceMul]
      have hp : 0 < g.E.length := List.length_pos_iff.2 h0
      refine Ev_loop0 (i2S g) (g.E.length - 1) (by simp [i2S]) (fun i hi => hst i hi (h i hi)) ?_
      simp (config := { maxSteps := 1000000 }) (disch := omega) only [go_sem, ↓reduceIte, Nat.reduceEqDiff, Nat.reduceAdd, Int.reduceToNat, reduceCtorEq, Nat.reduceLeDiff, Nat.reduceSub, Nat.reduceDiv, Nat.reduceMod, Nat.reduceMul, d1269_b0, i2S]
      refine hw2 ?_
      cases hq : wAsc g with
      | true =>
        rw [if_pos rfl]
        intro e
        simp (config := { maxSteps := 1000000 }) (disch := omega) only [go_sem, ↓reduceIte, Nat.reduceEqDiff, Nat.reduceAdd, Int.reduceToNat, reduceCtorEq, Nat.reduceLeDiff, Nat.reduceSub, Nat.reduceDiv, Nat.reduceMod, Nat.reduceMul]
      | false =>
        rw [if_neg (by simp)]
        intro e m
        simp (config := { maxSteps := 1000000 }) (disch := omega) only [go_sem, ↓reduceIte, Nat.reduceEqDiff, Nat.reduceAdd, Int.reduceToNat, reduceCtorEq, Nat.reduceLeDiff, Nat.reduceSub, Nat.reduceDiv, Nat.reduceMod, Nat.reduceMul]
    · rw [ea, Bool.false_and]
      refine Ev_loop0 (i2S g) m (by simp [i2S]) (fun i hi => hst i (by omega) (m2 i hi)) ?_
      have e1 := prs_at (l := g.E) (i := m) (by omega)
      have e2 := prs_at (l := g.E) (i := m + 1) (by omega)
      have gl := lessE_run (x := g.E.getD m default) (y := g.E.getD (m + 1) default)
      rw [show ltE (g.E.getD m default) (g.E.getD (m + 1) default) = false by simpa [adj] using m3] at gl
      simp (config := { maxSteps := 1000000 }) (disch := omega) only [go_sem, ↓reduceIte, Nat.reduceEqDiff, Nat.reduceAdd, Int.reduceToNat, reduceCtorEq, Nat.reduceLeDiff, Nat.reduceSub, Nat.reduceDiv, Nat.reduceMod, Nat.reduceMul, d1269_b0, i2S, Int.add_sub_cancel, tn1, e1, e2, gl]
end Go.Proofs.Ytmeakgiojhoofaa
