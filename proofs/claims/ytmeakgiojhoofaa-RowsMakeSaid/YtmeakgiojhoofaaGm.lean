/- Graphs by definition: what may be one, what is normal. -/
import Derived.Test.YtmeakgiojhoofaaGh
namespace Go.Proofs.Ytmeakgiojhoofaa
set_option linter.unusedSimpArgs false
set_option linter.unusedVariables false
set_option maxHeartbeats 4000000
set_option maxRecDepth 100000
theorem word2_run {s : Txt} (hs : s.length ≤ 1000000) : runP tab 1270 [.str s] [] = some (.bool (wordB s), []) := by
  refine runP_fn t1270 rfl ?_
  simp (config := { maxSteps := 1000000 }) (disch := omega) only [go_sem, ↓reduceIte, Nat.reduceEqDiff, Nat.reduceAdd, Int.reduceToNat, reduceCtorEq, Nat.reduceLeDiff, Nat.reduceSub, Nat.reduceDiv, Nat.reduceMod, Nat.reduceMul, d1270]
  unfold wordB
  have hst := fun (i : Nat) (hi : i < s.length) (q : 97 ≤ (s.getD i 0).toNat ∧ (s.getD i 0).toNat ≤ 122) => (show Ev tab d1270_b0 ⟨[(0, .str s), (3, .int .i64 (i : Int))], [], 0, [(0, 0, [0, 3], [])]⟩ (fun x st => x = .normal ∧ st = ⟨[(0, .str s), (3, .int .i64 ((i + 1 : Nat) : Int))], [], 0, [(0, 0, [0, 3], [])]⟩) from by
    have e := txt_at hi
    obtain ⟨q1, q2⟩ := q
    simp (config := { maxSteps := 1000000 }) (disch := omega) only [go_sem, ↓reduceIte, Nat.reduceEqDiff, Nat.reduceAdd, Int.reduceToNat, reduceCtorEq, Nat.reduceLeDiff, Nat.reduceSub, Nat.reduceDiv, Nat.reduceMod, Nat.reduceMul, d1270_b0, e])
  rcases letters_at s with ⟨h, e⟩ | ⟨m, m1, m2, m3, e⟩
  · rw [e, Bool.and_true]
    refine Ev_loop0 (fun i => ⟨[(0, .str s), (3, .int .i64 (i : Int))], [], 0, [(0, 0, [0, 3], [])]⟩) s.length rfl (fun i hi => hst i hi (h i hi)) ?_
    by_cases c1 : 1 ≤ s.length
    · by_cases c2 : s.length ≤ 12
      · rw [decide_eq_true ⟨c1, c2⟩]
        simp (config := { maxSteps := 1000000 }) (disch := omega) only [go_sem, ↓reduceIte, Nat.reduceEqDiff, Nat.reduceAdd, Int.reduceToNat, reduceCtorEq, Nat.reduceLeDiff, Nat.reduceSub, Nat.reduceDiv, Nat.reduceMod, Nat.reduceMul, d1270_b0]
      · rw [decide_eq_false (by omega)]
        simp (config := { maxSteps := 1000000 }) (disch := omega) only [go_sem, ↓reduceIte, Nat.reduceEqDiff, Nat.reduceAdd, Int.reduceToNat, reduceCtorEq, Nat.reduceLeDiff, Nat.reduceSub, Nat.reduceDiv, Nat.reduceMod, Nat.reduceMul, d1270_b0]
    · rw [decide_eq_false (by omega)]
      simp (config := { maxSteps := 1000000 }) (disch := omega) only [go_sem, ↓reduceIte, Nat.reduceEqDiff, Nat.reduceAdd, Int.reduceToNat, reduceCtorEq, Nat.reduceLeDiff, Nat.reduceSub, Nat.reduceDiv, Nat.reduceMod, Nat.reduceMul, d1270_b0]
  · rw [e, Bool.and_false]
    refine Ev_loop0 (fun i => ⟨[(0, .str s), (3, .int .i64 (i : Int))], [], 0, [(0, 0, [0, 3], [])]⟩) m rfl (fun i hi => hst i (by omega) (m2 i hi)) ?_
    have e := txt_at m1
    by_cases h0 : 97 ≤ (s.getD m 0).toNat
    · have h3 : ¬ (s.getD m 0).toNat ≤ 122 := fun h => m3 ⟨h0, h⟩
      simp (config := { maxSteps := 1000000 }) (disch := omega) only [go_sem, ↓reduceIte, Nat.reduceEqDiff, Nat.reduceAdd, Int.reduceToNat, reduceCtorEq, Nat.reduceLeDiff, Nat.reduceSub, Nat.reduceDiv, Nat.reduceMod, Nat.reduceMul, d1270_b0, e]
    · simp (config := { maxSteps := 1000000 }) (disch := omega) only [go_sem, ↓reduceIte, Nat.reduceEqDiff, Nat.reduceAdd, Int.reduceToNat, reduceCtorEq, Nat.reduceLeDiff, Nat.reduceSub, Nat.reduceDiv, Nat.reduceMod, Nat.reduceMul, d1270_b0, e]
theorem lessE_run {x y : Ed} : runP tab 1281 [.agg [.int .i64 x.1, .int .i64 x.2], .agg [.int .i64 y.1, .int .i64 y.2]] [] = some (.bool (ltE x y), []) := by
  refine runP_fn t1281 rfl ?_
  have e : ltE x y = decide (x.1 < y.1 ∨ x.1 = y.1 ∧ x.2 < y.2) := rfl
  rw [e]
  by_cases h1 : x.1 < y.1
  · rw [decide_eq_true (.inl h1)]
    simp (config := { maxSteps := 1000000 }) (disch := omega) only [go_sem, ↓reduceIte, Nat.reduceEqDiff, Nat.reduceAdd, Int.reduceToNat, reduceCtorEq, Nat.reduceLeDiff, Nat.reduceSub, Nat.reduceDiv, Nat.reduceMod, Nat.reduceMul, d1281]
  by_cases h2 : x.1 = y.1
  · by_cases h3 : x.2 < y.2
    · rw [decide_eq_true (.inr ⟨h2, h3⟩)]
      simp (config := { maxSteps := 1000000 }) (disch := omega) only [go_sem, ↓reduceIte, Nat.reduceEqDiff, Nat.reduceAdd, Int.reduceToNat, reduceCtorEq, Nat.reduceLeDiff, Nat.reduceSub, Nat.reduceDiv, Nat.reduceMod, Nat.reduceMul, d1281]
    · rw [decide_eq_false (by omega)]
      simp (config := { maxSteps := 1000000 }) (disch := omega) only [go_sem, ↓reduceIte, Nat.reduceEqDiff, Nat.reduceAdd, Int.reduceToNat, reduceCtorEq, Nat.reduceLeDiff, Nat.reduceSub, Nat.reduceDiv, Nat.reduceMod, Nat.reduceMul, d1281]
  · rw [decide_eq_false (by omega)]
    simp (config := { maxSteps := 1000000 }) (disch := omega) only [go_sem, ↓reduceIte, Nat.reduceEqDiff, Nat.reduceAdd, Int.reduceToNat, reduceCtorEq, Nat.reduceLeDiff, Nat.reduceSub, Nat.reduceDiv, Nat.reduceMod, Nat.reduceMul, d1281]
def k2S (g : Gr) (i : Nat) : St := ⟨[(1, .ref 0 0), (3, .int .i64 (i : Int))], [.row false [.int .i64 g.n, .sl 2 (prs g.E), .sl 1 (wcs g.W)]], 0, [(0, 1, [1, 3], [(1, 0)])]⟩
def k2W (g : Gr) (i : Nat) : St := ⟨[(1, .ref 0 0), (5, .int .i64 (i : Int))], [.row false [.int .i64 g.n, .sl 2 (prs g.E), .sl 1 (wcs g.W)]], 0, [(1, 1, [1, 5], [(1, 0)]), (0, 1, [1, 3], [(1, 0)])]⟩
def k2I (g : Gr) (i k : Nat) : St := ⟨[(1, .ref 0 0), (5, .int .i64 (i : Int)), (6, .int .i64 (k : Int))], [.row false [.int .i64 g.n, .sl 2 (prs g.E), .sl 1 (wcs g.W)]], 0, [(2, 1, [1, 5, 6], [(1, 0)]), (1, 1, [1, 5], [(1, 0)]), (0, 1, [1, 3], [(1, 0)])]⟩
def k2Q (Q : AX → St → Prop) (g : Gr) : Prop := ∀ e m, Q .ret ⟨(2, .bool false) :: e, [.row false [.int .i64 g.n, .sl 2 (prs g.E), .sl 1 (wcs g.W)]], 0, m⟩
theorem k2_row {g : Gr} (hg : okG g) (c4 : (g.W.length : Int) = g.n) {i : Nat} (hi : i < g.W.length) {Q : AX → St → Prop} (hq : if wrdB (g.w i) = true then Q .normal (k2W g (i + 1)) else k2Q Q g) : Ev tab d1268_b1 (k2W g i) Q := by
  have e := wcs_at hi
  have hn := hg.w
  have ew : g.w i = (g.W.getD i none).getD [] := rfl
  have ht := hg.t i hi
  have hl := hg.r i hi
  have hi' : (i : Int) < g.n := by omega
  rw [ew] at hq ht hl
  simp (config := { maxSteps := 1000000 }) (disch := omega) only [go_sem, ↓reduceIte, Nat.reduceEqDiff, Nat.reduceAdd, Int.reduceToNat, reduceCtorEq, Nat.reduceLeDiff, Nat.reduceSub, Nat.reduceDiv, Nat.reduceMod, Nat.reduceMul, d1268_b1, k2W, hi']
  cases hx : g.W.getD i none with
  | none =>
    rw [hx] at e hq
    rw [if_pos (by simp [wrdB])] at hq
    refine Ev_loop0 (k2I g i) 0 (by simp [k2I]) (fun k hk => absurd hk (Nat.not_lt_zero _)) ?_
    simp (config := { maxSteps := 1000000 }) (disch := omega) only [go_sem, ↓reduceIte, Nat.reduceEqDiff, Nat.reduceAdd, Int.reduceToNat, reduceCtorEq, Nat.reduceLeDiff, Nat.reduceSub, Nat.reduceDiv, Nat.reduceMod, Nat.reduceMul, d1268_b2, k2I, e, wc]
    exact hq
  | some l =>
    rw [hx] at e ht hq hl
    simp only [Option.getD_some] at ht hl hq
    have hst := fun (k : Nat) (hk : k < l.length) (q : wordB (l.getD k []) = true) => (show Ev tab d1268_b2 (k2I g i k) (fun x st => x = .normal ∧ st = k2I g i (k + 1)) from by
      have e2 := strs_rdc hk
      have gw := word2_run (s := l.getD k []) (by have := ht _ (getD_mem (d := []) hk); omega)
      rw [q] at gw
      simp (config := { maxSteps := 1000000 }) (disch := omega) only [go_sem, ↓reduceIte, Nat.reduceEqDiff, Nat.reduceAdd, Int.reduceToNat, reduceCtorEq, Nat.reduceLeDiff, Nat.reduceSub, Nat.reduceDiv, Nat.reduceMod, Nat.reduceMul, d1268_b2, k2I, e, wc, strs_length, e2, gw])
    rcases first_ix' (fun k => wordB (l.getD k []) = true) l.length with h | ⟨m, m1, m2, m3⟩
    · have ea : l.all wordB = true := by
        rw [List.all_eq_true]
        intro x hx
        obtain ⟨k, hk, rfl⟩ := mem_getD (d := []) hx
        exact h k hk
      refine Ev_loop0 (k2I g i) l.length (by simp [k2I]) (fun k hk => hst k hk (h k hk)) ?_
      by_cases h8 : l.length ≤ 8
      · rw [if_pos (by simp only [wrdB, ea, h8, decide_true, Bool.true_and])] at hq
        simp (config := { maxSteps := 1000000 }) (disch := omega) only [go_sem, ↓reduceIte, Nat.reduceEqDiff, Nat.reduceAdd, Int.reduceToNat, reduceCtorEq, Nat.reduceLeDiff, Nat.reduceSub, Nat.reduceDiv, Nat.reduceMod, Nat.reduceMul, d1268_b2, k2I, e, wc, strs_length]
        exact hq
      · rw [if_neg (by simp [wrdB, h8])] at hq
        simp (config := { maxSteps := 1000000 }) (disch := omega) only [go_sem, ↓reduceIte, Nat.reduceEqDiff, Nat.reduceAdd, Int.reduceToNat, reduceCtorEq, Nat.reduceLeDiff, Nat.reduceSub, Nat.reduceDiv, Nat.reduceMod, Nat.reduceMul, d1268_b2, k2I, e, wc, strs_length]
        exact hq _ _
    · have ea : l.all wordB = false := by
        rw [List.all_eq_false]
        exact ⟨_, getD_mem (d := []) m1, m3⟩
      rw [if_neg (by simp [wrdB, ea])] at hq
      refine Ev_loop0 (k2I g i) m (by simp [k2I]) (fun k hk => hst k (by omega) (m2 k hk)) ?_
      have e2 := strs_rdc m1
      have gw := word2_run (s := l.getD m []) (by have := ht _ (getD_mem (d := []) m1); omega)
      rw [show wordB (l.getD m []) = false by simpa using m3] at gw
      simp (config := { maxSteps := 1000000 }) (disch := omega) only [go_sem, ↓reduceIte, Nat.reduceEqDiff, Nat.reduceAdd, Int.reduceToNat, reduceCtorEq, Nat.reduceLeDiff, Nat.reduceSub, Nat.reduceDiv, Nat.reduceMod, Nat.reduceMul, d1268_b2, k2I, e, wc, strs_length, e2, gw]
      exact hq _ _
theorem gck2_run {g : Gr} (hg : okG g) : runP tab 1268 [.agg (gS g)] [] = some (.bool (okB g), []) := by
  refine runP_fn t1268 rfl ?_
  obtain ⟨hn1, hn2⟩ := hg.n
  have he := hg.e
  have hw := hg.w
  by_cases c1 : 1 ≤ g.n
  case neg =>
    rw [okB, decide_eq_false (by omega), Bool.false_and]
    simp (config := { maxSteps := 1000000 }) (disch := omega) only [go_sem, ↓reduceIte, Nat.reduceEqDiff, Nat.reduceAdd, Int.reduceToNat, reduceCtorEq, Nat.reduceLeDiff, Nat.reduceSub, Nat.reduceDiv, Nat.reduceMod, Nat.reduceMul, d1268, gS]
  by_cases c2 : g.n ≤ 200
  case neg =>
    rw [okB, decide_eq_false (by omega), Bool.false_and]
    simp (config := { maxSteps := 1000000 }) (disch := omega) only [go_sem, ↓reduceIte, Nat.reduceEqDiff, Nat.reduceAdd, Int.reduceToNat, reduceCtorEq, Nat.reduceLeDiff, Nat.reduceSub, Nat.reduceDiv, Nat.reduceMod, Nat.reduceMul, d1268, gS]
  by_cases c3 : g.E.length ≤ 2000
  case neg =>
    rw [okB, decide_eq_false (by omega), Bool.false_and]
    simp (config := { maxSteps := 1000000 }) (disch := omega) only [go_sem, ↓reduceIte, Nat.reduceEqDiff, Nat.reduceAdd, Int.reduceToNat, reduceCtorEq, Nat.reduceLeDiff, Nat.reduceSub, Nat.reduceDiv, Nat.reduceMod, Nat.reduceMul, d1268, gS]
  by_cases c4 : (g.W.length : Int) = g.n
  case neg =>
    rw [okB, decide_eq_false (by omega), Bool.false_and]
    simp (config := { maxSteps := 1000000 }) (disch := omega) only [go_sem, ↓reduceIte, Nat.reduceEqDiff, Nat.reduceAdd, Int.reduceToNat, reduceCtorEq, Nat.reduceLeDiff, Nat.reduceSub, Nat.reduceDiv, Nat.reduceMod, Nat.reduceMul, d1268, gS, c4]
  rw [okB, decide_eq_true ⟨⟨c1, c2⟩, c3, c4⟩, Bool.true_and]
  simp (config := { maxSteps := 1000000 }) (disch := omega) only [go_sem, ↓reduceIte, Nat.reduceEqDiff, Nat.reduceAdd, Int.reduceToNat, reduceCtorEq, Nat.reduceLeDiff, Nat.reduceSub, Nat.reduceDiv, Nat.reduceMod, Nat.reduceMul, d1268, gS, c4]
  have hst := fun (i : Nat) (hi : i < g.E.length) (h : endB g.n (g.E.getD i default) = true) => (show Ev tab d1268_b0 (k2S g i) (fun x st => x = .normal ∧ st = k2S g (i + 1)) from by
    have e := prs_at hi
    simp only [endB, Bool.and_eq_true, decide_eq_true_eq] at h
    obtain ⟨⟨q1, q2⟩, q3, q4⟩ := h
    generalize g.E.getD i default = x at *
    simp (config := { maxSteps := 1000000 }) (disch := omega) only [go_sem, ↓reduceIte, Nat.reduceEqDiff, Nat.reduceAdd, Int.reduceToNat, reduceCtorEq, Nat.reduceLeDiff, Nat.reduceSub, Nat.reduceDiv, Nat.reduceMod, Nat.reduceMul, d1268_b0, k2S, e])
  rcases first_ix' (fun i => endB g.n (g.E.getD i default) = true) g.E.length with h | ⟨m, m1, m2, m3⟩
  · have ea : g.E.all (endB g.n) = true := by
      rw [List.all_eq_true]
      intro x hx
      obtain ⟨i, hi, rfl⟩ := mem_getD (d := default) hx
      exact h i hi
    rw [ea, Bool.true_and]
    refine Ev_loop0 (k2S g) g.E.length (by simp [k2S]) (fun i hi => hst i hi (h i hi)) ?_
    simp (config := { maxSteps := 1000000 }) (disch := omega) only [go_sem, ↓reduceIte, Nat.reduceEqDiff, Nat.reduceAdd, Int.reduceToNat, reduceCtorEq, Nat.reduceLeDiff, Nat.reduceSub, Nat.reduceDiv, Nat.reduceMod, Nat.reduceMul, d1268_b0, k2S]
    rcases first_ix' (fun i => wrdB (g.w i) = true) g.W.length with hw' | ⟨m, m1, m2, m3⟩
    · have eb : ((List.range g.W.length).all fun i => wrdB (g.w i)) = true := by
        rw [List.all_eq_true]
        intro i hi
        exact hw' i (by simpa using hi)
      rw [eb]
      refine Ev_loop0 (k2W g) g.W.length (by simp [k2W]) (fun i hi => k2_row hg c4 hi (by rw [if_pos (hw' i hi)]; exact ⟨rfl, rfl⟩)) ?_
      simp (config := { maxSteps := 1000000 }) (disch := omega) only [go_sem, ↓reduceIte, Nat.reduceEqDiff, Nat.reduceAdd, Int.reduceToNat, reduceCtorEq, Nat.reduceLeDiff, Nat.reduceSub, Nat.reduceDiv, Nat.reduceMod, Nat.reduceMul, d1268_b1, k2W, c4]
    · have eb : ((List.range g.W.length).all fun i => wrdB (g.w i)) = false := by
        rw [List.all_eq_false]
        exact ⟨m, by simpa using m1, m3⟩
      rw [eb]
      refine Ev_loop0 (k2W g) m (by simp [k2W]) (fun i hi => k2_row hg c4 (by omega) (by rw [if_pos (m2 i hi)]; exact ⟨rfl, rfl⟩)) ?_
      refine k2_row hg c4 m1 ?_
      rw [if_neg m3]
      intro e k
      simp (config := { maxSteps := 1000000 }) (disch := omega) only [go_sem, ↓reduceIte, Nat.reduceEqDiff, Nat.reduceAdd, Int.reduceToNat, reduceCtorEq, Nat.reduceLeDiff, Nat.reduceSub, Nat.reduceDiv, Nat.reduceMod, Nat.reduceMul]
  · have ea : g.E.all (endB g.n) = false := by
      rw [List.all_eq_false]
      exact ⟨_, getD_mem (d := default) m1, m3⟩
    rw [ea, Bool.false_and]
    refine Ev_loop0 (k2S g) m (by simp [k2S]) (fun i hi => hst i (by omega) (m2 i hi)) ?_
    have e := prs_at m1
    generalize g.E.getD m default = x at *
    have q : ¬ ((0 ≤ x.1 ∧ x.1 < g.n) ∧ 0 ≤ x.2 ∧ x.2 < g.n) := fun h => m3 (by simp only [endB, Bool.and_eq_true, decide_eq_true_eq]; exact h)
    by_cases c5 : 0 ≤ x.1
    case neg => simp (config := { maxSteps := 1000000 }) (disch := omega) only [go_sem, ↓reduceIte, Nat.reduceEqDiff, Nat.reduceAdd, Int.reduceToNat, reduceCtorEq, Nat.reduceLeDiff, Nat.reduceSub, Nat.reduceDiv, Nat.reduceMod, Nat.reduceMul, d1268_b0, k2S, e]
    by_cases c6 : x.1 < g.n
    case neg => simp (config := { maxSteps := 1000000 }) (disch := omega) only [go_sem, ↓reduceIte, Nat.reduceEqDiff, Nat.reduceAdd, Int.reduceToNat, reduceCtorEq, Nat.reduceLeDiff, Nat.reduceSub, Nat.reduceDiv, Nat.reduceMod, Nat.reduceMul, d1268_b0, k2S, e]
    by_cases c7 : 0 ≤ x.2
    case neg => simp (config := { maxSteps := 1000000 }) (disch := omega) only [go_sem, ↓reduceIte, Nat.reduceEqDiff, Nat.reduceAdd, Int.reduceToNat, reduceCtorEq, Nat.reduceLeDiff, Nat.reduceSub, Nat.reduceDiv, Nat.reduceMod, Nat.reduceMul, d1268_b0, k2S, e]
    by_cases c8 : x.2 < g.n
    case neg => simp (config := { maxSteps := 1000000 }) (disch := omega) only [go_sem, ↓reduceIte, Nat.reduceEqDiff, Nat.reduceAdd, Int.reduceToNat, reduceCtorEq, Nat.reduceLeDiff, Nat.reduceSub, Nat.reduceDiv, Nat.reduceMod, Nat.reduceMul, d1268_b0, k2S, e]
    exact absurd ⟨⟨c5, c6⟩, c7, c8⟩ q
end Go.Proofs.Ytmeakgiojhoofaa
