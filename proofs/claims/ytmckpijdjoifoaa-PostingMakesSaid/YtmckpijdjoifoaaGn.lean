/- Graphs by definition: what is normal. -/
import Derived.Test.YtmckpijdjoifoaaGh
set_option linter.unusedSimpArgs false
set_option linter.unusedVariables false
namespace Go.Proofs.Ytmckpijdjoifoaa
set_option maxHeartbeats 4000000
set_option maxRecDepth 100000
def wi (W : Wds) (i : Nat) : List Txt := (W.getD i none).getD []
theorem gck_nil {n : Int} {W : Wds} (hg : okG ⟨n, [], W⟩) : runP tab 1214 [.agg [.int .i64 n, .sl 1 [], .sl 1 (wcs W)]] [] = some (.bool (okB ⟨n, [], W⟩), []) := by
  refine runP_fn t1214 rfl ?_
  have hw := hg.w
  have hr : ∀ i, i < W.length → (wi W i).length ≤ 20 := hg.r
  have ht : ∀ i, i < W.length → ∀ s ∈ wi W i, s.length ≤ 50 := hg.t
  have eo : okB ⟨n, [], W⟩ = (decide ((1 ≤ n ∧ n ≤ 200) ∧ (W.length : Int) = n) && ((List.range W.length).all fun i => wrdB (wi W i))) := by
    unfold okB
    simp only [List.length_nil, Nat.zero_le, true_and, List.all_nil, Bool.true_and]; rfl
  rw [eo]
  by_cases c1 : 1 ≤ n
  case neg =>
    rw [decide_eq_false (by omega), Bool.false_and]
    simp (config := { maxSteps := 1000000 }) (disch := omega) only [go_sem, ↓reduceIte, Nat.reduceEqDiff, Nat.reduceAdd, d1214]
  by_cases c2 : n ≤ 200
  case neg =>
    rw [decide_eq_false (by omega), Bool.false_and]
    simp (config := { maxSteps := 1000000 }) (disch := omega) only [go_sem, ↓reduceIte, Nat.reduceEqDiff, Nat.reduceAdd, d1214]
  by_cases c4 : (W.length : Int) = n
  case neg =>
    rw [decide_eq_false (by omega), Bool.false_and]
    simp (config := { maxSteps := 1000000 }) (disch := omega) only [go_sem, ↓reduceIte, Nat.reduceEqDiff, Nat.reduceAdd, Nat.reduceLeDiff, d1214, c4]
  rw [decide_eq_true ⟨⟨c1, c2⟩, c4⟩, Bool.true_and]
  simp (config := { maxSteps := 1000000 }) (disch := omega) only [go_sem, ↓reduceIte, Nat.reduceEqDiff, Nat.reduceAdd, Nat.reduceLeDiff, d1214, c4]
  refine Ev_loop0 (fun i => ⟨[(1, .ref 0 0), (30, .sl 1 []), (31, .int .i64 0), (32, .int .i64 (i : Int))], [.row false [.int .i64 n, .sl 1 [], .sl 1 (wcs W)]], 0, [(0, 1, [1, 30, 31, 32], [(1, 0)])]⟩) 0 (by simp) (fun i hi => absurd hi (Nat.not_lt_zero _)) ?_
  simp (config := { maxSteps := 1000000 }) (disch := omega) only [go_sem, ↓reduceIte, Nat.reduceEqDiff, Nat.reduceAdd, reduceCtorEq, d1214_b0]
  have hrow := fun (i : Nat) (hi : i < W.length) => (show rdc ((wcs W).drop i) none = some (wc (W.getD i none)) ∧ runP tab 1221 [.sl 1 (strs (wi W i)), .clo 1222 [] []] [] = some (.bool ((wi W i).all wordB), []) ∧ (wi W i).length ≤ 20 from
    ⟨wcs_at hi, all_run (by have := hr i hi; omega) (fun s hs => by have := ht i hi s hs; omega), hr i hi⟩)
  rcases first_ix' (fun i => wrdB (wi W i) = true) W.length with hw' | ⟨m, m1, m2, m3⟩
  · have eb : ((List.range W.length).all fun i => wrdB (wi W i)) = true := by
      rw [List.all_eq_true]
      intro i hi
      exact hw' i (by simpa using hi)
    rw [eb]
    refine Ev_loop0 (fun i => ⟨[(50, .sl 1 (wcs W)), (51, .int .i64 n), (52, .int .i64 (i : Int))], [.row false [.int .i64 n, .sl 1 [], .sl 1 (wcs W)]], 0, [(1, 1, [50, 51, 52], []), (0, 1, [1, 30, 31, 32], [(1, 0)])]⟩) W.length (by simp [c4]) (fun i hi => ?_) ?_
    · obtain ⟨e, ga, hl⟩ := hrow i hi
      have q := hw' i hi
      simp only [wrdB, Bool.and_eq_true, decide_eq_true_eq] at q
      rw [q.2] at ga
      have ew : wi W i = (W.getD i none).getD [] := rfl
      rw [ew] at ga q hl
      cases hx : W.getD i none with
      | none =>
        rw [hx] at e ga q
        simp only [Option.getD_none, strs, List.map_nil] at ga
        simp (config := { maxSteps := 1000000 }) (disch := omega) only [go_sem, ↓reduceIte, Nat.reduceEqDiff, d1214_b1, e, wc, ga]
      | some l =>
        rw [hx] at e ga q hl
        simp only [Option.getD_some] at ga q hl
        obtain ⟨q1, q2⟩ := q
        simp (config := { maxSteps := 1000000 }) (disch := omega) only [go_sem, ↓reduceIte, Nat.reduceEqDiff, d1214_b1, e, wc, strs_length, ga]
    · simp (config := { maxSteps := 1000000 }) (disch := omega) only [go_sem, ↓reduceIte, Nat.reduceEqDiff, reduceCtorEq, d1214_b1]
  · have eb : ((List.range W.length).all fun i => wrdB (wi W i)) = false := by
      rw [List.all_eq_false]
      exact ⟨m, by simpa using m1, m3⟩
    rw [eb]
    refine Ev_loop0 (fun i => ⟨[(50, .sl 1 (wcs W)), (51, .int .i64 n), (52, .int .i64 (i : Int))], [.row false [.int .i64 n, .sl 1 [], .sl 1 (wcs W)]], 0, [(1, 1, [50, 51, 52], []), (0, 1, [1, 30, 31, 32], [(1, 0)])]⟩) m (by simp [c4]) (fun i hi => ?_) ?_
    · obtain ⟨e, ga, hl⟩ := hrow i (by omega)
      have q := m2 i hi
      simp only [wrdB, Bool.and_eq_true, decide_eq_true_eq] at q
      rw [q.2] at ga
      have ew : wi W i = (W.getD i none).getD [] := rfl
      rw [ew] at ga q hl
      cases hx : W.getD i none with
      | none =>
        rw [hx] at e ga q
        simp only [Option.getD_none, strs, List.map_nil] at ga
        simp (config := { maxSteps := 1000000 }) (disch := omega) only [go_sem, ↓reduceIte, Nat.reduceEqDiff, d1214_b1, e, wc, ga]
      | some l =>
        rw [hx] at e ga q hl
        simp only [Option.getD_some] at ga q hl
        obtain ⟨q1, q2⟩ := q
        simp (config := { maxSteps := 1000000 }) (disch := omega) only [go_sem, ↓reduceIte, Nat.reduceEqDiff, d1214_b1, e, wc, strs_length, ga]
    · obtain ⟨e, ga, hl⟩ := hrow m m1
      have ew : wi W m = (W.getD m none).getD [] := rfl
      rw [ew] at ga m3 hl
      cases hx : W.getD m none with
      | none => rw [hx] at m3; exact absurd rfl m3
      | some l =>
        rw [hx] at e ga m3 hl
        simp only [Option.getD_some] at ga m3 hl
        by_cases h8 : l.length ≤ 8
        · have ha : l.all wordB = false := by
            cases h : l.all wordB with
            | false => rfl
            | true => exact absurd (by simp [wrdB, h, h8]) m3
          rw [ha] at ga
          simp (config := { maxSteps := 1000000 }) (disch := omega) only [go_sem, ↓reduceIte, Nat.reduceEqDiff, reduceCtorEq, d1214_b1, e, wc, strs_length, ga]
        · simp (config := { maxSteps := 1000000 }) (disch := omega) only [go_sem, ↓reduceIte, Nat.reduceEqDiff, reduceCtorEq, d1214_b1, e, wc, strs_length]
end Go.Proofs.Ytmckpijdjoifoaa

namespace Go.Proofs.Ytmckpijdjoifoaa
set_option maxHeartbeats 4000000
set_option maxRecDepth 100000
theorem word2_run {s : Txt} (hs : s.length ≤ 1000000) : runP tab 1270 [.str s] [] = some (.bool (wordB s), []) := by
  refine runP_fn t1270 rfl ?_
  simp (config := { maxSteps := 1000000 }) (disch := omega) only [go_sem, ↓reduceIte, reduceCtorEq, d1270]
  unfold wordB
  have hst := fun (i : Nat) (hi : i < s.length) (q : 97 ≤ (s.getD i 0).toNat ∧ (s.getD i 0).toNat ≤ 122) => (show Ev tab d1270_b0 ⟨[(0, .str s), (3, .int .i64 (i : Int))], [], 0, [(0, 0, [0, 3], [])]⟩ (fun x st => x = .normal ∧ st = ⟨[(0, .str s), (3, .int .i64 ((i + 1 : Nat) : Int))], [], 0, [(0, 0, [0, 3], [])]⟩) from by
    have e := txt_at hi
    obtain ⟨q1, q2⟩ := q
    simp (config := { maxSteps := 1000000 }) (disch := omega) only [go_sem, ↓reduceIte, Nat.reduceEqDiff, reduceCtorEq, d1270_b0, e])
  rcases letters_at s with ⟨h, e⟩ | ⟨m, m1, m2, m3, e⟩
  · rw [e, Bool.and_true]
    refine Ev_loop0 (fun i => ⟨[(0, .str s), (3, .int .i64 (i : Int))], [], 0, [(0, 0, [0, 3], [])]⟩) s.length rfl (fun i hi => hst i hi (h i hi)) ?_
    by_cases c1 : 1 ≤ s.length
    · by_cases c2 : s.length ≤ 12
      · rw [decide_eq_true ⟨c1, c2⟩]
        simp (config := { maxSteps := 1000000 }) (disch := omega) only [go_sem, ↓reduceIte, Nat.reduceEqDiff, reduceCtorEq, d1270_b0]
      · rw [decide_eq_false (by omega)]
        simp (config := { maxSteps := 1000000 }) (disch := omega) only [go_sem, ↓reduceIte, Nat.reduceEqDiff, reduceCtorEq, d1270_b0]
    · rw [decide_eq_false (by omega)]
      simp (config := { maxSteps := 1000000 }) (disch := omega) only [go_sem, ↓reduceIte, Nat.reduceEqDiff, reduceCtorEq, d1270_b0]
  · rw [e, Bool.and_false]
    refine Ev_loop0 (fun i => ⟨[(0, .str s), (3, .int .i64 (i : Int))], [], 0, [(0, 0, [0, 3], [])]⟩) m rfl (fun i hi => hst i (by omega) (m2 i hi)) ?_
    have e := txt_at m1
    by_cases h0 : 97 ≤ (s.getD m 0).toNat
    · have h3 : ¬ (s.getD m 0).toNat ≤ 122 := fun h => m3 ⟨h0, h⟩
      simp (config := { maxSteps := 1000000 }) (disch := omega) only [go_sem, ↓reduceIte, Nat.reduceEqDiff, reduceCtorEq, d1270_b0, e]
    · simp (config := { maxSteps := 1000000 }) (disch := omega) only [go_sem, ↓reduceIte, Nat.reduceEqDiff, reduceCtorEq, d1270_b0, e]
theorem lessE_run {x y : Ed} : runP tab 1281 [.agg [.int .i64 x.1, .int .i64 x.2], .agg [.int .i64 y.1, .int .i64 y.2]] [] = some (.bool (ltE x y), []) := by
  refine runP_fn t1281 rfl ?_
  have e : ltE x y = decide (x.1 < y.1 ∨ x.1 = y.1 ∧ x.2 < y.2) := rfl
  rw [e]
  by_cases h1 : x.1 < y.1
  · rw [decide_eq_true (.inl h1)]
    simp (config := { maxSteps := 1000000 }) (disch := omega) only [go_sem, ↓reduceIte, Nat.reduceEqDiff, Nat.reduceAdd, reduceCtorEq, d1281]
  by_cases h2 : x.1 = y.1
  · by_cases h3 : x.2 < y.2
    · rw [decide_eq_true (.inr ⟨h2, h3⟩)]
      simp (config := { maxSteps := 1000000 }) (disch := omega) only [go_sem, ↓reduceIte, Nat.reduceEqDiff, Nat.reduceAdd, reduceCtorEq, d1281]
    · rw [decide_eq_false (by omega)]
      simp (config := { maxSteps := 1000000 }) (disch := omega) only [go_sem, ↓reduceIte, Nat.reduceEqDiff, Nat.reduceAdd, reduceCtorEq, d1281]
  · rw [decide_eq_false (by omega)]
    simp (config := { maxSteps := 1000000 }) (disch := omega) only [go_sem, ↓reduceIte, Nat.reduceEqDiff, Nat.reduceAdd, reduceCtorEq, d1281]
def k2S (g : Gr) (i : Nat) : St := ⟨[(1, .ref 0 0), (3, .int .i64 (i : Int))], [.row false [.int .i64 g.n, .sl 2 (prs g.E), .sl 1 (wcs g.W)]], 0, [(0, 1, [1, 3], [(1, 0)])]⟩
def k2W (g : Gr) (i : Nat) : St := ⟨[(1, .ref 0 0), (5, .int .i64 (i : Int))], [.row false [.int .i64 g.n, .sl 2 (prs g.E), .sl 1 (wcs g.W)]], 0, [(1, 1, [1, 5], [(1, 0)]), (0, 1, [1, 3], [(1, 0)])]⟩
def k2I (g : Gr) (i k : Nat) : St := ⟨[(1, .ref 0 0), (5, .int .i64 (i : Int)), (6, .int .i64 (k : Int))], [.row false [.int .i64 g.n, .sl 2 (prs g.E), .sl 1 (wcs g.W)]], 0, [(2, 1, [1, 5, 6], [(1, 0)]), (1, 1, [1, 5], [(1, 0)]), (0, 1, [1, 3], [(1, 0)])]⟩
def k2Q (Q : AX → St → Prop) (g : Gr) : Prop := ∀ e m, Q .ret ⟨(2, .bool false) :: e, [.row false [.int .i64 g.n, .sl 2 (prs g.E), .sl 1 (wcs g.W)]], 0, m⟩
theorem k2_row {g : Gr} (hg : okG g) (c4 : (g.W.length : Int) = g.n) {i : Nat} (hi : i < g.W.length) {Q : AX → St → Prop} (hq : if wrdB (g.w i) = true then Q .normal (k2W g (i + 1)) else k2Q Q g) : Ev tab d1268_b1 (k2W g i) Q := by
  have e := wcs_at hi
  have hn := hg.w
  have ew : g.w i = (g.W.getD i none).getD [] := rfl
  have ht := hg.t i hi
  have hl := hg.r i hi
  have hi' : (i : Int) < g.n := by omega
  rw [ew] at hq ht hl
  simp (config := { maxSteps := 1000000 }) (disch := omega) only [go_sem, ↓reduceIte, Nat.reduceEqDiff, d1268_b1, k2W, hi']
  cases hx : g.W.getD i none with
  | none =>
    rw [hx] at e hq
    rw [if_pos (by simp [wrdB])] at hq
    refine Ev_loop0 (k2I g i) 0 (by simp [k2I]) (fun k hk => absurd hk (Nat.not_lt_zero _)) ?_
    simp (config := { maxSteps := 1000000 }) (disch := omega) only [go_sem, ↓reduceIte, Nat.reduceEqDiff, Nat.reduceAdd, reduceCtorEq, d1268_b2, k2I, e, wc]
    exact hq
  | some l =>
    rw [hx] at e ht hq hl
    simp only [Option.getD_some] at ht hl hq
    have hst := fun (k : Nat) (hk : k < l.length) (q : wordB (l.getD k []) = true) => (show Ev tab d1268_b2 (k2I g i k) (fun x st => x = .normal ∧ st = k2I g i (k + 1)) from by
      have e2 := strs_rdc hk
      have gw := word2_run (s := l.getD k []) (by have := ht _ (getD_mem (d := []) hk); omega)
      rw [q] at gw
      simp (config := { maxSteps := 1000000 }) (disch := omega) only [go_sem, ↓reduceIte, Nat.reduceEqDiff, Nat.reduceAdd, d1268_b2, k2I, e, wc, strs_length, e2, gw])
    rcases first_ix' (fun k => wordB (l.getD k []) = true) l.length with h | ⟨m, m1, m2, m3⟩
    · have ea : l.all wordB = true := by
        rw [List.all_eq_true]
        intro x hx
        obtain ⟨k, hk, rfl⟩ := mem_getD (d := []) hx
        exact h k hk
      refine Ev_loop0 (k2I g i) l.length (by simp [k2I]) (fun k hk => hst k hk (h k hk)) ?_
      by_cases h8 : l.length ≤ 8
      · rw [if_pos (by simp only [wrdB, ea, h8, decide_true, Bool.true_and])] at hq
        simp (config := { maxSteps := 1000000 }) (disch := omega) only [go_sem, ↓reduceIte, Nat.reduceEqDiff, Nat.reduceAdd, reduceCtorEq, d1268_b2, k2I, e, wc, strs_length]
        exact hq
      · rw [if_neg (by simp [wrdB, h8])] at hq
        simp (config := { maxSteps := 1000000 }) (disch := omega) only [go_sem, ↓reduceIte, Nat.reduceEqDiff, Nat.reduceAdd, reduceCtorEq, d1268_b2, k2I, e, wc, strs_length]
        exact hq _ _
    · have ea : l.all wordB = false := by
        rw [List.all_eq_false]
        exact ⟨_, getD_mem (d := []) m1, m3⟩
      rw [if_neg (by simp [wrdB, ea])] at hq
      refine Ev_loop0 (k2I g i) m (by simp [k2I]) (fun k hk => hst k (by omega) (m2 k hk)) ?_
      have e2 := strs_rdc m1
      have gw := word2_run (s := l.getD m []) (by have := ht _ (getD_mem (d := []) m1); omega)
      rw [show wordB (l.getD m []) = false by simpa using m3] at gw
      simp (config := { maxSteps := 1000000 }) (disch := omega) only [go_sem, ↓reduceIte, Nat.reduceEqDiff, Nat.reduceAdd, reduceCtorEq, d1268_b2, k2I, e, wc, strs_length, e2, gw]
      exact hq _ _
theorem gck2_run {g : Gr} (hg : okG g) : runP tab 1268 [.agg (gS g)] [] = some (.bool (okB g), []) := by
  refine runP_fn t1268 rfl ?_
  obtain ⟨hn1, hn2⟩ := hg.n
  have he := hg.e
  have hw := hg.w
  by_cases c1 : 1 ≤ g.n
  case neg =>
    rw [okB, decide_eq_false (by omega), Bool.false_and]
    simp (config := { maxSteps := 1000000 }) (disch := omega) only [go_sem, ↓reduceIte, Nat.reduceEqDiff, Nat.reduceAdd, d1268, gS]
  by_cases c2 : g.n ≤ 200
  case neg =>
    rw [okB, decide_eq_false (by omega), Bool.false_and]
    simp (config := { maxSteps := 1000000 }) (disch := omega) only [go_sem, ↓reduceIte, Nat.reduceEqDiff, Nat.reduceAdd, d1268, gS]
  by_cases c3 : g.E.length ≤ 2000
  case neg =>
    rw [okB, decide_eq_false (by omega), Bool.false_and]
    simp (config := { maxSteps := 1000000 }) (disch := omega) only [go_sem, ↓reduceIte, Nat.reduceEqDiff, Nat.reduceAdd, Nat.reduceLeDiff, d1268, gS]
  by_cases c4 : (g.W.length : Int) = g.n
  case neg =>
    rw [okB, decide_eq_false (by omega), Bool.false_and]
    simp (config := { maxSteps := 1000000 }) (disch := omega) only [go_sem, ↓reduceIte, Nat.reduceEqDiff, Nat.reduceAdd, Nat.reduceLeDiff, d1268, gS, c4]
  rw [okB, decide_eq_true ⟨⟨c1, c2⟩, c3, c4⟩, Bool.true_and]
  simp (config := { maxSteps := 1000000 }) (disch := omega) only [go_sem, ↓reduceIte, Nat.reduceEqDiff, Nat.reduceAdd, Nat.reduceLeDiff, d1268, gS, c4]
  have hst := fun (i : Nat) (hi : i < g.E.length) (h : endB g.n (g.E.getD i default) = true) => (show Ev tab d1268_b0 (k2S g i) (fun x st => x = .normal ∧ st = k2S g (i + 1)) from by
    have e := prs_at hi
    simp only [endB, Bool.and_eq_true, decide_eq_true_eq] at h
    obtain ⟨⟨q1, q2⟩, q3, q4⟩ := h
    generalize g.E.getD i default = x at *
    simp (config := { maxSteps := 1000000 }) (disch := omega) only [go_sem, ↓reduceIte, Nat.reduceEqDiff, Nat.reduceAdd, Nat.reduceLeDiff, d1268_b0, k2S, e])
  rcases first_ix' (fun i => endB g.n (g.E.getD i default) = true) g.E.length with h | ⟨m, m1, m2, m3⟩
  · have ea : g.E.all (endB g.n) = true := by
      rw [List.all_eq_true]
      intro x hx
      obtain ⟨i, hi, rfl⟩ := mem_getD (d := default) hx
      exact h i hi
    rw [ea, Bool.true_and]
    refine Ev_loop0 (k2S g) g.E.length (by simp [k2S]) (fun i hi => hst i hi (h i hi)) ?_
    simp (config := { maxSteps := 1000000 }) (disch := omega) only [go_sem, ↓reduceIte, Nat.reduceEqDiff, Nat.reduceAdd, reduceCtorEq, Nat.reduceLeDiff, d1268_b0, k2S]
    rcases first_ix' (fun i => wrdB (g.w i) = true) g.W.length with hw' | ⟨m, m1, m2, m3⟩
    · have eb : ((List.range g.W.length).all fun i => wrdB (g.w i)) = true := by
        rw [List.all_eq_true]
        intro i hi
        exact hw' i (by simpa using hi)
      rw [eb]
      refine Ev_loop0 (k2W g) g.W.length (by simp [k2W]) (fun i hi => k2_row hg c4 hi (by rw [if_pos (hw' i hi)]; exact ⟨rfl, rfl⟩)) ?_
      simp (config := { maxSteps := 1000000 }) (disch := omega) only [go_sem, ↓reduceIte, Nat.reduceEqDiff, reduceCtorEq, d1268_b1, k2W, c4]
    · have eb : ((List.range g.W.length).all fun i => wrdB (g.w i)) = false := by
        rw [List.all_eq_false]
        exact ⟨m, by simpa using m1, m3⟩
      rw [eb]
      refine Ev_loop0 (k2W g) m (by simp [k2W]) (fun i hi => k2_row hg c4 (by omega) (by rw [if_pos (m2 i hi)]; exact ⟨rfl, rfl⟩)) ?_
      refine k2_row hg c4 m1 ?_
      rw [if_neg m3]
      intro e k
      simp (config := { maxSteps := 1000000 }) (disch := omega) only [go_sem, ↓reduceIte, reduceCtorEq]
  · have ea : g.E.all (endB g.n) = false := by
      rw [List.all_eq_false]
      exact ⟨_, getD_mem (d := default) m1, m3⟩
    rw [ea, Bool.false_and]
    refine Ev_loop0 (k2S g) m (by simp [k2S]) (fun i hi => hst i (by omega) (m2 i hi)) ?_
    have e := prs_at m1
    generalize g.E.getD m default = x at *
    have q : ¬ ((0 ≤ x.1 ∧ x.1 < g.n) ∧ 0 ≤ x.2 ∧ x.2 < g.n) := fun h => m3 (by simp only [endB, Bool.and_eq_true, decide_eq_true_eq]; exact h)
    by_cases c5 : 0 ≤ x.1
    case neg => simp (config := { maxSteps := 1000000 }) (disch := omega) only [go_sem, ↓reduceIte, Nat.reduceEqDiff, Nat.reduceAdd, reduceCtorEq, Nat.reduceLeDiff, d1268_b0, k2S, e]
    by_cases c6 : x.1 < g.n
    case neg => simp (config := { maxSteps := 1000000 }) (disch := omega) only [go_sem, ↓reduceIte, Nat.reduceEqDiff, Nat.reduceAdd, reduceCtorEq, Nat.reduceLeDiff, d1268_b0, k2S, e]
    by_cases c7 : 0 ≤ x.2
    case neg => simp (config := { maxSteps := 1000000 }) (disch := omega) only [go_sem, ↓reduceIte, Nat.reduceEqDiff, Nat.reduceAdd, reduceCtorEq, Nat.reduceLeDiff, d1268_b0, k2S, e]
    by_cases c8 : x.2 < g.n
    case neg => simp (config := { maxSteps := 1000000 }) (disch := omega) only [go_sem, ↓reduceIte, Nat.reduceEqDiff, Nat.reduceAdd, reduceCtorEq, Nat.reduceLeDiff, d1268_b0, k2S, e]
    exact absurd ⟨⟨c5, c6⟩, c7, c8⟩ q
end Go.Proofs.Ytmckpijdjoifoaa

namespace Go.Proofs.Ytmckpijdjoifoaa
set_option maxHeartbeats 4000000
set_option maxRecDepth 100000
def i2S (g : Gr) (i : Nat) : St := ⟨[(1, .ref 0 0), (3, .int .i64 ((i : Int) + 1))], [.row false [.int .i64 g.n, .sl 2 (prs g.E), .sl 1 (wcs g.W)]], 0, [(0, 1, [1, 3], [(1, 0)])]⟩
def i2W (g : Gr) (i : Nat) : St := ⟨[(1, .ref 0 0), (4, .int .i64 (i : Int))], [.row false [.int .i64 g.n, .sl 2 (prs g.E), .sl 1 (wcs g.W)]], 0, [(1, 1, [1, 4], [(1, 0)]), (0, 1, [1, 3], [(1, 0)])]⟩
def i2I (g : Gr) (i k : Nat) : St := ⟨[(1, .ref 0 0), (4, .int .i64 (i : Int)), (5, .int .i64 ((k : Int) + 1))], [.row false [.int .i64 g.n, .sl 2 (prs g.E), .sl 1 (wcs g.W)]], 0, [(2, 1, [1, 4, 5], [(1, 0)]), (1, 1, [1, 4], [(1, 0)]), (0, 1, [1, 3], [(1, 0)])]⟩
theorem bl_lt : ∀ x y : Txt, Op.bytesLess x y = ltS x y
  | [], [] => rfl
  | [], _ :: _ => rfl
  | _ :: _, [] => rfl
  | a :: x, b :: y => by
    have ih := bl_lt x y
    have l1 := @UInt8.lt_iff_toNat_lt a b
    have l2 := @UInt8.lt_iff_toNat_lt b a
    by_cases h1 : a < b
    · have e : Go.Lib.compareBytes (a :: x) (b :: y) = -1 := by simp [Go.Lib.compareBytes, h1]
      simp [ltS, e, Op.bytesLess, h1]
    · by_cases h2 : b < a
      · have e : Go.Lib.compareBytes (a :: x) (b :: y) = 1 := by simp [Go.Lib.compareBytes, h1, h2]
        have n : (a == b) = false := by rw [beq_eq_false_iff_ne]; rintro rfl; exact h1 h2
        simp [ltS, e, Op.bytesLess, h1, n]
      · have e : a = b := UInt8.toNat_inj.1 (by rw [l1] at h1; rw [l2] at h2; omega)
        subst e
        have e : Go.Lib.compareBytes (a :: x) (a :: y) = Go.Lib.compareBytes x y := by simp [Go.Lib.compareBytes, h1]
        simp only [ltS] at ih ⊢
        rw [e, ← ih]
        simp [Op.bytesLess, h1]
theorem i2_row {g : Gr} (hg : okG g) (c4 : (g.W.length : Int) = g.n) {i : Nat} (hi : i < g.W.length) {Q : AX → St → Prop} (hq : if ascB ltS (g.w i) = true then Q .normal (i2W g (i + 1)) else k2Q Q g) : Ev tab d1269_b1 (i2W g i) Q := by
  have e := wcs_at hi
  have hn := hg.w
  have ew : g.w i = (g.W.getD i none).getD [] := rfl
  have hl := hg.r i hi
  have hi' : (i : Int) < g.n := by omega
  rw [ew] at hq hl
  simp (config := { maxSteps := 1000000 }) (disch := omega) only [go_sem, ↓reduceIte, Nat.reduceEqDiff, d1269_b1, i2W, hi']
  cases hx : g.W.getD i none with
  | none =>
    rw [hx] at e hq
    simp only [Option.getD_none] at hq
    rw [if_pos (ascB_iff.2 .nil)] at hq
    refine Ev_loop0 (i2I g i) 0 (by simp [i2I]) (fun k hk => absurd hk (Nat.not_lt_zero _)) ?_
    simp (config := { maxSteps := 1000000 }) (disch := omega) only [go_sem, ↓reduceIte, Nat.reduceEqDiff, Nat.reduceAdd, reduceCtorEq, d1269_b2, i2I, e, wc]
    exact hq
  | some l =>
    rw [hx] at e hq hl
    simp only [Option.getD_some] at hl hq
    have hst := fun (k : Nat) (hk : k < l.length - 1) (q : adj ltS l k) => (show Ev tab d1269_b2 (i2I g i k) (fun x st => x = .normal ∧ st = i2I g i (k + 1)) from by
      have e1 := strs_rdc (l := l) (i := k) (by omega)
      have e2 := strs_rdc (l := l) (i := k + 1) (by omega)
      rw [adj] at q
      change ltS (l.getD k []) (l.getD (k + 1) []) = true at q
      simp (config := { maxSteps := 1000000 }) (disch := omega) only [go_sem, ↓reduceIte, Nat.reduceEqDiff, Nat.reduceAdd, d1269_b2, i2I, e, wc, strs_length, Int.add_sub_cancel, tn1, e1, e2, bl_lt, q])
    rcases asc_ix ordrS l with ⟨h, ea⟩ | ⟨m, m1, m2, m3, ea⟩
    · rw [if_pos ea] at hq
      by_cases h0 : l = []
      · subst h0
        refine Ev_stop ?_
        simp (config := { maxSteps := 1000000 }) (disch := omega) only [go_sem, ↓reduceIte, Nat.reduceEqDiff, Nat.reduceAdd, reduceCtorEq, d1269_b2, e, wc, strs_length]
        exact hq
      have hp : 0 < l.length := List.length_pos_iff.2 h0
      refine Ev_loop0 (i2I g i) (l.length - 1) (by simp [i2I]) (fun k hk => hst k hk (h k hk)) ?_
      simp (config := { maxSteps := 1000000 }) (disch := omega) only [go_sem, ↓reduceIte, Nat.reduceEqDiff, Nat.reduceAdd, reduceCtorEq, d1269_b2, i2I, e, wc, strs_length]
      exact hq
    · rw [if_neg (by rw [ea]; simp)] at hq
      refine Ev_loop0 (i2I g i) m (by simp [i2I]) (fun k hk => hst k (by omega) (m2 k hk)) ?_
      have e1 := strs_rdc (l := l) (i := m) (by omega)
      have e2 := strs_rdc (l := l) (i := m + 1) (by omega)
      have q : ltS (l.getD m []) (l.getD (m + 1) []) = false := by
        have h := m3
        simp only [adj] at h
        change ¬ ltS (l.getD m []) (l.getD (m + 1) []) = true at h
        simpa using h
      simp (config := { maxSteps := 1000000 }) (disch := omega) only [go_sem, ↓reduceIte, Nat.reduceEqDiff, Nat.reduceAdd, reduceCtorEq, d1269_b2, i2I, e, wc, strs_length, Int.add_sub_cancel, tn1, e1, e2, bl_lt, q]
      exact hq _ _
theorem is2_run {g : Gr} (hg : okG g) : runP tab 1269 [.agg (gS g)] [] = some (.bool (isB g), []) := by
  refine runP_fn t1269 rfl ?_
  have gc := gck2_run hg
  have he := hg.e
  have hw := hg.w
  simp only [gS] at gc
  unfold isB
  cases c1 : okB g with
  | false =>
    rw [c1] at gc
    rw [Bool.false_and]
    simp (config := { maxSteps := 1000000 }) (disch := omega) only [go_sem, ↓reduceIte, Nat.reduceEqDiff, Nat.reduceAdd, d1269, gS, gc]
  | true =>
    rw [c1] at gc
    rw [Bool.true_and]
    obtain ⟨n1, n2, n3, n4⟩ := okB_n c1
    simp (config := { maxSteps := 1000000 }) (disch := omega) only [go_sem, ↓reduceIte, Nat.reduceEqDiff, Nat.reduceAdd, d1269, gS, gc]
    have hst := fun (i : Nat) (hi : i < g.E.length - 1) (h : adj ltE g.E i) => (show Ev tab d1269_b0 (i2S g i) (fun x st => x = .normal ∧ st = i2S g (i + 1)) from by
      have e1 := prs_at (l := g.E) (i := i) (by omega)
      have e2 := prs_at (l := g.E) (i := i + 1) (by omega)
      have gl := lessE_run (x := g.E.getD i default) (y := g.E.getD (i + 1) default)
      rw [adj] at h
      rw [h] at gl
      simp (config := { maxSteps := 1000000 }) (disch := omega) only [go_sem, ↓reduceIte, Nat.reduceEqDiff, Nat.reduceAdd, Nat.reduceLeDiff, d1269_b0, i2S, Int.add_sub_cancel, tn1, e1, e2, gl])
    rcases asc_ix ordrE g.E with ⟨h, ea⟩ | ⟨m, m1, m2, m3, ea⟩
    · rw [ea, Bool.true_and]
      have hw2 : ∀ {Q : AX → St → Prop}, (if wAsc g = true then (∀ e, Q (.exit 2) ⟨e, [.row false [.int .i64 g.n, .sl 2 (prs g.E), .sl 1 (wcs g.W)]], 0, [(1, 1, [1, 4], [(1, 0)]), (0, 1, [1, 3], [(1, 0)])]⟩) else k2Q Q g) → Ev tab (.loop d1269_b1) (i2W g 0) Q := fun {Q} hq => by
        rcases first_ix' (fun i => asc ltS (g.w i)) g.W.length with h | ⟨m, m1, m2, m3⟩
        · rw [if_pos (wAsc_yes h)] at hq
          refine Ev_loop0 (i2W g) g.W.length rfl (fun i hi => i2_row hg n4 hi (by rw [if_pos (ascB_iff.2 (h i hi))]; exact ⟨rfl, rfl⟩)) ?_
          simp (config := { maxSteps := 1000000 }) (disch := omega) only [go_sem, ↓reduceIte, Nat.reduceEqDiff, reduceCtorEq, d1269_b1, i2W, n4]
          exact hq _
        · rw [if_neg (by rw [wAsc_no fun h => m3 (h m m1)]; simp)] at hq
          refine Ev_loop0 (i2W g) m rfl (fun i hi => i2_row hg n4 (by omega) (by rw [if_pos (ascB_iff.2 (m2 i hi))]; exact ⟨rfl, rfl⟩)) ?_
          refine i2_row hg n4 m1 ?_
          rw [if_neg (by rw [ascB_iff]; exact m3)]
          intro e k
          simp (config := { maxSteps := 1000000 }) (disch := omega) only [go_sem, reduceCtorEq]
          exact hq _ _
      by_cases h0 : g.E = []
      · refine Ev_stop ?_
        have e0 : prs g.E = [] := by rw [h0]; rfl
        rw [e0] at hw2
        simp (config := { maxSteps := 1000000 }) (disch := omega) only [go_sem, ↓reduceIte, Nat.reduceEqDiff, Nat.reduceAdd, reduceCtorEq, Nat.reduceLeDiff, d1269_b0, h0, List.length_nil]
        simp only [i2W, e0] at hw2
        refine hw2 ?_
        cases hq : wAsc g with
        | true =>
          rw [if_pos rfl]
          intro e
          simp (config := { maxSteps := 1000000 }) (disch := omega) only [go_sem, ↓reduceIte]
        | false =>
          rw [if_neg (by simp)]
          intro e m
          simp (config := { maxSteps := 1000000 }) (disch := omega) only [go_sem, ↓reduceIte]
      have hp : 0 < g.E.length := List.length_pos_iff.2 h0
      refine Ev_loop0 (i2S g) (g.E.length - 1) (by simp [i2S]) (fun i hi => hst i hi (h i hi)) ?_
      simp (config := { maxSteps := 1000000 }) (disch := omega) only [go_sem, ↓reduceIte, Nat.reduceEqDiff, Nat.reduceAdd, reduceCtorEq, Nat.reduceLeDiff, d1269_b0, i2S]
      refine hw2 ?_
      cases hq : wAsc g with
      | true =>
        rw [if_pos rfl]
        intro e
        simp (config := { maxSteps := 1000000 }) (disch := omega) only [go_sem, ↓reduceIte]
      | false =>
        rw [if_neg (by simp)]
        intro e m
        simp (config := { maxSteps := 1000000 }) (disch := omega) only [go_sem, ↓reduceIte]
    · rw [ea, Bool.false_and]
      refine Ev_loop0 (i2S g) m (by simp [i2S]) (fun i hi => hst i (by omega) (m2 i hi)) ?_
      have e1 := prs_at (l := g.E) (i := m) (by omega)
      have e2 := prs_at (l := g.E) (i := m + 1) (by omega)
      have gl := lessE_run (x := g.E.getD m default) (y := g.E.getD (m + 1) default)
      rw [show ltE (g.E.getD m default) (g.E.getD (m + 1) default) = false by simpa [adj] using m3] at gl
      simp (config := { maxSteps := 1000000 }) (disch := omega) only [go_sem, ↓reduceIte, Nat.reduceEqDiff, Nat.reduceAdd, reduceCtorEq, Nat.reduceLeDiff, d1269_b0, i2S, Int.add_sub_cancel, tn1, e1, e2, gl]
end Go.Proofs.Ytmckpijdjoifoaa
