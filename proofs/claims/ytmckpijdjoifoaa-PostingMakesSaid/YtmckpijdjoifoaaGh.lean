/- Graphs: are two the same; degrees; the document's example. -/
import Derived.Test.YtmckpijdjoifoaaGd
set_option linter.unusedSimpArgs false
set_option linter.unusedVariables false
namespace Go.Proofs.Ytmckpijdjoifoaa
set_option maxHeartbeats 4000000
set_option maxRecDepth 100000
theorem getD_all {α : Type} (d : α) : ∀ {a b : List α}, a.length = b.length → (∀ i, i < a.length → a.getD i d = b.getD i d) → a = b
  | [], [], _, _ => rfl
  | [], _ :: _, h, _ => by simp at h
  | _ :: _, [], h, _ => by simp at h
  | x :: a, y :: b, h, e => by
    have h0 : x = y := by simpa using e 0 (by simp)
    have h1 : a = b := getD_all d (by simpa using h) fun i hi => by simpa using e (i + 1) (by simpa using hi)
    rw [h0, h1]
theorem texts_run {a b : List Txt} (ha : a.length ≤ 9223372036854775807) (hb : b.length ≤ 9223372036854775807) : runP tab 1105 [.sl 1 (strs a), .sl 1 (strs b)] [] = some (.bool (decide (a = b)), []) := by
  refine runP_fn t1105 rfl ?_
  by_cases hl : a.length = b.length
  · simp (config := { maxSteps := 1000000 }) (disch := omega) only [go_sem, ↓reduceIte, Nat.reduceEqDiff, reduceCtorEq, d1105, strs_length]
    rcases first_ix' (fun i => a.getD i [] = b.getD i []) a.length with h | ⟨k, h1, h2, h3⟩
    · rw [decide_eq_true (getD_all [] hl h)]
      refine Ev_loop0 (fun i => ⟨[(0, .sl 1 (strs a)), (1, .sl 1 (strs b)), (5, .int .i64 (i : Int))], [], 0, [(0, 0, [0, 1, 5], [])]⟩) a.length rfl (fun i hi => ?_) ?_
      · have := h i (by omega)
        simp (config := { maxSteps := 1000000 }) (disch := omega) only [go_sem, ↓reduceIte, Nat.reduceEqDiff, reduceCtorEq, d1105_b0, strs_rdc, this, strs_length, beq_self_eq_true]
      · simp (config := { maxSteps := 1000000 }) (disch := omega) only [go_sem, ↓reduceIte, Nat.reduceEqDiff, reduceCtorEq, d1105_b0, strs_length]
    · rw [decide_eq_false (fun h => h3 (by rw [h]))]
      refine Ev_loop0 (fun i => ⟨[(0, .sl 1 (strs a)), (1, .sl 1 (strs b)), (5, .int .i64 (i : Int))], [], 0, [(0, 0, [0, 1, 5], [])]⟩) k rfl (fun i hi => ?_) ?_
      · have := h2 i (by omega)
        simp (config := { maxSteps := 1000000 }) (disch := omega) only [go_sem, ↓reduceIte, Nat.reduceEqDiff, reduceCtorEq, d1105_b0, strs_rdc, this, strs_length, beq_self_eq_true]
      · have h3 : (a.getD k [] == b.getD k []) = false := by simpa using h3
        simp (config := { maxSteps := 1000000 }) (disch := omega) only [go_sem, ↓reduceIte, Nat.reduceEqDiff, reduceCtorEq, d1105_b0, strs_rdc, h3, strs_length]
  · rw [decide_eq_false (fun h => hl (by rw [h]))]
    simp (config := { maxSteps := 1000000 }) (disch := omega) only [go_sem, ↓reduceIte, Nat.reduceEqDiff, reduceCtorEq, d1105, strs_length]
def wl (W : Wds) : List (List Txt) := W.map fun o => o.getD []
def sameB (a b : Gr) : Bool := decide (a.n = b.n) && (decide (a.E = b.E) && decide (wl a.W = wl b.W))
theorem wl_len (W : Wds) : (wl W).length = W.length := by simp [wl]
theorem wl_at (W : Wds) (i : Nat) : (wl W).getD i [] = (W.getD i none).getD [] := by
  simp only [wl, List.getD_eq_getElem?_getD, List.getElem?_map]
  cases W[i]? <;> rfl
def smS (a b : Gr) (i : Nat) : St := ⟨[(2, .ref 0 0), (3, .ref 1 0), (5, .int .i64 (i : Int))], [.row false [.int .i64 a.n, .sl 2 (prs a.E), .sl 1 (wcs a.W)], .row false [.int .i64 b.n, .sl 2 (prs b.E), .sl 1 (wcs b.W)]], 0, [(0, 2, [2, 3, 5], [(2, 0), (3, 1)])]⟩
def smW (a b : Gr) (i : Nat) : St := ⟨[(2, .ref 0 0), (3, .ref 1 0), (6, .int .i64 (i : Int))], [.row false [.int .i64 a.n, .sl 2 (prs a.E), .sl 1 (wcs a.W)], .row false [.int .i64 b.n, .sl 2 (prs b.E), .sl 1 (wcs b.W)]], 0, [(1, 2, [2, 3, 6], [(2, 0), (3, 1)]), (0, 2, [2, 3, 5], [(2, 0), (3, 1)])]⟩
def smQ (Q : AX → St → Prop) (a b : Gr) (i : Nat) : Prop := ∀ e m, Q .ret ⟨(4, .bool false) :: e, [.row false [.int .i64 a.n, .sl 2 (prs a.E), .sl 1 (wcs a.W)], .row false [.int .i64 b.n, .sl 2 (prs b.E), .sl 1 (wcs b.W)]], 0, m⟩
theorem strs0 : strs [] = [] := rfl
theorem sm_words {a b : Gr} (ha : okG a) (hb : okG b) (hw : a.W.length = b.W.length) {i : Nat} (hi : i < a.W.length) {Q : AX → St → Prop}
    (hq : if a.w i = b.w i then Q .normal (smW a b (i + 1)) else smQ Q a b i) : Ev tab d1267_b1 (smW a b i) Q := by
  have e1 := wcs_at hi
  have e2 := wcs_at (W := b.W) (i := i) (by omega)
  have h1 := ha.w
  have h2 := ha.r i hi
  have h3 := hb.r i (by omega)
  have g := texts_run (a := a.w i) (b := b.w i) (by omega) (by omega)
  have ew : a.w i = (a.W.getD i none).getD [] := rfl
  have ew' : b.w i = (b.W.getD i none).getD [] := rfl
  rw [ew, ew'] at g hq
  by_cases h : (a.W.getD i none).getD [] = (b.W.getD i none).getD []
  · rw [if_pos h] at hq
    rw [decide_eq_true h] at g
    cases hx : a.W.getD i none <;> cases hy : b.W.getD i none <;> rw [hx] at e1 g <;> rw [hy] at e2 g <;> simp only [Option.getD_none, Option.getD_some, strs0] at g <;> simp (config := { maxSteps := 1000000 }) (disch := omega) only [go_sem, ↓reduceIte, Nat.reduceEqDiff, Nat.reduceAdd, d1267_b1, smW, e1, e2, wc, g, strs_noid'] <;> simp only [smW] at hq <;> exact hq
  · rw [if_neg h] at hq
    rw [decide_eq_false h] at g
    cases hx : a.W.getD i none <;> cases hy : b.W.getD i none <;> rw [hx] at e1 g <;> rw [hy] at e2 g <;> simp only [Option.getD_none, Option.getD_some, strs0] at g <;> simp (config := { maxSteps := 1000000 }) (disch := omega) only [go_sem, ↓reduceIte, Nat.reduceEqDiff, Nat.reduceAdd, d1267_b1, smW, e1, e2, wc, g, strs_noid'] <;> exact hq _ _
theorem sameG_run {a b : Gr} (ha : okG a) (hb : okG b) : runP tab 1267 [.agg (gS a), .agg (gS b)] [] = some (.bool (sameB a b), []) := by
  refine runP_fn t1267 rfl ?_
  have a1 := ha.e
  have a2 := ha.w
  have b1 := hb.e
  have b2 := hb.w
  unfold sameB
  by_cases h1 : a.n = b.n
  case neg =>
    rw [decide_eq_false h1, Bool.false_and]
    simp (config := { maxSteps := 1000000 }) (disch := omega) only [go_sem, ↓reduceIte, Nat.reduceEqDiff, Nat.reduceAdd, reduceCtorEq, d1267, gS]
  rw [decide_eq_true h1, Bool.true_and]
  by_cases h2 : a.E.length = b.E.length
  case neg =>
    rw [decide_eq_false (fun h => h2 (by rw [h])), Bool.false_and]
    simp (config := { maxSteps := 1000000 }) (disch := omega) only [go_sem, ↓reduceIte, Nat.reduceEqDiff, Nat.reduceAdd, reduceCtorEq, Nat.reduceLeDiff, d1267, gS, h1]
  by_cases h3 : a.W.length = b.W.length
  case neg =>
    rw [decide_eq_false (p := wl a.W = wl b.W) (fun h => h3 (by rw [← wl_len, h, wl_len])), Bool.and_false]
    simp (config := { maxSteps := 1000000 }) (disch := omega) only [go_sem, ↓reduceIte, Nat.reduceEqDiff, Nat.reduceAdd, reduceCtorEq, Nat.reduceLeDiff, d1267, gS, h1]
  simp (config := { maxSteps := 1000000 }) (disch := omega) only [go_sem, ↓reduceIte, Nat.reduceEqDiff, Nat.reduceAdd, reduceCtorEq, Nat.reduceLeDiff, d1267, gS, h1]
  rw [← h1]
  have hst := fun (i : Nat) (hi : i < a.E.length) (h : a.E.getD i default = b.E.getD i default) => (show Ev tab d1267_b0 (smS a b i) (fun x st => x = .normal ∧ st = smS a b (i + 1)) from by
    have e1 := prs_at hi
    have e2 := prs_at (l := b.E) (i := i) (by omega)
    rw [← h] at e2
    simp (config := { maxSteps := 1000000 }) (disch := omega) only [go_sem, ↓reduceIte, Nat.reduceEqDiff, Nat.reduceAdd, Nat.reduceLeDiff, Nat.reduceMul, d1267_b0, smS, e1, e2, aeqL, aeq, encA, digA])
  rcases first_ix' (fun i => a.E.getD i default = b.E.getD i default) a.E.length with h | ⟨m, m1, m2, m3⟩
  · rw [decide_eq_true (getD_all default h2 h), Bool.true_and]
    refine Ev_loop0 (smS a b) a.E.length (by simp [smS, h1]) (fun i hi => hst i hi (h i hi)) ?_
    simp (config := { maxSteps := 1000000 }) (disch := omega) only [go_sem, ↓reduceIte, Nat.reduceEqDiff, Nat.reduceAdd, reduceCtorEq, Nat.reduceLeDiff, d1267_b0, smS]
    rcases first_ix' (fun i => a.w i = b.w i) a.W.length with h | ⟨m, m1, m2, m3⟩
    · rw [decide_eq_true (getD_all (a := wl a.W) (b := wl b.W) [] (by rw [wl_len, wl_len, h3]) fun i hi => by rw [wl_at, wl_at]; exact h i (by rw [wl_len] at hi; exact hi))]
      refine Ev_loop0 (smW a b) a.W.length (by simp [smW]) (fun i hi => sm_words ha hb h3 hi (by rw [if_pos (h i hi)]; exact ⟨rfl, rfl⟩)) ?_
      simp (config := { maxSteps := 1000000 }) (disch := omega) only [go_sem, ↓reduceIte, Nat.reduceEqDiff, Nat.reduceAdd, reduceCtorEq, d1267_b1, smW]
    · rw [decide_eq_false (fun h => m3 (by have : (wl a.W).getD m [] = (wl b.W).getD m [] := by rw [h]
                                           rw [wl_at, wl_at] at this; exact this))]
      refine Ev_loop0 (smW a b) m (by simp [smW]) (fun i hi => sm_words ha hb h3 (by omega) (by rw [if_pos (m2 i hi)]; exact ⟨rfl, rfl⟩)) ?_
      refine sm_words ha hb h3 m1 ?_
      rw [if_neg m3]
      intro e k
      simp (config := { maxSteps := 1000000 }) (disch := omega) only [go_sem, ↓reduceIte, reduceCtorEq]
  · rw [decide_eq_false (fun h => m3 (by rw [h])), Bool.false_and]
    refine Ev_loop0 (smS a b) m (by simp [smS, h1]) (fun i hi => hst i (by omega) (m2 i hi)) ?_
    have e1 := prs_at m1
    have e2 := prs_at (l := b.E) (i := m) (by omega)
    generalize a.E.getD m default = x at *
    generalize b.E.getD m default = y at *
    have hne : (decide (x.1 = y.1) && decide (x.2 = y.2)) = false := by rw [ed_beq, decide_eq_false m3]
    simp (config := { maxSteps := 1000000 }) (disch := omega) only [go_sem, ↓reduceIte, Nat.reduceEqDiff, Nat.reduceAdd, reduceCtorEq, Nat.reduceLeDiff, Nat.reduceMul, d1267_b0, smS, e1, e2, aeqL, aeq, encA, digA, hne]
end Go.Proofs.Ytmckpijdjoifoaa
