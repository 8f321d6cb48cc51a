/- Graphs: what rises; things in order, each once. -/
import Derived.Test.YtmckpijdjoifoaaGa
import Derived.Test.YtmckpijdjoifoaaGa
import Derived.Test.YtmckpijdjoifoaaSk
import Derived.Test.YtmckpijdjoifoaaGa
import Derived.Test.YtmckpijdjoifoaaIb
set_option linter.unusedSimpArgs false
set_option linter.unusedVariables false
namespace Go.Proofs.Ytmckpijdjoifoaa
set_option maxHeartbeats 4000000
set_option maxRecDepth 100000
open Classical in
noncomputable def ascB {α : Type} (lt : α → α → Bool) (l : List α) : Bool := decide (asc lt l)
theorem ascB_iff {α : Type} {lt : α → α → Bool} {l : List α} : ascB lt l = true ↔ asc lt l := by simp [ascB]
section
variable {α : Type} {lt : α → α → Bool} [Inhabited α]
def adj (lt : α → α → Bool) (l : List α) (i : Nat) : Prop := lt (l.getD i default) (l.getD (i + 1) default) = true
theorem asc_of_adj (O : Ordr lt) : ∀ {l : List α}, (∀ i, i < l.length - 1 → adj lt l i) → asc lt l
  | [], _ => .nil
  | [a], _ => by simp [asc]
  | a :: b :: l, h => by
    have ih := asc_of_adj O (l := b :: l) (fun i hi => by have := h (i + 1) (by simp at hi ⊢; omega); simpa [adj] using this)
    have h0 := h 0 (by simp)
    simp only [adj, List.getD_cons_zero, List.getD_cons_succ] at h0
    refine List.pairwise_cons.2 ⟨fun c hc => ?_, ih⟩
    rcases List.mem_cons.1 hc with rfl | hc
    · exact h0
    · exact O.tr _ _ _ h0 ((List.pairwise_cons.1 ih).1 c hc)
theorem adj_of_asc {l : List α} (h : asc lt l) {i : Nat} (hi : i < l.length - 1) : adj lt l i := by
  have := List.pairwise_iff_getElem.1 h i (i + 1) (by omega) (by omega) (by omega)
  rw [adj, List.getD_eq_getElem?_getD, List.getD_eq_getElem?_getD, List.getElem?_eq_getElem (by omega), List.getElem?_eq_getElem (by omega)]
  exact this
theorem asc_ix (O : Ordr lt) (l : List α) : ((∀ i, i < l.length - 1 → adj lt l i) ∧ ascB lt l = true) ∨ ∃ m, m < l.length - 1 ∧ (∀ i, i < m → adj lt l i) ∧ ¬ adj lt l m ∧ ascB lt l = false := by
  rcases first_ix' (fun i => adj lt l i) (l.length - 1) with h | ⟨m, h1, h2, h3⟩
  · exact .inl ⟨h, by simp [ascB, asc_of_adj O h]⟩
  · exact .inr ⟨m, h1, h2, h3, by simp only [ascB, decide_eq_false_iff_not]; exact fun h => h3 (adj_of_asc h h1)⟩
end
theorem ord_ge (x y : Ed) : decide (0 ≤ ordE x y) = !ltE x y := by
  rw [← ord_lt, ← decide_not]; congr 1; exact propext (by omega)
theorem cms_ge (x y : Txt) : decide (0 ≤ Go.Lib.compareBytes x y) = !ltS x y := by
  rw [← cms_lt, ← decide_not]; congr 1; exact propext (by omega)
theorem risesE_run {l : List Ed} (hl : l.length ≤ 1000000) : runP tab 1215 [.sl 2 (prs l), .agg [.clo 1223 [] []]] [] = some (.bool (ascB ltE l), []) := by
  refine runP_fn t1215 rfl ?_
  simp (config := { maxSteps := 1000000 }) (disch := omega) only [go_sem, ↓reduceIte, Nat.reduceEqDiff, reduceCtorEq, d1215]
  have hst := fun (i : Nat) (hi : i < l.length - 1) (h : adj ltE l i) => (show Ev tab d1215_b0 ⟨[(0, .sl 2 (prs l)), (3, .ref 0 0), (5, .int .i64 ((i : Int) + 1))], [.row false [.clo 1223 [] []]], 0, [(0, 1, [0, 3, 5], [(3, 0)])]⟩ (fun x st => x = .normal ∧ st = ⟨[(0, .sl 2 (prs l)), (3, .ref 0 0), (5, .int .i64 (((i + 1 : Nat) : Int) + 1))], [.row false [.clo 1223 [] []]], 0, [(0, 1, [0, 3, 5], [(3, 0)])]⟩) from by
    have e1 := prs_at (l := l) (i := i) (by omega)
    have e2 := prs_at (l := l) (i := i + 1) (by omega)
    rw [adj] at h
    simp (config := { maxSteps := 1000000 }) (disch := omega) only [go_sem, ↓reduceIte, Nat.reduceEqDiff, reduceCtorEq, d1215_b0, Int.add_sub_cancel, tn1, e1, e2, gc_e, ord_ge, h])
  rcases asc_ix ordrE l with ⟨h, e⟩ | ⟨m, m1, m2, m3, e⟩
  · rw [e]
    by_cases h0 : l = []
    · subst h0
      refine Ev_stop ?_
      simp (config := { maxSteps := 1000000 }) (disch := omega) only [go_sem, ↓reduceIte, Nat.reduceEqDiff, reduceCtorEq, d1215_b0]
    have hp : 0 < l.length := List.length_pos_iff.2 h0
    refine Ev_loop0 (fun i => ⟨[(0, .sl 2 (prs l)), (3, .ref 0 0), (5, .int .i64 ((i : Int) + 1))], [.row false [.clo 1223 [] []]], 0, [(0, 1, [0, 3, 5], [(3, 0)])]⟩) (l.length - 1) (by simp) (fun i hi => hst i hi (h i hi)) ?_
    simp (config := { maxSteps := 1000000 }) (disch := omega) only [go_sem, ↓reduceIte, Nat.reduceEqDiff, reduceCtorEq, d1215_b0]
  · rw [e]
    refine Ev_loop0 (fun i => ⟨[(0, .sl 2 (prs l)), (3, .ref 0 0), (5, .int .i64 ((i : Int) + 1))], [.row false [.clo 1223 [] []]], 0, [(0, 1, [0, 3, 5], [(3, 0)])]⟩) m (by simp) (fun i hi => hst i (by omega) (m2 i hi)) ?_
    have e1 := prs_at (l := l) (i := m) (by omega)
    have e2 := prs_at (l := l) (i := m + 1) (by omega)
    have h : ltE (l.getD m default) (l.getD (m + 1) default) = false := by simpa [adj] using m3
    simp (config := { maxSteps := 1000000 }) (disch := omega) only [go_sem, ↓reduceIte, Nat.reduceEqDiff, reduceCtorEq, d1215_b0, Int.add_sub_cancel, tn1, e1, e2, gc_e, ord_ge, h]
theorem risesS_run {l : List Txt} (hl : l.length ≤ 1000000) : runP tab 1217 [.sl 1 (strs l), .agg [.clo 1224 [] []]] [] = some (.bool (ascB ltS l), []) := by
  refine runP_fn t1217 rfl ?_
  simp (config := { maxSteps := 1000000 }) (disch := omega) only [go_sem, ↓reduceIte, Nat.reduceEqDiff, reduceCtorEq, d1217]
  have hst := fun (i : Nat) (hi : i < l.length - 1) (h : adj ltS l i) => (show Ev tab d1217_b0 ⟨[(0, .sl 1 (strs l)), (3, .ref 0 0), (5, .int .i64 ((i : Int) + 1))], [.row false [.clo 1224 [] []]], 0, [(0, 1, [0, 3, 5], [(3, 0)])]⟩ (fun x st => x = .normal ∧ st = ⟨[(0, .sl 1 (strs l)), (3, .ref 0 0), (5, .int .i64 (((i + 1 : Nat) : Int) + 1))], [.row false [.clo 1224 [] []]], 0, [(0, 1, [0, 3, 5], [(3, 0)])]⟩) from by
    have e1 := strs_rdc (l := l) (i := i) (by omega)
    have e2 := strs_rdc (l := l) (i := i + 1) (by omega)
    rw [adj] at h
    change ltS (l.getD i []) (l.getD (i + 1) []) = true at h
    simp (config := { maxSteps := 1000000 }) (disch := omega) only [go_sem, ↓reduceIte, Nat.reduceEqDiff, reduceCtorEq, d1217_b0, strs_length, Int.add_sub_cancel, tn1, e1, e2, gc_s, cms_ge, h])
  rcases asc_ix ordrS l with ⟨h, e⟩ | ⟨m, m1, m2, m3, e⟩
  · rw [e]
    by_cases h0 : l = []
    · subst h0
      refine Ev_stop ?_
      simp (config := { maxSteps := 1000000 }) (disch := omega) only [go_sem, ↓reduceIte, Nat.reduceEqDiff, reduceCtorEq, d1217_b0, strs_length]
    have hp : 0 < l.length := List.length_pos_iff.2 h0
    refine Ev_loop0 (fun i => ⟨[(0, .sl 1 (strs l)), (3, .ref 0 0), (5, .int .i64 ((i : Int) + 1))], [.row false [.clo 1224 [] []]], 0, [(0, 1, [0, 3, 5], [(3, 0)])]⟩) (l.length - 1) (by simp) (fun i hi => hst i hi (h i hi)) ?_
    simp (config := { maxSteps := 1000000 }) (disch := omega) only [go_sem, ↓reduceIte, Nat.reduceEqDiff, reduceCtorEq, d1217_b0, strs_length]
  · rw [e]
    refine Ev_loop0 (fun i => ⟨[(0, .sl 1 (strs l)), (3, .ref 0 0), (5, .int .i64 ((i : Int) + 1))], [.row false [.clo 1224 [] []]], 0, [(0, 1, [0, 3, 5], [(3, 0)])]⟩) m (by simp) (fun i hi => hst i (by omega) (m2 i hi)) ?_
    have e1 := strs_rdc (l := l) (i := m) (by omega)
    have e2 := strs_rdc (l := l) (i := m + 1) (by omega)
    have h : ltS (l.getD m []) (l.getD (m + 1) []) = false := by
      have h := m3
      simp only [adj] at h
      change ¬ ltS (l.getD m []) (l.getD (m + 1) []) = true at h
      simpa using h
    simp (config := { maxSteps := 1000000 }) (disch := omega) only [go_sem, ↓reduceIte, Nat.reduceEqDiff, reduceCtorEq, d1217_b0, strs_length, Int.add_sub_cancel, tn1, e1, e2, gc_s, cms_ge, h]
open Classical in
noncomputable def wAsc (g : Gr) : Bool := decide (∀ i, i < g.W.length → asc ltS (g.w i))
theorem wAsc_yes {g : Gr} (h : ∀ i, i < g.W.length → asc ltS (g.w i)) : wAsc g = true := by simp only [wAsc, decide_eq_true_eq]; exact h
theorem wAsc_no {g : Gr} (h : ¬ ∀ i, i < g.W.length → asc ltS (g.w i)) : wAsc g = false := by simp only [wAsc, decide_eq_false_iff_not]; exact h
noncomputable def isB (g : Gr) : Bool := okB g && (ascB ltE g.E && wAsc g)
theorem isg_run {g : Gr} (hg : okG g) : runP tab 1208 [.agg (gS g)] [] = some (.bool (isB g), []) := by
  refine runP_fn t1208 rfl ?_
  have gc := gck_run hg
  have he := hg.e
  have hw := hg.w
  have gr := risesE_run (l := g.E) (by omega)
  have b1 := byends_mk
  have b2 := bytext_mk
  simp only [gS] at gc
  unfold isB
  cases c1 : okB g with
  | false =>
    rw [c1] at gc
    rw [Bool.false_and]
    simp (config := { maxSteps := 1000000 }) (disch := omega) only [go_sem, ↓reduceIte, Nat.reduceEqDiff, Nat.reduceAdd, d1208, gS, gc]
  | true =>
    rw [c1] at gc
    rw [Bool.true_and]
    cases c2 : ascB ltE g.E with
    | false =>
      rw [c2] at gr
      rw [Bool.false_and]
      simp (config := { maxSteps := 1000000 }) (disch := omega) only [go_sem, ↓reduceIte, Nat.reduceEqDiff, Nat.reduceAdd, d1208, gS, gc, gr, b1]
    | true =>
      rw [c2] at gr
      rw [Bool.true_and]
      simp (config := { maxSteps := 1000000 }) (disch := omega) only [go_sem, ↓reduceIte, Nat.reduceEqDiff, Nat.reduceAdd, d1208, gS, gc, gr, b1]
      have hst := fun (i : Nat) (hi : i < g.W.length) (h : asc ltS (g.w i)) => (show Ev tab d1208_b0 ⟨[(16, .sl 1 (wcs g.W)), (17, .int .i64 g.W.length), (18, .int .i64 (i : Int))], [.row false [.int .i64 g.n, .sl 2 (prs g.E), .sl 1 (wcs g.W)]], 0, [(0, 1, [16, 17, 18], [])]⟩ (fun x st => x = .normal ∧ st = ⟨[(16, .sl 1 (wcs g.W)), (17, .int .i64 g.W.length), (18, .int .i64 ((i + 1 : Nat) : Int))], [.row false [.int .i64 g.n, .sl 2 (prs g.E), .sl 1 (wcs g.W)]], 0, [(0, 1, [16, 17, 18], [])]⟩) from by
        have e := wcs_at hi
        have gs := risesS_run (l := g.w i) (by have := hg.r i hi; omega)
        rw [ascB_iff.2 h] at gs
        have ew : g.w i = (g.W.getD i none).getD [] := rfl
        rw [ew] at gs
        cases hx : g.W.getD i none with
        | none =>
          rw [hx] at e gs
          simp only [Option.getD_none, strs, List.map_nil] at gs
          simp (config := { maxSteps := 1000000 }) (disch := omega) only [go_sem, ↓reduceIte, Nat.reduceEqDiff, d1208_b0, e, wc, b2, gs]
        | some l =>
          rw [hx] at e gs
          simp only [Option.getD_some] at gs
          simp (config := { maxSteps := 1000000 }) (disch := omega) only [go_sem, ↓reduceIte, Nat.reduceEqDiff, d1208_b0, e, wc, b2, gs, strs_noid'])
      rcases first_ix' (fun i => asc ltS (g.w i)) g.W.length with h | ⟨m, m1, m2, m3⟩
      · rw [wAsc_yes h]
        refine Ev_loop0 (fun i => ⟨[(16, .sl 1 (wcs g.W)), (17, .int .i64 g.W.length), (18, .int .i64 (i : Int))], [.row false [.int .i64 g.n, .sl 2 (prs g.E), .sl 1 (wcs g.W)]], 0, [(0, 1, [16, 17, 18], [])]⟩) g.W.length (by simp) (fun i hi => hst i hi (h i hi)) ?_
        simp (config := { maxSteps := 1000000 }) (disch := omega) only [go_sem, ↓reduceIte, Nat.reduceEqDiff, reduceCtorEq, d1208_b0]
      · rw [wAsc_no fun h => m3 (h m m1)]
        refine Ev_loop0 (fun i => ⟨[(16, .sl 1 (wcs g.W)), (17, .int .i64 g.W.length), (18, .int .i64 (i : Int))], [.row false [.int .i64 g.n, .sl 2 (prs g.E), .sl 1 (wcs g.W)]], 0, [(0, 1, [16, 17, 18], [])]⟩) m (by simp) (fun i hi => hst i (by omega) (m2 i hi)) ?_
        have e := wcs_at m1
        have gs := risesS_run (l := g.w m) (by have := hg.r m m1; omega)
        rw [show ascB ltS (g.w m) = false by simp only [ascB, decide_eq_false_iff_not]; exact m3] at gs
        have ew : g.w m = (g.W.getD m none).getD [] := rfl
        rw [ew] at gs m3
        cases hx : g.W.getD m none with
        | none => rw [hx] at m3; exact absurd .nil m3
        | some l =>
          rw [hx] at e gs
          simp only [Option.getD_some] at gs
          simp (config := { maxSteps := 1000000 }) (disch := omega) only [go_sem, ↓reduceIte, Nat.reduceEqDiff, reduceCtorEq, d1208_b0, e, wc, b2, gs, strs_noid']
theorem strs_app (a b : List Txt) : strs a ++ strs b = strs (a ++ b) := by simp [strs]
theorem strs_snoc (l : List Txt) (s : Txt) : strs l ++ [.str s] = strs (l ++ [s]) := by simp [strs]
end Go.Proofs.Ytmckpijdjoifoaa
