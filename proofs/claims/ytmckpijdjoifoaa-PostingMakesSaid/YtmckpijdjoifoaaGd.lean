/- Graphs: their rows; which are too big. -/
import Derived.Test.YtmckpijdjoifoaaGc
import Derived.Test.YtmckpijdjoifoaaIb
import Derived.Test.YtmckpijdjoifoaaHx
set_option linter.unusedSimpArgs false
set_option linter.unusedVariables false
namespace Go.Proofs.Ytmckpijdjoifoaa
set_option maxHeartbeats 4000000
set_option maxRecDepth 100000
def badR (l : List Txt) : Bool := decide (20 < l.length) || l.any fun s => decide (50 < s.length)
def bigB (g : Gr) : Bool := (decide (g.W.length ≤ 250) && (List.range g.W.length).any fun i => badR (g.w i)) || decide (250 < g.W.length ∨ (60 < g.E.length ∧ g.E.length ≤ 2000) ∨ 2100 < g.E.length)
structure gFit (g : Gr) : Prop where
  n : I64 g.n
  e : g.E.length ≤ 9223372036854775807
  w : g.W.length ≤ 9223372036854775807
  r : ∀ i, (g.w i).length ≤ 9223372036854775807
theorem bigB_ok {g : Gr} (h : gFit g) (hb : bigB g = false) : okG g := by
  simp only [bigB, Bool.or_eq_false_iff, decide_eq_false_iff_not] at hb
  obtain ⟨h1, h2⟩ := hb
  have hw : g.W.length ≤ 250 := by omega
  rw [decide_eq_true hw, Bool.true_and, List.any_eq_false] at h1
  have h3 : ∀ i, i < g.W.length → badR (g.w i) = false := fun i hi => by simpa using h1 i (by simpa using hi)
  refine ⟨h.n, by omega, hw, fun i hi => ?_, fun i hi s hs => ?_⟩
  · have := h3 i hi
    simp only [badR, Bool.or_eq_false_iff, decide_eq_false_iff_not] at this
    omega
  · have := h3 i hi
    simp only [badR, Bool.or_eq_false_iff, List.any_eq_false, decide_eq_true_eq] at this
    have := this.2 s hs
    omega
def bgS (g : Gr) (i : Nat) : St := ⟨[(1, .ref 0 0), (3, .int .i64 (i : Int))], [.row false [.int .i64 g.n, .sl 2 (prs g.E), .sl 1 (wcs g.W)]], 0, [(0, 1, [1, 3], [(1, 0)])]⟩
def bgI (g : Gr) (i k : Nat) : St := ⟨[(1, .ref 0 0), (3, .int .i64 (i : Int)), (4, .int .i64 (k : Int))], [.row false [.int .i64 g.n, .sl 2 (prs g.E), .sl 1 (wcs g.W)]], 0, [(1, 1, [1, 3, 4], [(1, 0)]), (0, 1, [1, 3], [(1, 0)])]⟩
theorem bg_row {g : Gr} (hg : gFit g) {i : Nat} (hw : g.W.length ≤ 250) (hi : i < g.W.length) (hr : badR (g.w i) = false) : Ev tab d1263_b0 (bgS g i) (fun x st => x = .normal ∧ st = bgS g (i + 1)) := by
  have e := wcs_at hi
  have ew : g.w i = (g.W.getD i none).getD [] := rfl
  rw [ew] at hr
  simp (config := { maxSteps := 1000000 }) (disch := omega) only [go_sem, ↓reduceIte, Nat.reduceEqDiff, Nat.reduceAdd, d1263_b0, bgS]
  cases hx : g.W.getD i none with
  | none =>
    rw [hx] at e
    refine Ev_loop0 (bgI g i) 0 (by simp [bgI]) (fun k hk => absurd hk (Nat.not_lt_zero _)) ?_
    simp (config := { maxSteps := 1000000 }) (disch := omega) only [go_sem, ↓reduceIte, Nat.reduceEqDiff, Nat.reduceAdd, reduceCtorEq, d1263_b1, bgI, e, wc]
  | some l =>
    rw [hx] at e hr
    simp only [Option.getD_some, badR, Bool.or_eq_false_iff, decide_eq_false_iff_not, List.any_eq_false, decide_eq_true_eq] at hr
    obtain ⟨r1, r2⟩ := hr
    refine Ev_loop0 (bgI g i) l.length (by simp [bgI]) (fun k hk => ?_) ?_
    · have e2 := strs_rdc hk
      have := r2 _ (getD_mem (d := []) hk)
      simp (config := { maxSteps := 1000000 }) (disch := omega) only [go_sem, ↓reduceIte, Nat.reduceEqDiff, Nat.reduceAdd, d1263_b1, bgI, e, wc, strs_length, e2]
    · simp (config := { maxSteps := 1000000 }) (disch := omega) only [go_sem, ↓reduceIte, Nat.reduceEqDiff, Nat.reduceAdd, reduceCtorEq, d1263_b1, bgI, e, wc, strs_length]
theorem bigG_run {g : Gr} (hg : gFit g) : runP tab 1263 [.agg (gS g)] [] = some (.bool (bigB g), []) := by
  refine runP_fn t1263 rfl ?_
  have he := hg.e
  have hw0 := hg.w
  simp (config := { maxSteps := 1000000 }) (disch := omega) only [go_sem, ↓reduceIte, Nat.reduceEqDiff, Nat.reduceAdd, d1263, gS]
  by_cases hw : g.W.length ≤ 250
  · rcases first_ix' (fun i => badR (g.w i) = false) g.W.length with h | ⟨m, m1, m2, m3⟩
    · refine Ev_loop0 (bgS g) g.W.length (by simp [bgS]) (fun i hi => bg_row hg hw hi (h i hi)) ?_
      have e : bigB g = decide ((60 < g.E.length ∧ g.E.length ≤ 2000) ∨ 2100 < g.E.length) := by
        unfold bigB
        rw [show ((List.range g.W.length).any fun i => badR (g.w i)) = false by rw [List.any_eq_false]; intro i hi; simpa using h i (by simpa using hi)]
        rw [Bool.and_false, Bool.false_or]; congr 1; exact propext (by omega)
      rw [e]
      by_cases a : 60 < g.E.length <;> by_cases b : g.E.length ≤ 2000 <;> by_cases c : 2100 < g.E.length <;>
        first
        | (exfalso; omega)
        | (rw [decide_eq_true (by omega)]; simp (config := { maxSteps := 1000000 }) (disch := omega) only [go_sem, ↓reduceIte, Nat.reduceEqDiff, Nat.reduceAdd, reduceCtorEq, Nat.reduceLeDiff, d1263_b0, bgS])
        | (rw [decide_eq_false (by omega)]; simp (config := { maxSteps := 1000000 }) (disch := omega) only [go_sem, ↓reduceIte, Nat.reduceEqDiff, Nat.reduceAdd, reduceCtorEq, Nat.reduceLeDiff, d1263_b0, bgS])
    · have e : bigB g = true := by
        unfold bigB
        rw [decide_eq_true hw, Bool.true_and, show ((List.range g.W.length).any fun i => badR (g.w i)) = true by rw [List.any_eq_true]; exact ⟨m, by simpa using m1, by simpa using m3⟩, Bool.true_or]
      rw [e]
      refine Ev_loop0 (bgS g) m (by simp [bgS]) (fun i hi => bg_row hg hw (by omega) (m2 i hi)) ?_
      have e := wcs_at m1
      have ew : g.w m = (g.W.getD m none).getD [] := rfl
      have hl := hg.r m
      rw [ew] at m3 hl
      simp (config := { maxSteps := 1000000 }) (disch := omega) only [go_sem, ↓reduceIte, Nat.reduceEqDiff, Nat.reduceAdd, d1263_b0, bgS]
      cases hx : g.W.getD m none with
      | none => rw [hx] at m3; exact absurd rfl m3
      | some l =>
        rw [hx] at e m3 hl
        simp only [Option.getD_some] at m3 hl
        by_cases h20 : 20 < l.length
        · refine Ev_loop0 (bgI g m) 0 (by simp [bgI]) (fun k hk => absurd hk (Nat.not_lt_zero _)) ?_
          simp (config := { maxSteps := 1000000 }) (disch := omega) only [go_sem, ↓reduceIte, Nat.reduceEqDiff, Nat.reduceAdd, reduceCtorEq, Nat.reduceLeDiff, d1263_b1, bgI, e, wc, strs_length]
        · rcases first_ix' (fun k => ¬ 50 < (l.getD k []).length) l.length with h | ⟨k, k1, k2, k3⟩
          · exact absurd (by
              simp only [badR, Bool.or_eq_false_iff, decide_eq_false_iff_not, List.any_eq_false, decide_eq_true_eq]
              refine ⟨h20, fun s hs => ?_⟩
              obtain ⟨k, hk, rfl⟩ := mem_getD (d := []) hs
              exact h k hk) m3
          · have k3 : 50 < (l.getD k []).length := Classical.not_not.1 k3
            refine Ev_loop0 (bgI g m) k (by simp [bgI]) (fun k' hk => ?_) ?_
            · have e2 := strs_rdc (l := l) (i := k') (by omega)
              have := k2 k' hk
              simp (config := { maxSteps := 1000000 }) (disch := omega) only [go_sem, ↓reduceIte, Nat.reduceEqDiff, Nat.reduceAdd, d1263_b1, bgI, e, wc, strs_length, e2]
            · have e2 := strs_rdc k1
              simp (config := { maxSteps := 1000000 }) (disch := omega) only [go_sem, ↓reduceIte, Nat.reduceEqDiff, Nat.reduceAdd, reduceCtorEq, Nat.reduceLeDiff, d1263_b1, bgI, e, wc, strs_length, e2]
  · have e : bigB g = true := by
      unfold bigB
      rw [decide_eq_true (p := 250 < g.W.length ∨ (60 < g.E.length ∧ g.E.length ≤ 2000) ∨ 2100 < g.E.length) (by omega), Bool.or_true]
    rw [e]
    refine Ev_loop0 (bgS g) 0 (by simp [bgS]) (fun k hk => absurd hk (Nat.not_lt_zero _)) ?_
    simp (config := { maxSteps := 1000000 }) (disch := omega) only [go_sem, ↓reduceIte, Nat.reduceEqDiff, Nat.reduceAdd, reduceCtorEq, d1263_b0, bgS]
def grTy : List Ty := [.int .i64, .sl 2 [.int .i64, .int .i64], .sl 1 [.sl 1 [.str]]]
theorem fit_eds {v : AV} (h : Fit (.sl 2 [.int .i64, .int .i64]) v) : ∃ l : List Ed, v = .sl 2 (prs l) ∧ l.length ≤ 9223372036854775807 := by
  obtain ⟨rows, rfl, hl, hr⟩ := h
  have : ∃ l : List Ed, rows.flatten = prs l ∧ l.length = rows.length := by
    clear hl
    induction rows with
    | nil => exact ⟨[], rfl, rfl⟩
    | cons r rows ih =>
      obtain ⟨l, h1, h2⟩ := ih (fun r hr' => hr r (by simp [hr']))
      have h4 := hr r (by simp)
      simp only [FitL] at h4
      obtain ⟨v, us, rfl, h5, v2, us2, rfl, h6, rfl⟩ := h4
      obtain ⟨a, rfl, _⟩ := fit_int h5
      obtain ⟨b, rfl, _⟩ := fit_int h6
      exact ⟨(a, b) :: l, by simp [h1, prs_cons], by simp [h2]⟩
  obtain ⟨l, h1, h2⟩ := this
  exact ⟨l, by rw [h1], by rw [h2]; unfold maxLen at hl; omega⟩
theorem fit_wds {v : AV} (h : Fit (.sl 1 [.sl 1 [.str]]) v) : ∃ W : Wds, v = .sl 1 (wcs W) ∧ W.length ≤ 9223372036854775807 ∧ ∀ x ∈ W, ∃ l, x = some l ∧ l.length ≤ 9223372036854775807 := by
  obtain ⟨rows, rfl, hl, hr⟩ := h
  have : ∃ W : Wds, rows.flatten = wcs W ∧ W.length = rows.length ∧ ∀ x ∈ W, ∃ l, x = some l ∧ l.length ≤ 9223372036854775807 := by
    clear hl
    induction rows with
    | nil => exact ⟨[], rfl, rfl, by simp⟩
    | cons r rows ih =>
      obtain ⟨W, h1, h2, h3⟩ := ih (fun r hr' => hr r (by simp [hr']))
      have h4 := hr r (by simp)
      simp only [FitL] at h4
      obtain ⟨v, us, rfl, h5, rfl⟩ := h4
      obtain ⟨l, rfl, hl, _⟩ := fit_strs h5
      refine ⟨some l :: W, by simp [h1, wcs, wc], by simp [h2], fun x hx => ?_⟩
      rcases List.mem_cons.1 hx with rfl | hx
      · exact ⟨l, rfl, hl⟩
      · exact h3 x hx
  obtain ⟨W, h1, h2, h3⟩ := this
  exact ⟨W, by rw [h1], by rw [h2]; unfold maxLen at hl; omega, h3⟩
theorem fit_gr {vs : List AV} (h : FitL grTy vs) : ∃ g : Gr, vs = gS g ∧ gFit g ∧ ∀ x ∈ g.W, ∃ l, x = some l := by
  unfold grTy at h
  rw [FitL] at h
  obtain ⟨v1, us, rfl, h1, h⟩ := h
  rw [FitL] at h
  obtain ⟨v2, us, rfl, h2, h⟩ := h
  rw [FitL] at h
  obtain ⟨v3, us, rfl, h3, h⟩ := h
  rw [FitL] at h
  subst h
  obtain ⟨n, rfl, hn⟩ := fit_int h1
  obtain ⟨E, rfl, he⟩ := fit_eds h2
  obtain ⟨W, rfl, hw, hx⟩ := fit_wds h3
  refine ⟨⟨n, E, W⟩, rfl, ⟨hn, he, hw, fun i => ?_⟩, fun x hm => by obtain ⟨l, h, _⟩ := hx x hm; exact ⟨l, h⟩⟩
  show ((W.getD i none).getD []).length ≤ _
  by_cases hi : i < W.length
  · obtain ⟨l, h, hl⟩ := hx _ (getD_mem (d := none) hi)
    rw [h]; exact hl
  · rw [List.getD_eq_getElem?_getD, List.getElem?_eq_none (by omega)]; simp
end Go.Proofs.Ytmckpijdjoifoaa
