/-
  Rows: what they tell.
-/
import Derived.Test.YtmeakgiojhoofaaHt
namespace Go.Proofs.Ytmeakgiojhoofaa
set_option linter.unusedSimpArgs false
set_option linter.unusedVariables false
set_option maxHeartbeats 4000000
set_option maxRecDepth 100000

/-- No row is longer than what is looked at. -/
structure okR (r : Rw) : Prop where
  a : r.off.length ≤ 2100
  b : r.to.length ≤ 2100
  c : r.roff.length ≤ 2100
  d : r.rev.length ≤ 2100
theorem okR.check {r : Rw} (h : okR r) : runP tab 1188 [.agg (rwS r)] [] = some (.bool (chk r), []) := check_run (by have := h.a; omega) (by have := h.b; omega) (by have := h.c; omega) (by have := h.d; omega)
theorem chk_iff {r : Rw} : chk r = true ↔ r.ok := by simp [chk]

/-- What is told of a place. -/
noncomputable def told1 (r : Rw) (off to : List Int) (v : Int) : AV := if chk r = true ∧ 0 ≤ v ∧ v < off.length - 1 then .tup [.vec 1 (ints (rowI off to v.toNat)), .bool true] else .tup [.vec 1 [], .bool false]

theorem row_run {r : Rw} {off to : List Int} {v : Int} (hr : okR r) (ho : off.length ≤ 2100) (ht : to.length ≤ 2100) (hf : chk r = true → half off to) (hv : I64 v) : runP tab 1201 [.agg (rwS r), .sl 1 (ints off), .sl 1 (ints to), .int .i64 v] [] = some (told1 r off to v, []) := by
  refine runP_fn t1201 rfl ?_
  have gc := hr.check
  have gp := places_run (n := (off.length : Int) - 1) (l := [v]) (by simp)
  simp only [ints, List.map_cons, List.map_nil] at gp
  simp only [rwS] at gc
  unfold told1
  cases hc : chk r with
  | false =>
    rw [hc] at gc
    rw [if_neg (by simp)]
    simp (config := { maxSteps := 1000000 }) (disch := omega) only [go_sem, ↓reduceIte, Nat.reduceEqDiff, Nat.reduceAdd, Int.reduceToNat, reduceCtorEq, Nat.reduceLeDiff, Nat.reduceSub, Nat.reduceDiv, Nat.reduceMod, Nat.reduceMul, d1201, rwS, gc]
  | true =>
    rw [hc] at gc
    have H := (hf hc).lay
    by_cases h : 0 ≤ v ∧ v < off.length - 1
    · rw [if_pos ⟨rfl, h⟩]
      rw [show allPl ((off.length : Int) - 1) [v] = true by simp [allPl]; omega] at gp
      obtain ⟨w, rfl⟩ : ∃ w : Nat, v = w := ⟨v.toNat, by omega⟩
      have a1 := H.gn (v := w) (by omega)
      have a2 := H.gn (v := w + 1) (by omega)
      have a3 := H.om (v := w) (by omega)
      have a4 := H.ole (v := w + 1) (by omega)
      have h3 := H.tl
      simp only [gi] at a1 a2
      have q2 : ((w : Int) + 1).toNat = w + 1 := by omega
      have gl := clonei_run (l := List.take (oi off (w + 1) - oi off w) (List.drop (oi off w) to)) (by rw [List.length_take, List.length_drop]; omega)
      rw [Int.toNat_natCast, rowI]
      simp (config := { maxSteps := 1000000 }) (disch := omega) only [go_sem, ↓reduceIte, Nat.reduceEqDiff, Nat.reduceAdd, Int.reduceToNat, reduceCtorEq, Nat.reduceLeDiff, Nat.reduceSub, Nat.reduceDiv, Nat.reduceMod, Nat.reduceMul, d1201, rwS, gc, gp, a1, a2, q2, gl]
    · rw [if_neg (by simp; omega)]
      rw [show allPl ((off.length : Int) - 1) [v] = false by simp [allPl]; omega] at gp
      simp (config := { maxSteps := 1000000 }) (disch := omega) only [go_sem, ↓reduceIte, Nat.reduceEqDiff, Nat.reduceAdd, Int.reduceToNat, reduceCtorEq, Nat.reduceLeDiff, Nat.reduceSub, Nat.reduceDiv, Nat.reduceMod, Nat.reduceMul, d1201, rwS, gc, gp]

theorem out_run {r : Rw} {v : Int} (hr : okR r) (hv : I64 v) : runP tab 1189 [.agg (rwS r), .int .i64 v] [] = some (told1 r r.off r.to v, []) := by
  refine runP_fn t1189 rfl ?_
  have g := row_run hr hr.a hr.b (fun h => (chk_iff.1 h).f) hv
  unfold told1 at g ⊢
  by_cases h : chk r = true ∧ 0 ≤ v ∧ v < (r.off.length : Int) - 1
  · rw [if_pos h] at g ⊢
    simp only [rwS] at g
    simp (config := { maxSteps := 1000000 }) (disch := omega) only [go_sem, ↓reduceIte, Nat.reduceEqDiff, Nat.reduceAdd, Int.reduceToNat, reduceCtorEq, Nat.reduceLeDiff, Nat.reduceSub, Nat.reduceDiv, Nat.reduceMod, Nat.reduceMul, d1189, rwS, g]
  · rw [if_neg h] at g ⊢
    simp only [rwS] at g
    simp (config := { maxSteps := 1000000 }) (disch := omega) only [go_sem, ↓reduceIte, Nat.reduceEqDiff, Nat.reduceAdd, Int.reduceToNat, reduceCtorEq, Nat.reduceLeDiff, Nat.reduceSub, Nat.reduceDiv, Nat.reduceMod, Nat.reduceMul, d1189, rwS, g]
theorem in_run {r : Rw} {v : Int} (hr : okR r) (hv : I64 v) : runP tab 1190 [.agg (rwS r), .int .i64 v] [] = some (told1 r r.roff r.rev v, []) := by
  refine runP_fn t1190 rfl ?_
  have g := row_run hr hr.c hr.d (fun h => (chk_iff.1 h).b) hv
  unfold told1 at g ⊢
  by_cases h : chk r = true ∧ 0 ≤ v ∧ v < (r.roff.length : Int) - 1
  · rw [if_pos h] at g ⊢
    simp only [rwS] at g
    simp (config := { maxSteps := 1000000 }) (disch := omega) only [go_sem, ↓reduceIte, Nat.reduceEqDiff, Nat.reduceAdd, Int.reduceToNat, reduceCtorEq, Nat.reduceLeDiff, Nat.reduceSub, Nat.reduceDiv, Nat.reduceMod, Nat.reduceMul, d1190, rwS, g]
  · rw [if_neg h] at g ⊢
    simp only [rwS] at g
    simp (config := { maxSteps := 1000000 }) (disch := omega) only [go_sem, ↓reduceIte, Nat.reduceEqDiff, Nat.reduceAdd, Int.reduceToNat, reduceCtorEq, Nat.reduceLeDiff, Nat.reduceSub, Nat.reduceDiv, Nat.reduceMod, Nat.reduceMul, d1190, rwS, g]

/-- Does a way lead from v to w? -/
noncomputable def way (r : Rw) (v w : Int) : Bool := chk r && (decide (0 ≤ v ∧ v < (r.off.length : Int) - 1) && decide (w ∈ rowI r.off r.to v.toNat))
theorem has_run {r : Rw} {v w : Int} (hr : okR r) (hv : I64 v) (hw : I64 w) : runP tab 1332 [.agg (rwS r), .int .i64 v, .int .i64 w] [] = some (.bool (way r v w), []) := by
  refine runP_fn t1332 rfl ?_
  have gc := hr.check
  have gp := places_run (n := (r.off.length : Int) - 1) (l := [v, w]) (by simp)
  simp only [ints, List.map_cons, List.map_nil] at gp
  simp only [rwS] at gc
  have ho := hr.a
  have ht := hr.b
  unfold way
  cases hc : chk r with
  | false =>
    rw [hc] at gc
    rw [Bool.false_and]
    simp (config := { maxSteps := 1000000 }) (disch := omega) only [go_sem, ↓reduceIte, Nat.reduceEqDiff, Nat.reduceAdd, Int.reduceToNat, reduceCtorEq, Nat.reduceLeDiff, Nat.reduceSub, Nat.reduceDiv, Nat.reduceMod, Nat.reduceMul, d1332, rwS, gc]
  | true =>
    rw [hc] at gc
    have H := (chk_iff.1 hc).f.lay
    by_cases h : 0 ≤ v ∧ v < (r.off.length : Int) - 1
    · rw [decide_eq_true h]
      obtain ⟨u, rfl⟩ : ∃ u : Nat, v = u := ⟨v.toNat, by omega⟩
      by_cases h2 : 0 ≤ w ∧ w < (r.off.length : Int) - 1
      · rw [show allPl ((r.off.length : Int) - 1) [(u : Int), w] = true by simp [allPl]; omega] at gp
        have a1 := H.gn (v := u) (by omega)
        have a2 := H.gn (v := u + 1) (by omega)
        have a3 := H.om (v := u) (by omega)
        have a4 := H.ole (v := u + 1) (by omega)
        have h3 := H.tl
        simp only [gi] at a1 a2
        have q2 : ((u : Int) + 1).toNat = u + 1 := by omega
        have gl := contains_run (l := List.take (oi r.off (u + 1) - oi r.off u) (List.drop (oi r.off u) r.to)) (x := w) (by rw [List.length_take, List.length_drop]; omega)
        rw [Int.toNat_natCast, rowI]
        simp (config := { maxSteps := 1000000 }) (disch := omega) only [go_sem, ↓reduceIte, Nat.reduceEqDiff, Nat.reduceAdd, Int.reduceToNat, reduceCtorEq, Nat.reduceLeDiff, Nat.reduceSub, Nat.reduceDiv, Nat.reduceMod, Nat.reduceMul, d1332, rwS, gc, gp, a1, a2, q2, gl]
      · rw [show allPl ((r.off.length : Int) - 1) [(u : Int), w] = false by simp [allPl]; omega] at gp
        rw [decide_eq_false (fun hm => h2 (by have := (chk_iff.1 hc).f.row_pl (v := (u : Int).toNat) (by omega) hm; omega))]
        simp (config := { maxSteps := 1000000 }) (disch := omega) only [go_sem, ↓reduceIte, Nat.reduceEqDiff, Nat.reduceAdd, Int.reduceToNat, reduceCtorEq, Nat.reduceLeDiff, Nat.reduceSub, Nat.reduceDiv, Nat.reduceMod, Nat.reduceMul, d1332, rwS, gc, gp]
    · rw [decide_eq_false h, Bool.false_and]
      rw [show allPl ((r.off.length : Int) - 1) [v, w] = false by simp [allPl]; omega] at gp
      simp (config := { maxSteps := 1000000 }) (disch := omega) only [go_sem, ↓reduceIte, Nat.reduceEqDiff, Nat.reduceAdd, Int.reduceToNat, reduceCtorEq, Nat.reduceLeDiff, Nat.reduceSub, Nat.reduceDiv, Nat.reduceMod, Nat.reduceMul, d1332, rwS, gc, gp]

/-- Does a number stand in what a row's first i are? -/
def seenI (l : List Int) (n : Int) (i : Nat) : Bool := decide (n ∈ l.take i)
theorem seenI_succ {l : List Int} {n : Int} {i : Nat} (h : i < l.length) : seenI l n (i + 1) = (seenI l n i || decide (l.getD i 0 = n)) := by
  simp only [seenI]
  rw [take_snoc 0 h, show decide (l.getD i 0 = n) = decide (n = l.getD i 0) from by congr 1; exact propext eq_comm]
  simp only [List.mem_append, List.mem_singleton, Bool.decide_or]
theorem lhas_run {l : List Int} {n : Int} (hl : l.length ≤ 1000000) (hp : l.Pairwise (· < ·)) : runP tab 1334 [.sl 1 (ints l), .int .i64 n] [] = some (.bool (decide (n ∈ l)), []) := by
  refine runP_fn t1334 rfl ?_
  simp (config := { maxSteps := 1000000 }) (disch := omega) only [go_sem, ↓reduceIte, Nat.reduceEqDiff, Nat.reduceAdd, Int.reduceToNat, reduceCtorEq, Nat.reduceLeDiff, Nat.reduceSub, Nat.reduceDiv, Nat.reduceMod, Nat.reduceMul, d1334]
  refine Ev_loop0 (fun i => ⟨[(0, .sl 1 (ints l)), (1, .int .i64 n), (5, .bool (seenI l n i)), (6, .int .i64 (i : Int))], [], 0, [(0, 0, [0, 1, 5, 6], [])]⟩) l.length (by simp [seenI]) (fun i hi => ?_) ?_
  · have e := seenI_succ (n := n) hi
    by_cases h0 : i = 0
    · subst h0
      have e0 : rdc (ints l) none = some (.int .i64 (l.getD 0 0)) := by
        have := ints_rdc0 (l := l) (i := 0) hi
        rw [List.drop_zero] at this
        exact this
      cases hs : seenI l n 0 <;> by_cases h2 : l.getD 0 0 = n <;> simp only [hs, h2, decide_true, decide_false, Bool.or_true, Bool.or_false] at e <;> simp (config := { maxSteps := 1000000 }) (disch := omega) only [go_sem, ↓reduceIte, Nat.reduceEqDiff, Nat.reduceAdd, Int.reduceToNat, reduceCtorEq, Nat.reduceLeDiff, Nat.reduceSub, Nat.reduceDiv, Nat.reduceMod, Nat.reduceMul, d1334_b0, hs, e, h2, e0]
    · have hlt := inc_at hp (i := i - 1) (j := i) (by omega) hi
      have q : (i : Int) - 1 = ((i - 1 : Nat) : Int) := by omega
      cases hs : seenI l n i <;> by_cases h2 : l.getD i 0 = n <;> simp only [hs, h2, decide_true, decide_false, Bool.or_true, Bool.or_false] at e <;> simp (config := { maxSteps := 1000000 }) (disch := omega) only [go_sem, ↓reduceIte, Nat.reduceEqDiff, Nat.reduceAdd, Int.reduceToNat, reduceCtorEq, Nat.reduceLeDiff, Nat.reduceSub, Nat.reduceDiv, Nat.reduceMod, Nat.reduceMul, d1334_b0, hs, e, h2, q]
  · have e : seenI l n l.length = decide (n ∈ l) := by simp [seenI]
    simp (config := { maxSteps := 1000000 }) (disch := omega) only [go_sem, ↓reduceIte, Nat.reduceEqDiff, Nat.reduceAdd, Int.reduceToNat, reduceCtorEq, Nat.reduceLeDiff, Nat.reduceSub, Nat.reduceDiv, Nat.reduceMod, Nat.reduceMul, d1334_b0, e]

def bigR (r : Rw) : Bool := decide ((30 < r.off.length ∧ r.off.length ≤ 201) ∨ 250 < r.off.length ∨ 250 < r.roff.length ∨ (150 < r.to.length ∧ r.to.length ≤ 2000) ∨ 2100 < r.to.length ∨ 2100 < r.rev.length)
def rwFit (r : Rw) : Prop := r.off.length ≤ 9223372036854775807 ∧ r.to.length ≤ 9223372036854775807 ∧ r.roff.length ≤ 9223372036854775807 ∧ r.rev.length ≤ 9223372036854775807
theorem bigR_ok {r : Rw} (h : bigR r = false) : okR r := by
  simp only [bigR, decide_eq_false_iff_not] at h
  exact ⟨by omega, by omega, by omega, by omega⟩
theorem bigR_run {r : Rw} (h : rwFit r) : runP tab 1175 [.agg (rwS r)] [] = some (.bool (bigR r), []) := by
  refine runP_fn t1175 rfl ?_
  obtain ⟨h1, h2, h3, h4⟩ := h
  unfold bigR
  by_cases a : 30 < r.off.length <;> by_cases b : r.off.length ≤ 201 <;> by_cases c : 250 < r.off.length <;> by_cases d : 250 < r.roff.length <;> by_cases e : 150 < r.to.length <;> by_cases f : r.to.length ≤ 2000 <;> by_cases g : 2100 < r.to.length <;> by_cases k : 2100 < r.rev.length <;>
    first
    | (exfalso; omega)
    | (rw [decide_eq_true (by omega)]; simp (config := { maxSteps := 1000000 }) (disch := omega) only [go_sem, ↓reduceIte, Nat.reduceEqDiff, Nat.reduceAdd, Int.reduceToNat, reduceCtorEq, Nat.reduceLeDiff, Nat.reduceSub, Nat.reduceDiv, Nat.reduceMod, Nat.reduceMul, d1175, rwS])
    | (rw [decide_eq_false (by omega)]; simp (config := { maxSteps := 1000000 }) (disch := omega) only [go_sem, ↓reduceIte, Nat.reduceEqDiff, Nat.reduceAdd, Int.reduceToNat, reduceCtorEq, Nat.reduceLeDiff, Nat.reduceSub, Nat.reduceDiv, Nat.reduceMod, Nat.reduceMul, d1175, rwS])

end Go.Proofs.Ytmeakgiojhoofaa
