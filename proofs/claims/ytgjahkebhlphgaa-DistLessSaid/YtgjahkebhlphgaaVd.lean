/- Places, ways, and what lies beyond a front. -/
import Derived.Test.YtgjahkebhlphgaaVc
import Derived.Test.YtgjahkebhlphgaaHy
namespace Go.Proofs.Ytgjahkebhlphgaa
set_option linter.unusedSimpArgs false
set_option linter.unusedVariables false
set_option maxHeartbeats 4000000
set_option maxRecDepth 100000
theorem many_run {r : Rw} (hr : okR r) : runP tab 1192 [.agg (rwS r)] [] = some (.int .i64 ((r.off.length : Int) - 1), []) := by
  refine runP_fn t1192 rfl ?_
  have h1 := hr.a
  simp (config := { maxSteps := 1000000 }) (disch := omega) only [go_sem, ↓reduceIte, Nat.reduceEqDiff, Nat.reduceAdd, Int.reduceToNat, reduceCtorEq, Nat.reduceLeDiff, Nat.reduceSub, Nat.reduceDiv, Nat.reduceMod, Nat.reduceMul, d1192, rwS]
theorem phas_run {r : Rw} {v : Int} (hr : okR r) : runP tab 1369 [.agg (rwS r), .int .i64 v] [] = some (.bool (decide (0 ≤ v ∧ v < (r.off.length : Int) - 1)), []) := by
  refine runP_fn t1369 rfl ?_
  have g := many_run hr
  simp only [rwS] at g
  by_cases h0 : 0 ≤ v
  · simp (config := { maxSteps := 1000000 }) (disch := omega) only [go_sem, ↓reduceIte, Nat.reduceEqDiff, Nat.reduceAdd, Int.reduceToNat, reduceCtorEq, Nat.reduceLeDiff, Nat.reduceSub, Nat.reduceDiv, Nat.reduceMod, Nat.reduceMul, d1369, rwS, g, h0]
  · have e : decide (0 ≤ v ∧ v < (r.off.length : Int) - 1) = false := by simp; omega
    rw [e]
    simp (config := { maxSteps := 1000000 }) (disch := omega) only [go_sem, ↓reduceIte, Nat.reduceEqDiff, Nat.reduceAdd, Int.reduceToNat, reduceCtorEq, Nat.reduceLeDiff, Nat.reduceSub, Nat.reduceDiv, Nat.reduceMod, Nat.reduceMul, d1369, rwS, g]
noncomputable def pchk (r : Rw) (l : List Int) : Int := if chk r = true then (if allPl ((r.off.length : Int) - 1) l = true then 0 else 1) else 40
theorem pcheck_run {r : Rw} {l : List Int} (hr : okR r) (hl : l.length ≤ 1000000) : runP tab 1355 [.agg (rwS r), .sl 1 (ints l)] [] = some (.int .i64 (pchk r l), []) := by
  refine runP_fn t1355 rfl ?_
  have gc := hr.check
  unfold pchk
  simp only [rwS] at gc
  cases hc : chk r with
  | false =>
    rw [hc] at gc
    rw [if_neg (by simp)]
    simp (config := { maxSteps := 1000000 }) (disch := omega) only [go_sem, ↓reduceIte, Nat.reduceEqDiff, Nat.reduceAdd, Int.reduceToNat, reduceCtorEq, Nat.reduceLeDiff, Nat.reduceSub, Nat.reduceDiv, Nat.reduceMod, Nat.reduceMul, d1355, rwS, gc]
  | true =>
    rw [hc] at gc
    rw [if_pos rfl]
    simp (config := { maxSteps := 1000000 }) (disch := omega) only [go_sem, ↓reduceIte, Nat.reduceEqDiff, Nat.reduceAdd, Int.reduceToNat, reduceCtorEq, Nat.reduceLeDiff, Nat.reduceSub, Nat.reduceDiv, Nat.reduceMod, Nat.reduceMul, d1355, rwS, gc]
    let S : Nat → St := fun i => ⟨[(2, .ref 0 0), (10, .sl 1 (ints l)), (11, .int .i64 (l.length : Int)), (12, .int .i64 (i : Int))], [.row false (rwS r)], 0, [(0, 1, [2, 10, 11, 12], [(2, 0)])]⟩
    rcases first_at 0 (fun v => decide (0 ≤ v ∧ v < (r.off.length : Int) - 1)) l with ⟨q1, q2⟩ | ⟨k, q1, q2, q3, q4⟩
    · rw [show allPl ((r.off.length : Int) - 1) l = true from q2, if_pos rfl]
      refine Ev_loop0 S l.length (by simp [S, rwS]) (fun i hi => ?_) ?_
      · have g := phas_run (v := l.getD i 0) hr
        rw [q1 i hi] at g
        simp only [rwS] at g
        simp (config := { maxSteps := 1000000 }) (disch := omega) only [go_sem, ↓reduceIte, Nat.reduceEqDiff, Nat.reduceAdd, Int.reduceToNat, reduceCtorEq, Nat.reduceLeDiff, Nat.reduceSub, Nat.reduceDiv, Nat.reduceMod, Nat.reduceMul, d1355_b0, rwS, S, g]
      · simp (config := { maxSteps := 1000000 }) (disch := omega) only [go_sem, ↓reduceIte, Nat.reduceEqDiff, Nat.reduceAdd, Int.reduceToNat, reduceCtorEq, Nat.reduceLeDiff, Nat.reduceSub, Nat.reduceDiv, Nat.reduceMod, Nat.reduceMul, d1355_b0, rwS, S]
    · rw [show allPl ((r.off.length : Int) - 1) l = false from q4, if_neg (by simp)]
      refine Ev_loop0 S k (by simp [S, rwS]) (fun i hi => ?_) ?_
      · have g := phas_run (v := l.getD i 0) hr
        rw [q2 i hi] at g
        simp only [rwS] at g
        simp (config := { maxSteps := 1000000 }) (disch := omega) only [go_sem, ↓reduceIte, Nat.reduceEqDiff, Nat.reduceAdd, Int.reduceToNat, reduceCtorEq, Nat.reduceLeDiff, Nat.reduceSub, Nat.reduceDiv, Nat.reduceMod, Nat.reduceMul, d1355_b0, rwS, S, g]
      · have g := phas_run (v := l.getD k 0) hr
        rw [q3] at g
        simp only [rwS] at g
        simp (config := { maxSteps := 1000000 }) (disch := omega) only [go_sem, ↓reduceIte, Nat.reduceEqDiff, Nat.reduceAdd, Int.reduceToNat, reduceCtorEq, Nat.reduceLeDiff, Nat.reduceSub, Nat.reduceDiv, Nat.reduceMod, Nat.reduceMul, d1355_b0, rwS, S, g]
def nbr (r : Rw) (back : Bool) (v : Int) : List Int := if back then rowI r.roff r.rev v.toNat else rowI r.off r.to v.toNat
def plc (r : Rw) : Nat := r.off.length - 1
theorem nbr_plc {r : Rw} (h : r.ok) (b : Bool) : Plc (nbr r b) (plc r) := by
  intro v h1 h2 x hx
  have lo := h.f.lo
  have l := h.l
  unfold plc at *
  cases b with
  | false =>
    have := h.f.row_pl (v := v.toNat) (by omega) hx
    omega
  | true =>
    have := h.b.row_pl (v := v.toNat) (by omega) hx
    omega
theorem nbr_mirror {r : Rw} (h : r.ok) (b : Bool) : Mrr (nbr r b) (nbr r !b) (plc r) := by
  have lo := h.f.lo
  have l := h.l
  have key : Mrr (nbr r false) (nbr r true) (plc r) := by
    intro u v a1 a2 b1 b2
    unfold plc at *
    have := rows_mirror h (v := u.toNat) (w := v.toNat) (by omega) (by omega)
    rw [show ((v.toNat : Nat) : Int) = v by omega, show ((u.toNat : Nat) : Int) = u by omega] at this
    exact this
  cases b with
  | false => exact key
  | true => exact key.symm
theorem nbr_len {r : Rw} (h : r.ok) (b : Bool) {v : Int} (h1 : 0 ≤ v) (h2 : v < plc r) : (nbr r b v).length ≤ 2000 := by
  have lo := h.f.lo
  have l := h.l
  unfold plc at h2
  cases b with
  | false => exact row_le h (v := v.toNat) (by omega)
  | true => exact row_le' h (v := v.toNat) (by omega)
def ldK (b : Bool) : Nat := if b then 1370 else 1371
def ldC (r : Rw) (b : Bool) : AV := .clo (ldK b) [.agg (rwS r)] []
theorem wout_run {r : Rw} (h : r.ok) {v : Int} (h1 : 0 ≤ v) (h2 : v < plc r) : runP tab 1371 [.agg (rwS r), .int .i64 v] [] = some (.sl 1 (ints (nbr r false v)), []) := by
  refine runP_fn t1371 rfl ?_
  obtain ⟨w, rfl⟩ : ∃ w : Nat, v = w := ⟨v.toNat, by omega⟩
  have lo := h.f.lo
  have hi := h.f.hi
  have tl := h.f.tl
  unfold plc at h2
  have a1 := h.f.gn (v := w) (by omega)
  have a2 := h.f.gn (v := w + 1) (by omega)
  have a3 := h.f.om (v := w) (by omega)
  have a4 := h.f.ole (v := w + 1) (by omega)
  simp only [gi] at a1 a2
  have q2 : ((w : Int) + 1).toNat = w + 1 := by omega
  have e : nbr r false (w : Int) = (r.to.drop (oi r.off w)).take (oi r.off (w + 1) - oi r.off w) := rfl
  rw [e]
  simp (config := { maxSteps := 1000000 }) (disch := omega) only [go_sem, ↓reduceIte, Nat.reduceEqDiff, Nat.reduceAdd, Int.reduceToNat, reduceCtorEq, Nat.reduceLeDiff, Nat.reduceSub, Nat.reduceDiv, Nat.reduceMod, Nat.reduceMul, d1371, rwS, a1, a2, q2]
theorem win_run {r : Rw} (h : r.ok) {v : Int} (h1 : 0 ≤ v) (h2 : v < plc r) : runP tab 1370 [.agg (rwS r), .int .i64 v] [] = some (.sl 1 (ints (nbr r true v)), []) := by
  refine runP_fn t1370 rfl ?_
  obtain ⟨w, rfl⟩ : ∃ w : Nat, v = w := ⟨v.toNat, by omega⟩
  have lo := h.b.lo
  have hi := h.b.hi
  have tl := h.b.tl
  have l := h.l
  unfold plc at h2
  have a1 := h.b.gn (v := w) (by omega)
  have a2 := h.b.gn (v := w + 1) (by omega)
  have a3 := h.b.om (v := w) (by omega)
  have a4 := h.b.ole (v := w + 1) (by omega)
  simp only [gi] at a1 a2
  have q2 : ((w : Int) + 1).toNat = w + 1 := by omega
  have e : nbr r true (w : Int) = (r.rev.drop (oi r.roff w)).take (oi r.roff (w + 1) - oi r.roff w) := rfl
  rw [e]
  simp (config := { maxSteps := 1000000 }) (disch := omega) only [go_sem, ↓reduceIte, Nat.reduceEqDiff, Nat.reduceAdd, Int.reduceToNat, reduceCtorEq, Nat.reduceLeDiff, Nat.reduceSub, Nat.reduceDiv, Nat.reduceMod, Nat.reduceMul, d1370, rwS, a1, a2, q2]
theorem ld_run {r : Rw} (h : r.ok) (b : Bool) {v : Int} (h1 : 0 ≤ v) (h2 : v < plc r) : runP tab (ldK b) [.agg (rwS r), .int .i64 v] [] = some (.sl 1 (ints (nbr r b v)), []) := by
  cases b with
  | false => exact wout_run h h1 h2
  | true => exact win_run h h1 h2
theorem lead_run {r : Rw} (hr : okR r) (b : Bool) : runP tab 1357 [.agg (rwS r), .bool b] [] = some (ldC r b, []) := by
  refine runP_fn t1357 rfl ?_
  have h1 := hr.a
  cases b <;> simp (config := { maxSteps := 1000000 }) (disch := omega) only [go_sem, ↓reduceIte, Nat.reduceEqDiff, Nat.reduceAdd, Int.reduceToNat, reduceCtorEq, Nat.reduceLeDiff, Nat.reduceSub, Nat.reduceDiv, Nat.reduceMod, Nat.reduceMul, d1357, rwS, ldC, ldK] <;> trace_state
end Go.Proofs.Ytgjahkebhlphgaa
