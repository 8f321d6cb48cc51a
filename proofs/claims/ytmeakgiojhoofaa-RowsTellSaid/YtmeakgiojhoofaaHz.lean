/-
  Layer 4: RowsBoth.
-/
import Derived.Test.YtmeakgiojhoofaaHy
namespace Go.Proofs.Ytmeakgiojhoofaa
set_option linter.unusedSimpArgs false
set_option linter.unusedVariables false
set_option maxHeartbeats 4000000
set_option maxRecDepth 100000

def rwTy : List Ty := [.sl 1 [.int .i64], .sl 1 [.int .i64], .sl 1 [.int .i64], .sl 1 [.int .i64]]
theorem fit_rw {vs : List AV} (h : FitL rwTy vs) : ∃ r : Rw, vs = rwS r ∧ rwFit r := by
  unfold rwTy at h
  rw [FitL] at h
  obtain ⟨v1, us, rfl, h1, h⟩ := h
  rw [FitL] at h
  obtain ⟨v2, us, rfl, h2, h⟩ := h
  rw [FitL] at h
  obtain ⟨v3, us, rfl, h3, h⟩ := h
  rw [FitL] at h
  obtain ⟨v4, us, rfl, h4, h⟩ := h
  rw [FitL] at h
  subst h
  obtain ⟨a, rfl, ha, _⟩ := fit_ints h1
  obtain ⟨b, rfl, hb, _⟩ := fit_ints h2
  obtain ⟨c, rfl, hc, _⟩ := fit_ints h3
  obtain ⟨d, rfl, hd, _⟩ := fit_ints h4
  exact ⟨⟨a, b, c, d⟩, rfl, ha, hb, hc, hd⟩
theorem row_le {r : Rw} (h : r.ok) {v : Nat} (hv : v + 1 < r.off.length) : (rowI r.off r.to v).length ≤ 2000 := by
  rw [h.f.row_len hv]
  have := h.f.ole hv
  have := h.f.tl
  omega
theorem row_le' {r : Rw} (h : r.ok) {v : Nat} (hv : v + 1 < r.roff.length) : (rowI r.roff r.rev v).length ≤ 2000 := by
  rw [h.b.row_len hv]
  have := h.b.ole hv
  have := h.b.tl
  omega

theorem both_run {r : Rw} (hf : rwFit r) : runP tab 1314 [.agg (rwS r)] [] = some (.bool true, []) := by
  refine runP_fn t1314 rfl ?_
  have gb := bigR_run hf
  have gt := told_run
  simp only [rwS] at gb
  cases hb : bigR r with
  | true =>
    rw [hb] at gb
    simp (config := { maxSteps := 1000000 }) (disch := omega) only [go_sem, ↓reduceIte, Nat.reduceEqDiff, Nat.reduceAdd, Int.reduceToNat, reduceCtorEq, Nat.reduceLeDiff, Nat.reduceSub, Nat.reduceDiv, Nat.reduceMod, Nat.reduceMul, d1314, rwS, gb, gt]
  | false =>
    rw [hb] at gb
    have hr := bigR_ok hb
    have gc := hr.check
    simp only [rwS] at gc
    cases hc : chk r with
    | false =>
      rw [hc] at gc
      simp (config := { maxSteps := 1000000 }) (disch := omega) only [go_sem, ↓reduceIte, Nat.reduceEqDiff, Nat.reduceAdd, Int.reduceToNat, reduceCtorEq, Nat.reduceLeDiff, Nat.reduceSub, Nat.reduceDiv, Nat.reduceMod, Nat.reduceMul, d1314, rwS, gb, gt, gc]
    | true =>
      rw [hc] at gc
      have ok := chk_iff.1 hc
      have l1 := ok.f.lo
      have l2 := ok.f.hi
      have hl := ok.l
      simp (config := { maxSteps := 1000000 }) (disch := omega) only [go_sem, ↓reduceIte, Nat.reduceEqDiff, Nat.reduceAdd, Int.reduceToNat, reduceCtorEq, Nat.reduceLeDiff, Nat.reduceSub, Nat.reduceDiv, Nat.reduceMod, Nat.reduceMul, d1314, rwS, gb, gt, gc]
      refine Ev_loop0 (fun v => ⟨[(1, .ref 0 0), (3, .int .i64 (r.off.length - 1)), (4, .int .i64 (v : Int))], [.row false (rwS r)], 0, [(0, 1, [1, 3, 4], [(1, 0)])]⟩) (r.off.length - 1) (by simp [rwS]) (fun v hv => ?_) ?_
      · have go := out_run (v := (v : Int)) hr ⟨by omega, by omega⟩
        have gi := in_run (v := (v : Int)) hr ⟨by omega, by omega⟩
        rw [told1, if_pos ⟨hc, by omega, by omega⟩, Int.toNat_natCast] at go gi
        have hh := fun w : Nat => fun hw : w < r.off.length - 1 => has_run (v := (v : Int)) (w := (w : Int)) hr ⟨by omega, by omega⟩ ⟨by omega, by omega⟩
        have hh2 := fun w : Nat => fun hw : w < r.off.length - 1 => has_run (v := (w : Int)) (w := (v : Int)) hr ⟨by omega, by omega⟩ ⟨by omega, by omega⟩
        have lh := fun w : Int => lhas_run (l := rowI r.off r.to v) (n := w) (by have := row_le ok (v := v) (by omega); omega) (ok.f.inc (by omega))
        have lh2 := fun w : Int => lhas_run (l := rowI r.roff r.rev v) (n := w) (by have := row_le' ok (v := v) (by omega); omega) (ok.b.inc (by omega))
        have wv : ∀ w : Nat, w < r.off.length - 1 → way r v w = decide ((w : Int) ∈ rowI r.off r.to v) := fun w hw => by
          rw [way, hc, decide_eq_true (p := 0 ≤ (v : Int) ∧ (v : Int) < (r.off.length : Int) - 1) ⟨by omega, by omega⟩, Int.toNat_natCast]; rfl
        have wv2 : ∀ w : Nat, w < r.off.length - 1 → way r w v = decide ((w : Int) ∈ rowI r.roff r.rev v) := fun w hw => by
          rw [way, hc, decide_eq_true (p := 0 ≤ (w : Int) ∧ (w : Int) < (r.off.length : Int) - 1) ⟨by omega, by omega⟩, Int.toNat_natCast]
          simp only [Bool.true_and]
          exact decide_eq_decide.2 (rows_mirror ok (v := w) (w := v) (by omega) (by omega))
        generalize rowI r.off r.to v = L at *
        generalize rowI r.roff r.rev v = M at *
        simp only [rwS] at go gi hh hh2
        simp (config := { maxSteps := 1000000 }) (disch := omega) only [go_sem, ↓reduceIte, Nat.reduceEqDiff, Nat.reduceAdd, Int.reduceToNat, reduceCtorEq, Nat.reduceLeDiff, Nat.reduceSub, Nat.reduceDiv, Nat.reduceMod, Nat.reduceMul, d1314_b0, rwS, go, gi]
        refine Ev_loop0 (fun w => ⟨[(1, .ref 0 0), (3, .int .i64 (r.off.length - 1)), (4, .int .i64 (v : Int)), (5, .own 1 1), (7, .own 1 2), (9, .int .i64 (w : Int))], [.row false [.sl 1 (ints r.off), .sl 1 (ints r.to), .sl 1 (ints r.roff), .sl 1 (ints r.rev)], .row false (ints L), .row false (ints M)], 0, [(1, 3, [1, 3, 4, 5, 7, 9], [(1, 0), (5, 1), (7, 2)]), (0, 1, [1, 3, 4], [(1, 0)])]⟩) (r.off.length - 1) (by simp) (fun w hw => ?_) ?_
        · have a1 := hh w hw
          have a2 := hh2 w hw
          have a3 := lh w
          have a4 := lh2 w
          rw [wv w hw] at a1
          rw [wv2 w hw] at a2
          generalize decide ((w : Int) ∈ L) = p at *
          generalize decide ((w : Int) ∈ M) = q at *
          cases p <;> cases q <;> simp (config := { maxSteps := 1000000 }) (disch := omega) only [go_sem, ↓reduceIte, Nat.reduceEqDiff, Nat.reduceAdd, Int.reduceToNat, reduceCtorEq, Nat.reduceLeDiff, Nat.reduceSub, Nat.reduceDiv, Nat.reduceMod, Nat.reduceMul, d1314_b1, a1, a2, a3, a4]
        · simp (config := { maxSteps := 1000000 }) (disch := omega) only [go_sem, ↓reduceIte, Nat.reduceEqDiff, Nat.reduceAdd, Int.reduceToNat, reduceCtorEq, Nat.reduceLeDiff, Nat.reduceSub, Nat.reduceDiv, Nat.reduceMod, Nat.reduceMul, d1314_b1]
      · have go := out_run (v := ((r.off.length : Int) - 1)) hr ⟨by omega, by omega⟩
        rw [told1, if_neg (by omega)] at go
        simp only [rwS] at go
        simp (config := { maxSteps := 1000000 }) (disch := omega) only [go_sem, ↓reduceIte, Nat.reduceEqDiff, Nat.reduceAdd, Int.reduceToNat, reduceCtorEq, Nat.reduceLeDiff, Nat.reduceSub, Nat.reduceDiv, Nat.reduceMod, Nat.reduceMul, d1314_b0, rwS, go, gt]

end Go.Proofs.Ytmeakgiojhoofaa
