/- Layer 22's laws: FrameReplies, FrameRequests. -/
import Derived.Test.YtcfhocnbpplecaaXx
namespace Go.Proofs.Ytcfhocnbpplecaa
set_option linter.unusedSimpArgs false
set_option linter.unusedVariables false
set_option maxHeartbeats 4000000
set_option maxRecDepth 100000
theorem replies_law {x : Rep} (hx : x.fits) {s : Txt} (hs : s.length ≤ 9223372036854775807) : runP tabM 1627 [.agg (repS x), .str s] [] = some (.bool true, []) := by
  refine runP_fn (show tabM 1627 = _ from t1627) rfl ?_
  have hl := hx.2.2.2.1
  by_cases c1 : x.hits.length ≤ 150
  case neg =>
    simp only [repS]
    simp (config := { maxSteps := 1000000 }) (disch := omega) only [go_sem, ↓reduceIte, Nat.reduceEqDiff, Nat.reduceAdd, Int.reduceToNat, reduceCtorEq, Nat.reduceLeDiff, Nat.reduceSub, Nat.reduceDiv, Nat.reduceMod, Nat.reduceMul, d1627]
  by_cases c2 : s.length ≤ 500
  case neg =>
    simp only [repS]
    simp (config := { maxSteps := 1000000 }) (disch := omega) only [go_sem, ↓reduceIte, Nat.reduceEqDiff, Nat.reduceAdd, Int.reduceToNat, reduceCtorEq, Nat.reduceLeDiff, Nat.reduceSub, Nat.reduceDiv, Nat.reduceMod, Nat.reduceMul, d1627]
  have g1 := up (putR_run (r := x) (by omega))
  have g2 := up (rputR_run (r := x) (by omega))
  have g3 := getRM (s := s) (by omega)
  have g4 := up (rgetR_run (s := s) (by omega))
  have g5 := up (id_run (s := s) (by omega))
  have g6 := up (rid_run (s := s) (by omega))
  have g7 := framed_run
  obtain ⟨y, e9, hy⟩ : ∃ (y : Rep) (e : Int), getRA s = [.agg (repV y), .int .i64 e] ∧ y.hits.length ≤ 1000000 := by
    unfold getRA
    cases h : alG tRep okR s with
    | none => exact ⟨zR, 220, rfl, by simp [zR]⟩
    | some y =>
      have h1 := (formR.iff.1 h).1
      have h2 := (of_decide_eq_true h1 : RepOk y).2.2.2.1
      exact ⟨y, 0, rfl, by omega⟩
  have g8 := up (samerep_run (a := y) (b := y) hy.2 hy.2)
  rw [show (y == y) = true from beq_self_eq_true y] at g8
  rw [hy.1] at g3 g4
  obtain ⟨p, q, hp⟩ : ∃ (p : Txt) (q : Int), putRA x = [.str p, .int .i64 q] := by
    unfold putRA; split
    · exact ⟨_, _, rfl⟩
    · exact ⟨_, _, rfl⟩
  rw [hp] at g1 g2
  obtain ⟨n, b, hi⟩ : ∃ (n : Int) (b : Bool), idA s = [.int .i64 n, .bool b] := by
    unfold idA; split
    · exact ⟨_, _, rfl⟩
    · exact ⟨_, _, rfl⟩
  rw [hi] at g5 g6
  simp only [repS, repV] at g1 g2 g3 g4 g8 ⊢
  cases b <;> simp (config := { maxSteps := 1000000 }) (disch := omega) only [go_sem, ↓reduceIte, Nat.reduceEqDiff, Nat.reduceAdd, Int.reduceToNat, reduceCtorEq, Nat.reduceLeDiff, Nat.reduceSub, Nat.reduceDiv, Nat.reduceMod, Nat.reduceMul, d1627, g1, g2, g3, g4, g5, g6, g7, g8]
def bgS (r : Req) (i : Nat) : St := ⟨[(1, .ref 0 0), (3, .int .i64 (i : Int))], [.row false (qryS r)], 0, [(0, 1, [1, 3], [(1, 0)])]⟩
theorem big_run {r : Req} (hl : r.words.length ≤ 9223372036854775807) (ht : ∀ w ∈ r.words, w.length ≤ 9223372036854775807) : ∃ b, runP tab 1084 [.agg (qryS r)] [] = some (.bool b, []) ∧ (b = false → r.words.length ≤ 20 ∧ ∀ w ∈ r.words, w.length ≤ 60) := by
  by_cases c : r.words.length ≤ 20
  case neg =>
    refine ⟨true, runP_fn t1084 rfl ?_, fun h => by cases h⟩
    simp (config := { maxSteps := 1000000 }) (disch := omega) only [go_sem, ↓reduceIte, Nat.reduceEqDiff, Nat.reduceAdd, Int.reduceToNat, reduceCtorEq, Nat.reduceLeDiff, Nat.reduceSub, Nat.reduceDiv, Nat.reduceMod, Nat.reduceMul, d1084, qryS]
    refine Ev_loop0 (bgS r) 0 rfl (fun i hi => by omega) ?_
    unfold bgS qryS
    by_cases c0 : 0 < r.words.length
    · simp (config := { maxSteps := 1000000 }) (disch := omega) only [go_sem, ↓reduceIte, Nat.reduceEqDiff, Nat.reduceAdd, Int.reduceToNat, reduceCtorEq, Nat.reduceLeDiff, Nat.reduceSub, Nat.reduceDiv, Nat.reduceMod, Nat.reduceMul, d1084_b0]
    · omega
  have stp : ∀ i, i < r.words.length → (r.words.getD i []).length ≤ 60 → Ev tab d1084_b0 (bgS r i) (fun x st => x = .normal ∧ st = bgS r (i + 1)) := by
    intro i hi h
    unfold bgS qryS
    simp (config := { maxSteps := 1000000 }) (disch := omega) only [go_sem, ↓reduceIte, Nat.reduceEqDiff, Nat.reduceAdd, Int.reduceToNat, reduceCtorEq, Nat.reduceLeDiff, Nat.reduceSub, Nat.reduceDiv, Nat.reduceMod, Nat.reduceMul, d1084_b0, strs_rdc]
  rcases first_ix (fun i => (r.words.getD i []).length ≤ 60) r.words.length with h | ⟨m, h1, h2, h3⟩
  · refine ⟨false, runP_fn t1084 rfl ?_, fun _ => ⟨c, fun w hw => ?_⟩⟩
    · simp (config := { maxSteps := 1000000 }) (disch := omega) only [go_sem, ↓reduceIte, Nat.reduceEqDiff, Nat.reduceAdd, Int.reduceToNat, reduceCtorEq, Nat.reduceLeDiff, Nat.reduceSub, Nat.reduceDiv, Nat.reduceMod, Nat.reduceMul, d1084, qryS]
      refine Ev_loop0 (bgS r) r.words.length rfl (fun i hi => stp i hi (h i hi)) ?_
      unfold bgS qryS
      simp (config := { maxSteps := 1000000 }) (disch := omega) only [go_sem, ↓reduceIte, Nat.reduceEqDiff, Nat.reduceAdd, Int.reduceToNat, reduceCtorEq, Nat.reduceLeDiff, Nat.reduceSub, Nat.reduceDiv, Nat.reduceMod, Nat.reduceMul, d1084_b0]
    · obtain ⟨i, hi, rfl⟩ := mem_getD (d := []) hw
      exact h i hi
  · refine ⟨true, runP_fn t1084 rfl ?_, fun h => by cases h⟩
    simp (config := { maxSteps := 1000000 }) (disch := omega) only [go_sem, ↓reduceIte, Nat.reduceEqDiff, Nat.reduceAdd, Int.reduceToNat, reduceCtorEq, Nat.reduceLeDiff, Nat.reduceSub, Nat.reduceDiv, Nat.reduceMod, Nat.reduceMul, d1084, qryS]
    refine Ev_loop0 (bgS r) m rfl (fun i hi => stp i (by omega) (h2 i hi)) ?_
    have hm := ht _ (getD_mem (d := []) h1)
    unfold bgS qryS
    simp (config := { maxSteps := 1000000 }) (disch := omega) only [go_sem, ↓reduceIte, Nat.reduceEqDiff, Nat.reduceAdd, Int.reduceToNat, reduceCtorEq, Nat.reduceLeDiff, Nat.reduceSub, Nat.reduceDiv, Nat.reduceMod, Nat.reduceMul, d1084_b0, strs_rdc]
theorem requests_law {x : Req} (hx : x.fits) {s : Txt} (hs : s.length ≤ 9223372036854775807) : runP tabM 1626 [.agg (reqS x), .str s] [] = some (.bool true, []) := by
  refine runP_fn (show tabM 1626 = _ from t1626) rfl ?_
  have hl := hx.2.2.2.2.2.2.2
  obtain ⟨b0, hb, hbig⟩ := big_run hl.1 hl.2
  have g0 := up hb
  simp only [qryS] at g0
  cases b0 with
  | true =>
    simp only [reqS]
    simp (config := { maxSteps := 1000000 }) (disch := omega) only [go_sem, ↓reduceIte, Nat.reduceEqDiff, Nat.reduceAdd, Int.reduceToNat, reduceCtorEq, Nat.reduceLeDiff, Nat.reduceSub, Nat.reduceDiv, Nat.reduceMod, Nat.reduceMul, d1626, g0]
  | false =>
  obtain ⟨w1, w2⟩ := hbig rfl
  have hw : okW x.words := ⟨by omega, fun w h => by have := w2 w h; omega⟩
  by_cases c2 : s.length ≤ 500
  case neg =>
    simp only [reqS]
    simp (config := { maxSteps := 1000000 }) (disch := omega) only [go_sem, ↓reduceIte, Nat.reduceEqDiff, Nat.reduceAdd, Int.reduceToNat, reduceCtorEq, Nat.reduceLeDiff, Nat.reduceSub, Nat.reduceDiv, Nat.reduceMod, Nat.reduceMul, d1626, g0]
  have g1 := up (putQ_run (r := x) hw)
  have g2 := up (rputQ_run (r := x) hw)
  have g3 := getQM (s := s) (by omega)
  have g4 := up (rgetQ_run (s := s) (by omega))
  have g7 := framed_run
  obtain ⟨y, e9, hy⟩ : ∃ (y : Req) (e : Int), getQA s = [.agg (reqV y), .int .i64 e] ∧ y.words.length ≤ 1000000 := by
    unfold getQA
    cases h : alG tReq okQ s with
    | none => exact ⟨zReq, 220, rfl, by simp [zReq]⟩
    | some y =>
      rw [alG_alW] at h
      cases h2 : alW tReq s with
      | none => rw [h2] at h; cases h
      | some z =>
        rw [h2] at h
        simp only at h
        split at h
        · injection h with h; subst h
          exact ⟨z, 0, rfl, (alW_okW h2).1⟩
        · cases h
  have hyl := hy.2
  have g8 := up (samer_run (a := y) (b := y) (by omega) (by omega))
  rw [show (y == y) = true from beq_self_eq_true y] at g8
  rw [hy.1] at g3 g4
  obtain ⟨p, q, hp⟩ : ∃ (p : Txt) (q : Int), putQA x = [.str p, .int .i64 q] := by
    unfold putQA; split
    · exact ⟨_, _, rfl⟩
    · exact ⟨_, _, rfl⟩
  rw [hp] at g1 g2
  simp only [reqS, reqV] at g1 g2 g3 g4 g8 ⊢
  simp (config := { maxSteps := 1000000 }) (disch := omega) only [go_sem, ↓reduceIte, Nat.reduceEqDiff, Nat.reduceAdd, Int.reduceToNat, reduceCtorEq, Nat.reduceLeDiff, Nat.reduceSub, Nat.reduceDiv, Nat.reduceMod, Nat.reduceMul, d1626, g0, g1, g2, g3, g4, g7, g8]
end Go.Proofs.Ytcfhocnbpplecaa
