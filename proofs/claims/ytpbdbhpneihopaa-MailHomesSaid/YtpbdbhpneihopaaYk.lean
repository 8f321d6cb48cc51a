/- Layer 16: the document's example; MailParses. -/
import Derived.Test.YtpbdbhpneihopaaYj
namespace Go.Proofs.Ytpbdbhpneihopaa
set_option linter.unusedSimpArgs false
set_option linter.unusedVariables false
set_option maxHeartbeats 4000000
set_option maxRecDepth 100000
theorem sorted_uniq {l m : List Ky} (h : l.Perm m) (hs : srtd ltT m) : sorted ltT l = m :=
  List.Perm.eq_of_pairwise (le := fun x y => ltT y x = false) (fun x y _ _ h1 h2 => ordrT.tri x y h2 h1) (sorted_srtd ordrT l) hs ((sorted_perm l).trans h)
def exL : List Ml := [⟨0, 0, 5, 3⟩, ⟨0, 0, 2, 9⟩, ⟨0, 0, 5, 1⟩]
def exW : List Ml := [⟨0, 0, 2, 9⟩, ⟨0, 0, 5, 1⟩]
theorem ex_cmb : cmb exL = exW := by
  have e1 : kyL exL = [⟨0, 0, 5⟩, ⟨0, 0, 2⟩] := by decide
  unfold cmb
  rw [e1, sorted_uniq (m := [⟨0, 0, 2⟩, ⟨0, 0, 5⟩]) (List.Perm.swap _ _ _) (by unfold srtd; decide)]
  decide
theorem ex_bytes : prM exW = [2, 0, 0, 2, 9, 0, 0, 5, 1] := by
  simp only [prM, prB, encL, exW, List.flatMap_cons, List.flatMap_nil, List.length_cons, List.length_nil]
  rw [encN_small (by decide), encN_small (by decide), encN_small (by decide), encN_small (by decide), encN_small (by decide), encN_small (by decide)]
  decide
theorem ex_alM : alM [2, 0, 0, 2, 9, 0, 0, 5, 1] = some exW := by
  refine alM_iff.2 ⟨ex_bytes.symm, by decide, ?_⟩
  unfold rngM
  decide
theorem ex_al0 : alM [] = none := by decide
theorem split_bad {l : List Ml} (hl : l.length ≤ 1000000) {w : Int} (h : ¬ (1 ≤ w ∧ w ≤ 16) ∨ okMs l = false) : runP tab 1610 [.sl 4 (mls l), .int .i64 w] [] = some (.tup [.vec 1 [], .int .i64 1], []) := by
  refine runP_fn t1610 rfl ?_
  have gc := check_run hl
  by_cases h1 : w < 1
  · simp (config := { maxSteps := 1000000 }) (disch := omega) only [go_sem, ↓reduceIte, Nat.reduceEqDiff, Nat.reduceAdd, Int.reduceToNat, reduceCtorEq, Nat.reduceLeDiff, Nat.reduceSub, Nat.reduceDiv, Nat.reduceMod, Nat.reduceMul, d1610]
  by_cases h2 : 16 < w
  · simp (config := { maxSteps := 1000000 }) (disch := omega) only [go_sem, ↓reduceIte, Nat.reduceEqDiff, Nat.reduceAdd, Int.reduceToNat, reduceCtorEq, Nat.reduceLeDiff, Nat.reduceSub, Nat.reduceDiv, Nat.reduceMod, Nat.reduceMul, d1610]
  have h3 : okMs l = false := by
    rcases h with h | h
    · omega
    · exact h
  rw [h3] at gc
  simp (config := { maxSteps := 1000000 }) (disch := omega) only [go_sem, ↓reduceIte, Nat.reduceEqDiff, Nat.reduceAdd, Int.reduceToNat, reduceCtorEq, Nat.reduceLeDiff, Nat.reduceSub, Nat.reduceDiv, Nat.reduceMod, Nat.reduceMul, d1610, gc]
theorem mails_run : runP tabM 1617 [] [] = some (.bool true, []) := by
  refine runP_fn (show tabM 1617 = _ from t1617) rfl ?_
  have g1 := cmb_run (l := exL) (by decide)
  rw [ex_cmb] at g1
  have g2 := up (print_run (l := exW) (by decide))
  have e2 : printA exW = [.str [2, 0, 0, 2, 9, 0, 0, 5, 1], .int .i64 0] := by
    unfold printA
    rw [if_neg (by decide), if_pos (by decide), ex_bytes]
  rw [e2] at g2
  have g3 := parse_run (s := [2, 0, 0, 2, 9, 0, 0, 5, 1]) (by decide)
  have e3 : parseA [2, 0, 0, 2, 9, 0, 0, 5, 1] = [.vec 4 (mls exW), .int .i64 0] := by
    unfold parseA
    rw [ex_alM]
    simp only
    rw [if_pos (by decide)]
  rw [e3] at g3
  have g4 := parse_run (s := []) (by decide)
  have e4 : parseA [] = [.vec 4 [], .int .i64 220] := by
    unfold parseA
    rw [ex_al0]
  rw [e4] at g4
  have g5 := up (split_bad (l := exW) (by decide) (w := 0) (.inl (by omega)))
  have g6 := up (same16_run (a := exW) (b := exW) (by decide) (by decide))
  rw [decide_eq_true rfl] at g6
  have g7 := up (check_run (l := exW) (by decide))
  rw [show okMs exW = true by decide] at g7
  simp only [exL, exW, mls_cons, mls_nil] at g1 g2 g3 g5 g6 g7
  simp (config := { maxSteps := 1000000 }) (disch := omega) only [go_sem, ↓reduceIte, Nat.reduceEqDiff, Nat.reduceAdd, Int.reduceToNat, reduceCtorEq, Nat.reduceLeDiff, Nat.reduceSub, Nat.reduceDiv, Nat.reduceMod, Nat.reduceMul, d1617, g1, g2, g3, g4, g5, g6, g7]
theorem parses_law {s : List UInt8} (hs : s.length ≤ 9223372036854775807) : runP tabM 1604 [.str s] [] = some (.bool true, []) := by
  refine runP_fn (show tabM 1604 = _ from t1604) rfl ?_
  by_cases h : 1000 < s.length
  · simp (config := { maxSteps := 1000000 }) (disch := omega) only [go_sem, ↓reduceIte, Nat.reduceEqDiff, Nat.reduceAdd, Int.reduceToNat, reduceCtorEq, Nat.reduceLeDiff, Nat.reduceSub, Nat.reduceDiv, Nat.reduceMod, Nat.reduceMul, d1604]
  have g1 := parse_run (s := s) (by omega)
  have g2 := up (rparse_run (s := s) (by omega))
  have gm := mails_run
  unfold parseA at g1 g2
  cases ha : alM s with
  | none =>
    rw [ha] at g1 g2
    have gs := up (same16_run (a := []) (b := []) (by decide) (by decide))
    rw [decide_eq_true rfl, mls_nil] at gs
    simp only at g1 g2
    simp (config := { maxSteps := 1000000 }) (disch := omega) only [go_sem, ↓reduceIte, Nat.reduceEqDiff, Nat.reduceAdd, Int.reduceToNat, reduceCtorEq, Nat.reduceLeDiff, Nat.reduceSub, Nat.reduceDiv, Nat.reduceMod, Nat.reduceMul, d1604, g1, g2, gm, gs]
  | some l =>
    rw [ha] at g1 g2
    obtain ⟨_, h1, _⟩ := alM_iff.1 ha
    cases ho : okMs l with
    | true =>
      simp only [ho, if_true] at g1 g2
      have gs := up (same16_run (a := l) (b := l) (by omega) (by omega))
      rw [decide_eq_true rfl] at gs
      simp (config := { maxSteps := 1000000 }) (disch := omega) only [go_sem, ↓reduceIte, Nat.reduceEqDiff, Nat.reduceAdd, Int.reduceToNat, reduceCtorEq, Nat.reduceLeDiff, Nat.reduceSub, Nat.reduceDiv, Nat.reduceMod, Nat.reduceMul, d1604, g1, g2, gm, gs]
    | false =>
      simp only [ho, Bool.false_eq_true, if_false] at g1 g2
      have gs := up (same16_run (a := []) (b := []) (by decide) (by decide))
      rw [decide_eq_true rfl, mls_nil] at gs
      simp (config := { maxSteps := 1000000 }) (disch := omega) only [go_sem, ↓reduceIte, Nat.reduceEqDiff, Nat.reduceAdd, Int.reduceToNat, reduceCtorEq, Nat.reduceLeDiff, Nat.reduceSub, Nat.reduceDiv, Nat.reduceMod, Nat.reduceMul, d1604, g1, g2, gm, gs]
end Go.Proofs.Ytpbdbhpneihopaa
