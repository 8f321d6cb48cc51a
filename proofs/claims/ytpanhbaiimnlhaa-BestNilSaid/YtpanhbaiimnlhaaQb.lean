/- Layer 10: the queue's calls, and the document's. -/
import Derived.Test.YtpanhbaiimnlhaaQa
import Derived.Test.YtpanhbaiimnlhaaHw
import Derived.Test.YtpanhbaiimnlhaaSh4
namespace Go.Proofs.Ytpanhbaiimnlhaa
set_option linter.unusedSimpArgs false
set_option linter.unusedVariables false
set_option maxHeartbeats 4000000
set_option maxRecDepth 100000
theorem sortH_run {l : List Ed} (hl : l.length ≤ 60000) : runP tab 1497 [.own 2 0, .clo 1495 [] []] [.row false (prs l)] = some (.tup [], [.row false (prs (sorted ltH l))]) := by simpa using hsf_run hl
theorem clone_h {l : List Ed} (h : l.length ≤ 1000000) : runP tab 1496 [.sl 2 (prs l)] [] = some (.vec 2 (prs l), []) := by
  rw [runP_orc t1496]
  have h2 : noinlL (prs l) = true := prs_noinl' l
  have h3 : noidL (prs l) = true := prs_noid' l
  simp only [cloneG, true_or, h2, h3, true_and, prs_len, mul2_div, prs_okc]
  rw [if_pos (by constructor <;> first | trivial | omega)]
theorem prs_snoc (l : List Ed) (x : Ed) : prs l ++ [.int .i64 x.1, .int .i64 x.2] = prs (l ++ [x]) := by simp [prs]
theorem takeS {l : List Ed} {i : Nat} (h : i < l.length) : l.take (i + 1) = l.take i ++ [l.getD i default] := by
  rw [List.take_succ_eq_append_getElem h, List.getD_eq_getElem?_getD, List.getElem?_eq_getElem h]; rfl
theorem hsorted_run {l : List Ed} (hl : l.length ≤ 60000) : runP tab 1493 [.sl 2 (prs l)] [] = some (.vec 2 (prs (sorted ltH l)), []) := by
  refine runP_fn t1493 rfl ?_
  have g1 := clone_h (l := l) (by omega)
  have g2 := sortH_run hl
  have hz := sorted_len (lt := ltH) l
  simp (config := { maxSteps := 1000000 }) (disch := omega) only [go_sem, ↓reduceIte, Nat.reduceEqDiff, Nat.reduceAdd, Int.reduceToNat, reduceCtorEq, Nat.reduceLeDiff, Nat.reduceSub, Nat.reduceDiv, Nat.reduceMod, Nat.reduceMul, d1493, g1, g2]
  generalize sorted ltH l = s at *
  refine Ev_loop0 (fun i => ⟨[(4, .own 2 1), (11, .own 2 0), (12, .int .i64 (s.length : Int)), (13, .int .i64 (i : Int))], [.row false (prs s), .row false (prs (s.take i))], 0, [(0, 2, [4, 11, 12, 13], [(4, 1), (11, 0)])]⟩) s.length (by simp [prs, hz]) (fun i hi => ?_) ?_
  · have e1 := takeS hi
    have e2 : (s.take i).length = i := by rw [List.length_take]; omega
    simp (config := { maxSteps := 1000000 }) (disch := omega) only [go_sem, ↓reduceIte, Nat.reduceEqDiff, Nat.reduceAdd, Int.reduceToNat, reduceCtorEq, Nat.reduceLeDiff, Nat.reduceSub, Nat.reduceDiv, Nat.reduceMod, Nat.reduceMul, d1493_b0, prs_at, prs_snoc, e1, e2]
  · simp (config := { maxSteps := 1000000 }) (disch := omega) only [go_sem, ↓reduceIte, Nat.reduceEqDiff, Nat.reduceAdd, Int.reduceToNat, reduceCtorEq, Nat.reduceLeDiff, Nat.reduceSub, Nat.reduceDiv, Nat.reduceMod, Nat.reduceMul, d1493_b0, List.take_length]
end Go.Proofs.Ytpanhbaiimnlhaa
