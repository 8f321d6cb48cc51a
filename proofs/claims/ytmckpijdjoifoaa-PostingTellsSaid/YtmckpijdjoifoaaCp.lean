/- Postings: Own; the document's Make. -/
import Derived.Test.YtmckpijdjoifoaaCo
namespace Go.Proofs.Ytmckpijdjoifoaa
set_option linter.unusedSimpArgs false
set_option linter.unusedVariables false
set_option maxHeartbeats 4000000
set_option maxRecDepth 100000
theorem pown_run {P : List Po} (hP : okP P) : runP tab 1597 [.sl 2 (poS P)] [] = some (.vec 2 (poV P), []) := by
  refine runP_fn t1597 rfl ?_
  have L := poS_len P
  have Ld : P.length * 2 / 2 = P.length := by omega
  have hn := hP.n
  simp (config := { maxSteps := 1000000 }) (disch := omega) only [go_sem, ↓reduceIte, Nat.reduceEqDiff, reduceCtorEq, d1597]
  refine Ev_loop0 (fun i => ⟨[(0, .sl 2 (poS P)), (3, .own 2 0), (4, .int .i64 (i : Int))], [.row false (poV (P.take i))], 0, [(0, 1, [0, 3, 4], [(3, 0)])]⟩) P.length rfl (fun i hi => ?_) ?_
  · have e1 := poS_at1 hi
    have e2 := poS_at2 hi
    have hr := hP.r _ (getD_mem' hi)
    have g := owni_run (l := (P.getD i default).2) (by omega)
    have et : P.take (i + 1) = P.take i ++ [P.getD i default] := take_snoc default hi
    have Lt := poV_len (P.take i)
    have Ln : (P.take i).length = i := by rw [List.length_take]; omega
    rw [et, ← poV_app]
    simp (config := { maxSteps := 1000000 }) (disch := omega) only [go_sem, ↓reduceIte, Nat.reduceEqDiff, Nat.reduceAdd, reduceCtorEq, Nat.reduceLeDiff, Nat.reduceDiv, d1597_b0, L, Ld, e1, e2, g, Lt, Ln]
    rfl
  · rw [List.take_length]
    simp (config := { maxSteps := 1000000 }) (disch := omega) only [go_sem, ↓reduceIte, Nat.reduceEqDiff, reduceCtorEq, d1597_b0, L, Ld]
end Go.Proofs.Ytmckpijdjoifoaa
