/- Layer 17: the document's rows. -/
import Derived.Test.YtimiedahbmfkhaaZc
namespace Go.Proofs.Ytimiedahbmfkhaa
set_option linter.unusedSimpArgs false
set_option linter.unusedVariables false
set_option maxHeartbeats 4000000
set_option maxRecDepth 100000
theorem i64k {n : Int} (h1 : -1000000 ≤ n) (h2 : n ≤ 1000000) : I64 n := ⟨by omega, by omega⟩
theorem turns_run : runP tab 1122 [] [] = some (.bool true, []) := by
  refine runP_fn t1122 rfl ?_
  have g1 : runP tab 1112 [.int .i64 3, .int .i64 (-1)] [] = some (.tup [.int .i64 2, .bool true], []) := pick_run (i64k (by omega) (by omega)) (i64k (by omega) (by omega))
  have g2 : runP tab 1112 [.int .i64 3, .int .i64 7] [] = some (.tup [.int .i64 1, .bool true], []) := pick_run (i64k (by omega) (by omega)) (i64k (by omega) (by omega))
  have g3 : runP tab 1112 [.int .i64 0, .int .i64 1] [] = some (.tup [.int .i64 0, .bool false], []) := pick_run (i64k (by omega) (by omega)) (i64k (by omega) (by omega))
  have o (n : Int) (p : List Int) (hn : I64 n) (hp : p.length ≤ 1000000) (hq : ∀ x ∈ p, I64 x) := order_run hn hp hq
  have g4 : runP tab 1114 [.int .i64 3, .sl 1 [.int .i64 2, .int .i64 1]] [] = some (.tup [.vec 1 [.int .i64 2, .int .i64 1, .int .i64 0], .int .i64 0], []) := o 3 [2, 1] (i64k (by omega) (by omega)) (by simp) (by simp [I64])
  have g5 : runP tab 1114 [.int .i64 3, .sl 1 [.int .i64 (-1)]] [] = some (.tup [.vec 1 [.int .i64 2, .int .i64 0, .int .i64 1], .int .i64 0], []) := o 3 [-1] (i64k (by omega) (by omega)) (by simp) (by simp [I64])
  have g6 : runP tab 1114 [.int .i64 3, .sl 1 []] [] = some (.tup [.vec 1 [.int .i64 0, .int .i64 1, .int .i64 2], .int .i64 0], []) := o 3 [] (i64k (by omega) (by omega)) (by simp) (by simp [I64])
  have g7 : runP tab 1114 [.int .i64 (-1), .sl 1 []] [] = some (.tup [.vec 1 [], .int .i64 1], []) := o (-1) [] (i64k (by omega) (by omega)) (by simp) (by simp [I64])
  have e (a b : List Int) (ha : a.length < 1000000) (hb : b.length < 1000000) := ints_run ha hb
  have g8 : runP tab 1016 [.sl 1 [.int .i64 2, .int .i64 1, .int .i64 0], .sl 1 [.int .i64 2, .int .i64 1, .int .i64 0]] [] = some (.bool true, []) := e [2, 1, 0] [2, 1, 0] (by simp) (by simp)
  have g9 : runP tab 1016 [.sl 1 [.int .i64 2, .int .i64 0, .int .i64 1], .sl 1 [.int .i64 2, .int .i64 0, .int .i64 1]] [] = some (.bool true, []) := e [2, 0, 1] [2, 0, 1] (by simp) (by simp)
  have g10 : runP tab 1016 [.sl 1 [.int .i64 0, .int .i64 1, .int .i64 2], .sl 1 [.int .i64 0, .int .i64 1, .int .i64 2]] [] = some (.bool true, []) := e [0, 1, 2] [0, 1, 2] (by simp) (by simp)
  simp (config := { maxSteps := 1000000 }) (disch := omega) only [go_sem, ↓reduceIte, Nat.reduceEqDiff, Nat.reduceAdd, Int.reduceToNat, reduceCtorEq, Nat.reduceLeDiff, Nat.reduceSub, Nat.reduceDiv, Nat.reduceMod, Nat.reduceMul, d1122, g1, g2, g3, g4, g5, g6, g7, g8, g9, g10]
end Go.Proofs.Ytimiedahbmfkhaa
