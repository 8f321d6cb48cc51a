/- Graphs by definition: the normal one, one's own. -/
import Derived.Test.YtmckpijdjoifoaaGo
set_option linter.unusedSimpArgs false
set_option linter.unusedVariables false
namespace Go.Proofs.Ytmckpijdjoifoaa
set_option maxHeartbeats 4000000
set_option maxRecDepth 100000
theorem otx_run {l : List Txt} (hl : l.length ≤ 1000) : runP tab 1276 [.sl 1 (strs l)] [] = some (.vec 1 (strs l), []) := by
  refine runP_fn t1276 rfl ?_
  simp (config := { maxSteps := 1000000 }) (disch := omega) only [go_sem, ↓reduceIte, Nat.reduceEqDiff, reduceCtorEq, d1276, strs_length]
def fW (f : List Txt → List Txt) (g : Gr) (i : Nat) : Wds := (List.range i).map fun j => some (f (g.w j))
theorem fW_succ (f : List Txt → List Txt) (g : Gr) (i : Nat) : fW f g (i + 1) = fW f g i ++ [some (f (g.w i))] := by simp [fW, List.range_succ]
theorem fW_len (f : List Txt → List Txt) (g : Gr) (i : Nat) : (fW f g i).length = i := by simp [fW]
theorem wos_snoc (W : Wds) (l : List Txt) : wos W ++ [.vec 1 (strs l)] = wos (W ++ [some l]) := by simp [wos, wo]
end Go.Proofs.Ytmckpijdjoifoaa
