/- Layer 4: what the document tells of rows. -/
import Derived.Test.YtjebbkpbaglooaaHu
import Derived.Test.YtjebbkpbaglooaaHy
namespace Go.Proofs.Ytjebbkpbaglooaa
set_option linter.unusedSimpArgs false
set_option linter.unusedVariables false
set_option maxHeartbeats 4000000
set_option maxRecDepth 100000
theorem prs_snoc (l : List Ed) (a b : Int) : prs l ++ [.int .i64 a, .int .i64 b] = prs (l ++ [(a, b)]) := by rw [← prs_app]; rfl
def edV (r : Rw) (v : Nat) : List Ed := (rowI r.off r.to v).map fun w => ((v : Int), w)
def edU (r : Rw) (v : Nat) : List Ed := (List.range v).flatMap (edV r)
theorem edU_succ (r : Rw) (v : Nat) : edU r (v + 1) = edU r v ++ edV r v := by simp [edU, List.range_succ]
theorem edU_len {r : Rw} (f : half r.off r.to) : ∀ {v : Nat}, v < r.off.length → (edU r v).length = oi r.off v
  | 0, _ => by rw [f.oz]; rfl
  | v + 1, h => by
    rw [edU_succ, List.length_append, edU_len f (by omega), edV, List.length_map, f.row_len h]
    have := f.om h
    omega
noncomputable def toldE (r : Rw) : AV := if chk r = true then .tup [.vec 2 (prs (edU r (r.off.length - 1))), .int .i64 0] else .tup [.vec 2 [], .int .i64 40]
end Go.Proofs.Ytjebbkpbaglooaa
