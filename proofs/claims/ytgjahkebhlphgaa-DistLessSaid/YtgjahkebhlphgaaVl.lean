/- Layer 7: LevelTells, LevelBack, LevelTriangle. -/
import Derived.Test.YtgjahkebhlphgaaVk
namespace Go.Proofs.Ytgjahkebhlphgaa
set_option linter.unusedSimpArgs false
set_option linter.unusedVariables false
set_option maxHeartbeats 4000000
set_option maxRecDepth 100000
def Tup1 (v : AV) : Prop := ∃ (M : List Int) (e : Int), v = .tup [.vec 1 (ints M), .int .i64 e] ∧ M.length < 1000000
theorem lvT_tup {r : Rw} {s : Int} {L : List Int} (h : L.length < 1000000) : Tup1 (lvT r s L) := by
  unfold lvT
  split
  · split
    · exact ⟨L, 0, rfl, h⟩
    · exact ⟨[], 1, rfl, by simp⟩
  · exact ⟨[], 40, rfl, by simp⟩
theorem plc_small {r : Rw} (h : okR r) : plc r ≤ 2100 := by have := h.a; unfold plc; omega
theorem levs_small {r : Rw} (h : okR r) (nb : Int → List Int) (s : Int) : (levs nb s (plc r)).length < 1000000 := by
  rw [levs_len]; have := plc_small h; omega
end Go.Proofs.Ytgjahkebhlphgaa
