/- Layer 7: the document's rows; LevelTells. -/
import Derived.Test.YtgjahkebhlphgaaVj
namespace Go.Proofs.Ytgjahkebhlphgaa
set_option linter.unusedSimpArgs false
set_option linter.unusedVariables false
set_option maxHeartbeats 4000000
set_option maxRecDepth 100000
theorem levs_by {r : Rw} (ok : r.ok) (b : Bool) {s : Nat} (h : s < plc r) : levs (nbr r b) s (plc r) = rounds (eds r b) ((List.replicate (plc r) (-1 : Int)).set s 0) (plc r) := by
  obtain ⟨k1, k2⟩ := eds_ok ok b
  have := rounds_levs (nbr_plc ok b) (s := (s : Int)) ⟨by omega, by omega⟩ k1 k2
  rw [Int.toNat_natCast] at this
  exact this.symm
theorem lvT_yes {r : Rw} {s : Int} {L : List Int} (h : chk r = true) (h2 : 0 ≤ s ∧ s < plc r) : lvT r s L = .tup [.vec 1 (ints L), .int .i64 0] := by rw [lvT, if_pos h, if_pos h2]
theorem lvT_far {r : Rw} {s : Int} {L : List Int} (h : chk r = true) (h2 : ¬ (0 ≤ s ∧ s < plc r)) : lvT r s L = .tup [.vec 1 [], .int .i64 1] := by rw [lvT, if_pos h, if_neg h2]
theorem lvT_no {r : Rw} {s : Int} {L : List Int} (h : ¬ chk r = true) : lvT r s L = .tup [.vec 1 [], .int .i64 40] := by rw [lvT, if_neg h]
end Go.Proofs.Ytgjahkebhlphgaa
