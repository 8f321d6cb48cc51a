/- Layer 7: LevelBack, LevelBalls. -/
import Derived.Test.YtgjahkebhlphgaaVl
namespace Go.Proofs.Ytgjahkebhlphgaa
set_option linter.unusedSimpArgs false
set_option linter.unusedVariables false
set_option maxHeartbeats 4000000
set_option maxRecDepth 100000
theorem levs_get {nb : Int → List Int} {s : Int} {n i : Nat} (h : i < n) : (levs nb s n).getD i 0 = lev nb s i := by
  have := levs_at (nb := nb) (s := s) (n := n) (x := (i : Int)) (by omega) (by omega)
  rw [Int.toNat_natCast] at this
  exact this
theorem nbr_rev {r : Rw} (ok : r.ok) {v w : Nat} (hv : v < plc r) (hw : w < plc r) : lev (nbr r false) v w = lev (nbr r true) w v :=
  lev_rev (nbr_plc ok false) (nbr_plc ok true) (nbr_mirror ok false) ⟨by omega, by omega⟩ ⟨by omega, by omega⟩
end Go.Proofs.Ytgjahkebhlphgaa
