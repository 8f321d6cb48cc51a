/- Rows: small functions. -/
import Derived.Test.YtpanhbaiimnlhaaT10
import Derived.Test.YtpanhbaiimnlhaaDs
namespace Go.Proofs.Ytpanhbaiimnlhaa
set_option linter.unusedSimpArgs false
set_option linter.unusedVariables false
set_option maxHeartbeats 4000000
set_option maxRecDepth 100000
def mono (l : List Int) : Prop := ∀ v, v + 1 < l.length → gi l v ≤ gi l (v + 1)
end Go.Proofs.Ytpanhbaiimnlhaa
namespace Go.Proofs.Ytpanhbaiimnlhaa
set_option linter.unusedSimpArgs false
set_option linter.unusedVariables false
set_option maxHeartbeats 4000000
set_option maxRecDepth 100000
structure Lay (off to : List Int) : Prop where
  lo : 2 ≤ off.length
  hi : off.length ≤ 201
  tl : to.length ≤ 2000
  z : gi off 0 = 0
  e : gi off (off.length - 1) = to.length
  mono : ∀ v, v + 1 < off.length → gi off v ≤ gi off (v + 1)
section
variable {off to : List Int}
theorem Lay.oz (H : Lay off to) : oi off 0 = 0 := by rw [oi, H.z]; rfl
theorem Lay.nn (H : Lay off to) {v : Nat} (h : v < off.length) : 0 ≤ gi off v := by rw [← H.z]; exact mono_of H.mono (Nat.zero_le _) h
theorem Lay.le (H : Lay off to) {v : Nat} (h : v < off.length) : gi off v ≤ to.length := by rw [← H.e]; exact mono_of H.mono (by omega) (by omega)
theorem Lay.gn (H : Lay off to) {v : Nat} (h : v < off.length) : gi off v = oi off v := by have := H.nn h; rw [oi]; omega
theorem Lay.ole (H : Lay off to) {v : Nat} (h : v < off.length) : oi off v ≤ to.length := by have := H.le h; have := H.gn h; omega
theorem Lay.oe (H : Lay off to) : oi off (off.length - 1) = to.length := by rw [oi, H.e]; rfl
end
end Go.Proofs.Ytpanhbaiimnlhaa
namespace Go.Proofs.Ytpanhbaiimnlhaa
set_option linter.unusedSimpArgs false
set_option linter.unusedVariables false
set_option maxHeartbeats 4000000
set_option maxRecDepth 100000
def nx (roff to : List Int) (k : Nat) : List Int := (List.range roff.length).map fun w => gi roff w + cntI to w k
end Go.Proofs.Ytpanhbaiimnlhaa
namespace Go.Proofs.Ytpanhbaiimnlhaa
set_option linter.unusedSimpArgs false
set_option linter.unusedVariables false
set_option maxHeartbeats 4000000
set_option maxRecDepth 100000
end Go.Proofs.Ytpanhbaiimnlhaa
