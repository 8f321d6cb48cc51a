/- What sorts are gone through by: loops that end, numbers. -/
import Derived.Test.YtmeakgiojhoofaaT42
import Derived.Test.YtmeakgiojhoofaaAs
namespace Go.Proofs.Ytmeakgiojhoofaa
set_option linter.unusedSimpArgs false
set_option linter.unusedVariables false
open Go.Sort (size_swp)
theorem Ev_stop {T : Nat → Option Entry} {b : Stmt} {st : St} {Q : AX → St → Prop} (h : Ev T b st (fun x s => x ≠ .normal ∧ Q x s)) : Ev T (.loop b) st Q := Ev_loop0 (fun _ => st) 0 rfl (fun i hi => absurd hi (Nat.not_lt_zero _)) h
theorem tn1 (a : Nat) : ((a : Int) + 1).toNat = a + 1 := by omega
end Go.Proofs.Ytmeakgiojhoofaa
