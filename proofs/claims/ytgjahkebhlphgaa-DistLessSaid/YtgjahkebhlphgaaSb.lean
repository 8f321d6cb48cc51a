/- What sorts are gone through by: loops that end, numbers. -/
import Derived.Test.YtgjahkebhlphgaaT78
import Derived.Test.YtgjahkebhlphgaaRq
import Derived.Sort.AssemblyPlain
namespace Go.Proofs.Ytgjahkebhlphgaa
set_option linter.unusedSimpArgs false
set_option linter.unusedVariables false
open Go.Sort (size_swp)
theorem Ev_stop {T : Nat → Option Entry} {b : Stmt} {st : St} {Q : AX → St → Prop} (h : Ev T b st (fun x s => x ≠ .normal ∧ Q x s)) : Ev T (.loop b) st Q := Ev_loop0 (fun _ => st) 0 rfl (fun i hi => absurd hi (Nat.not_lt_zero _)) h
theorem Ev_step {T : Nat → Option Entry} {b : Stmt} {st st' : St} {Q : AX → St → Prop} (h : Ev T b st (fun x s => x = .normal ∧ s = st')) (k : Ev T (.loop b) st' Q) : Ev T (.loop b) st Q := by
  obtain ⟨⟨x, s⟩, h1, h2, h3⟩ := h
  simp only at h2 h3
  subst h2 h3
  obtain ⟨r, h4, h5⟩ := k
  exact ⟨r, by rw [run_eq]; simpa [F, h1] using h4, h5⟩
theorem tn1 (a : Nat) : ((a : Int) + 1).toNat = a + 1 := by omega
end Go.Proofs.Ytgjahkebhlphgaa
