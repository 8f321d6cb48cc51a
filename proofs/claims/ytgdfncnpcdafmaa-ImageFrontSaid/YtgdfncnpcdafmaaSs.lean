/- Texts in order. -/
import Derived.Test.YtgdfncnpcdafmaaT03
import Derived.Test.YtgdfncnpcdafmaaDs
namespace Go.Proofs.Ytgdfncnpcdafmaa
set_option linter.unusedSimpArgs false
set_option linter.unusedVariables false
open Go.Sort (size_swp)
theorem Ev_stop {T : Nat → Option Entry} {b : Stmt} {st : St} {Q : AX → St → Prop} (h : Ev T b st (fun x s => x ≠ .normal ∧ Q x s)) : Ev T (.loop b) st Q := Ev_loop0 (fun _ => st) 0 rfl (fun i hi => absurd hi (Nat.not_lt_zero _)) h
theorem tn1 (a : Nat) : ((a : Int) + 1).toNat = a + 1 := by omega
end Go.Proofs.Ytgdfncnpcdafmaa

namespace Go.Proofs.Ytgdfncnpcdafmaa
set_option linter.unusedSimpArgs false
set_option linter.unusedVariables false
set_option maxHeartbeats 4000000
set_option maxRecDepth 100000
open Go.Sort (size_swp)
open Go.Lib (compareBytes)
theorem cb_self : ∀ a : Txt, compareBytes a a = 0
  | [] => rfl
  | x :: a => by rw [compareBytes, if_neg (UInt8.lt_irrefl x), if_neg (UInt8.lt_irrefl x)]; exact cb_self a
theorem cb_eq : ∀ a b : Txt, ¬ compareBytes a b < 0 → ¬ compareBytes b a < 0 → a = b
  | [], [], _, _ => rfl
  | [], y :: b, h, _ => absurd (show (-1 : Int) < 0 by decide) h
  | x :: a, [], _, h => absurd (show (-1 : Int) < 0 by decide) h
  | x :: a, y :: b, h1, h2 => by
    rw [compareBytes] at h1 h2
    by_cases hxy : x < y
    · rw [if_pos hxy] at h1; exact absurd (by decide) h1
    · by_cases hyx : y < x
      · rw [if_pos hyx] at h2; exact absurd (by decide) h2
      · rw [if_neg hxy, if_neg hyx] at h1
        rw [if_neg hyx, if_neg hxy] at h2
        have e : x = y := by
          rw [UInt8.lt_iff_toNat_lt] at hxy hyx
          exact UInt8.toNat_inj.1 (by omega)
        rw [e, cb_eq a b h1 h2]
theorem cb_tr : ∀ a b c : Txt, compareBytes a b < 0 → compareBytes b c < 0 → compareBytes a c < 0
  | [], [], c, h, _ => by simp [compareBytes] at h
  | [], y :: b, [], _, h => by simp [compareBytes] at h
  | [], y :: b, z :: c, _, _ => by simp [compareBytes]
  | x :: a, [], c, h, _ => by simp [compareBytes] at h
  | x :: a, y :: b, [], _, h => by simp [compareBytes] at h
  | x :: a, y :: b, z :: c, h1, h2 => by
    rw [compareBytes] at h1 h2 ⊢
    have l1 := @UInt8.lt_iff_toNat_lt x y
    have l2 := @UInt8.lt_iff_toNat_lt y x
    have l3 := @UInt8.lt_iff_toNat_lt y z
    have l4 := @UInt8.lt_iff_toNat_lt z y
    have l5 := @UInt8.lt_iff_toNat_lt x z
    have l6 := @UInt8.lt_iff_toNat_lt z x
    by_cases hxy : x < y
    · by_cases hyz : y < z
      · rw [if_pos (l5.2 (by have := l1.1 hxy; have := l3.1 hyz; omega))]; decide
      · by_cases hzy : z < y
        · rw [if_neg hyz, if_pos hzy] at h2; exact absurd h2 (by decide)
        · have e : y = z := UInt8.toNat_inj.1 (by rw [l3] at hyz; rw [l4] at hzy; omega)
          subst e
          rw [if_pos hxy]; decide
    · by_cases hyx : y < x
      · rw [if_neg hxy, if_pos hyx] at h1; exact absurd h1 (by decide)
      · have e : x = y := UInt8.toNat_inj.1 (by rw [l1] at hxy; rw [l2] at hyx; omega)
        subst e
        rw [if_neg hxy, if_neg hyx] at h1
        by_cases hyz : x < z
        · rw [if_pos hyz]; decide
        · by_cases hzy : z < x
          · rw [if_neg hyz, if_pos hzy] at h2; exact absurd h2 (by decide)
          · rw [if_neg hyz, if_neg hzy] at h2 ⊢
            exact cb_tr a b c h1 h2
def ltS (a b : Txt) : Bool := decide (compareBytes a b < 0)
theorem ordrS : Ordr ltS := by
  refine ⟨fun x => by simp [ltS, cb_self], fun x y z h1 h2 => ?_, fun x y h1 h2 => ?_⟩
  · simp only [ltS, decide_eq_true_eq] at *; exact cb_tr _ _ _ h1 h2
  · simp only [ltS, decide_eq_false_iff_not] at *; exact cb_eq _ _ h1 h2
theorem cms_lt (x y : Txt) : decide (compareBytes x y < 0) = ltS x y := rfl
theorem gc_s (x y : Txt) : runP tab 1224 [.str x, .str y] [] = some (.int .i64 (compareBytes x y), []) := by
  refine runP_fn t1224 rfl ?_
  have g : runP tab 1225 [.str x, .str y] [] = some (.int .i64 (compareBytes x y), []) := by rw [runP_orc t1225]; rfl
  simp (config := { maxSteps := 1000000 }) (disch := omega) only [go_sem, ↓reduceIte, Nat.reduceEqDiff, Nat.reduceAdd, Int.reduceToNat, reduceCtorEq, Nat.reduceLeDiff, Nat.reduceSub, Nat.reduceDiv, Nat.reduceMod, Nat.reduceMul, d1224, g]
end Go.Proofs.Ytgdfncnpcdafmaa
