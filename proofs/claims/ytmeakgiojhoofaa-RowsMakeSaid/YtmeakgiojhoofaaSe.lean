/- Edges in order. -/
import Derived.Test.YtmeakgiojhoofaaSb
import Derived.Test.YtmeakgiojhoofaaHx
namespace Go.Proofs.Ytmeakgiojhoofaa
set_option linter.unusedSimpArgs false
set_option linter.unusedVariables false
open Go.Sort (size_swp)
def ltE (a b : Ed) : Bool := decide (a.1 < b.1 ∨ (a.1 = b.1 ∧ a.2 < b.2))
theorem ordrE : Ordr ltE := by
  refine ⟨fun x => by simp [ltE], fun x y z h1 h2 => ?_, fun x y h1 h2 => ?_⟩
  · simp only [ltE, decide_eq_true_eq] at *; omega
  · simp only [ltE, decide_eq_false_iff_not] at *
    refine Prod.ext ?_ ?_ <;> omega
theorem ord_lt (x y : Ed) : decide (ordE x y < 0) = ltE x y := by
  unfold ordE cmpI ltE
  by_cases h1 : x.1 < y.1
  · simp [h1]
  · by_cases h2 : y.1 < x.1
    · have h3 : ¬ x.1 = y.1 := by omega
      simp [h1, h2, h3]
    · have h3 : x.1 = y.1 := by omega
      by_cases h4 : x.2 < y.2
      · simp [h1, h2, h3, h4]
      · by_cases h5 : y.2 < x.2 <;> simp [h1, h2, h3, h4, h5]
theorem gc_e (x y : Ed) : runP tab 1223 [.agg [.int .i64 x.1, .int .i64 x.2], .agg [.int .i64 y.1, .int .i64 y.2]] [] = some (.int .i64 (ordE x y), []) := byends_run
end Go.Proofs.Ytmeakgiojhoofaa
