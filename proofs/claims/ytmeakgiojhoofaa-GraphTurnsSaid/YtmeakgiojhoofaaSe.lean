/- Edges in order. -/
import Derived.Test.YtmeakgiojhoofaaSb
import Derived.Test.YtmeakgiojhoofaaHx
namespace Go.Proofs.Ytmeakgiojhoofaa
set_option linter.unusedSimpArgs false
set_option linter.unusedVariables false
open Go.Sort (size_swp)
def ltE (a b : Ed) : Bool := decide (a.1 < b.1 ∨ (a.1 = b.1 ∧ a.2 < b.2))
theorem ordrE : Ordr ltE := by
  refine ⟨fun x => by simp [ltE], fun x y z h1 h2 => ?_, fun x y h1 h2 => ?_⟩
  · simp only [ltE, decide_eq_true_eq] at *; omega
  · simp only [ltE, decide_eq_false_iff_not] at *
    refine Prod.ext ?_ ?_ <;> omega
theorem ord_lt (x y : Ed) : decide (ordE x y < 0) = ltE x y := by
  unfold ordE cmpI ltE
  by_cases h1 : x.1 < y.1
  · simp [h1]
  · by_cases h2 : y.1 < x.1
    · have h3 : ¬ x.1 = y.1 := by omega
      simp [h1, h2, h3]
    · have h3 : x.1 = y.1 := by omega
      by_cases h4 : x.2 < y.2
      · simp [h1, h2, h3, h4]
      · by_cases h5 : y.2 < x.2 <;> simp [h1, h2, h3, h4, h5]
theorem at_e {d : Array Ed} {i : Nat} (h : i < d.size) : rdc (prs (d.toList.drop i)) (some 2) = some (.agg [.int .i64 d[i]!.1, .int .i64 d[i]!.2]) := by
  rw [prs_at (by simpa using h), arr_at h]
theorem prs_set2 (x : Ed) : ∀ (l : List Ed) (i : Nat), ((prs l).set (i * 2) (.int .i64 x.1)).set (i * 2 + 1) (.int .i64 x.2) = prs (l.set i x)
  | [], i => by simp [prs]
  | y :: l, 0 => by simp [prs_cons]
  | y :: l, i + 1 => by
    have ih := prs_set2 x l i
    rw [prs_cons, List.set_cons_succ, prs_cons, show (i + 1) * 2 = i * 2 + 1 + 1 by omega, List.set_cons_succ, List.set_cons_succ, List.set_cons_succ, List.set_cons_succ, ih]
theorem swp_e {d : Array Ed} {i j : Nat} : ((((prs d.toList).set (i * 2) (.int .i64 d[j]!.1)).set (i * 2 + 1) (.int .i64 d[j]!.2)).set (j * 2) (.int .i64 d[i]!.1)).set (j * 2 + 1) (.int .i64 d[i]!.2) = prs (Go.Sort.swp d i j).toList := by
  rw [prs_set2, prs_set2, swp_list]
theorem gc_e (x y : Ed) : runP tab 1223 [.agg [.int .i64 x.1, .int .i64 x.2], .agg [.int .i64 y.1, .int .i64 y.2]] [] = some (.int .i64 (ordE x y), []) := byends_run
end Go.Proofs.Ytmeakgiojhoofaa
