/- Pairs in order: more ways first, then the lesser place. -/
import Derived.Test.YtjebbkpbaglooaaSb
import Derived.Test.YtjebbkpbaglooaaHx
namespace Go.Proofs.Ytjebbkpbaglooaa
set_option linter.unusedSimpArgs false
set_option linter.unusedVariables false
set_option maxHeartbeats 4000000
set_option maxRecDepth 100000
open Go.Sort (size_swp)
def ltP (a b : Ed) : Bool := decide (b.1 < a.1 ∨ (a.1 = b.1 ∧ a.2 < b.2))
theorem ordrP : Ordr ltP := by
  refine ⟨fun x => by simp [ltP], fun x y z h1 h2 => ?_, fun x y h1 h2 => ?_⟩
  · simp only [ltP, decide_eq_true_eq] at *; omega
  · simp only [ltP, decide_eq_false_iff_not] at *
    refine Prod.ext ?_ ?_ <;> omega
theorem at_e {d : Array Ed} {i : Nat} (h : i < d.size) : rdc (prs (d.toList.drop i)) (some 2) = some (.agg [.int .i64 d[i]!.1, .int .i64 d[i]!.2]) := by
  rw [prs_at (by simpa using h), arr_at h]
theorem prs_at1 {l : List Ed} {i : Nat} (h : i < l.length) : rdc (prs (l.drop i)) none = some (.int .i64 (l.getD i default).1) := by
  rw [List.drop_eq_getElem_cons h, prs_cons, List.getD_eq_getElem?_getD, List.getElem?_eq_getElem h]; rfl
theorem prs_at2 {l : List Ed} {i : Nat} (h : i < l.length) : rdc ((prs (l.drop i)).drop 1) none = some (.int .i64 (l.getD i default).2) := by
  rw [List.drop_eq_getElem_cons h, prs_cons, List.getD_eq_getElem?_getD, List.getElem?_eq_getElem h]; rfl
theorem at_e1 {d : Array Ed} {i : Nat} (h : i < d.size) : rdc (prs (d.toList.drop i)) none = some (.int .i64 d[i]!.1) := by
  rw [prs_at1 (by simpa using h), arr_at h]
theorem at_e2 {d : Array Ed} {i : Nat} (h : i < d.size) : rdc ((prs (d.toList.drop i)).drop 1) none = some (.int .i64 d[i]!.2) := by
  rw [prs_at2 (by simpa using h), arr_at h]
theorem prs_set2 (x : Ed) : ∀ (l : List Ed) (i : Nat), ((prs l).set (i * 2) (.int .i64 x.1)).set (i * 2 + 1) (.int .i64 x.2) = prs (l.set i x)
  | [], i => by simp [prs]
  | y :: l, 0 => by simp [prs_cons]
  | y :: l, i + 1 => by
    have ih := prs_set2 x l i
    rw [prs_cons, List.set_cons_succ, prs_cons, show (i + 1) * 2 = i * 2 + 1 + 1 by omega, List.set_cons_succ, List.set_cons_succ, List.set_cons_succ, List.set_cons_succ, ih]
theorem prs_set1 (x : Int) : ∀ (l : List Ed) (i : Nat), (prs l).set (i * 2) (.int .i64 x) = prs (l.set i (x, (l.getD i default).2))
  | [], i => by simp [prs]
  | y :: l, 0 => by simp [prs_cons]
  | y :: l, i + 1 => by
    have ih := prs_set1 x l i
    rw [prs_cons, show (i + 1) * 2 = i * 2 + 1 + 1 by omega, List.set_cons_succ, List.set_cons_succ, ih]
    rfl
theorem prs_set3 (x : Int) : ∀ (l : List Ed) (i : Nat), (prs l).set (i * 2 + 1) (.int .i64 x) = prs (l.set i ((l.getD i default).1, x))
  | [], i => by simp [prs]
  | y :: l, 0 => by simp [prs_cons]
  | y :: l, i + 1 => by
    have ih := prs_set3 x l i
    rw [prs_cons, show (i + 1) * 2 + 1 = i * 2 + 1 + 1 + 1 by omega, List.set_cons_succ, List.set_cons_succ, ih]
    rfl
theorem swp_e {d : Array Ed} {i j : Nat} : ((((prs d.toList).set (i * 2) (.int .i64 d[j]!.1)).set (i * 2 + 1) (.int .i64 d[j]!.2)).set (j * 2) (.int .i64 d[i]!.1)).set (j * 2 + 1) (.int .i64 d[i]!.2) = prs (Go.Sort.swp d i j).toList := by
  rw [prs_set2, prs_set2, swp_list]
end Go.Proofs.Ytjebbkpbaglooaa
