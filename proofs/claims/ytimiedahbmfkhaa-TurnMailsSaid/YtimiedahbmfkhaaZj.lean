/- Layer 17: messages in order. -/
import Derived.Test.YtimiedahbmfkhaaZb
import Derived.Test.YtimiedahbmfkhaaMl
namespace Go.Proofs.Ytimiedahbmfkhaa
set_option linter.unusedSimpArgs false
set_option linter.unusedVariables false
set_option maxHeartbeats 4000000
set_option maxRecDepth 100000
def z4 : List AV := [.int .i64 0, .int .i64 0, .int .i64 0, .int .i64 0]
def delM (l : List Ml) (i : Nat) : List Ml := (l.take i ++ l.drop (i + 1) ++ l.drop (l.length - 1)).set (l.length - 1) ⟨0, 0, 0, 0⟩
theorem delM_len {l : List Ml} {i : Nat} (hi : i < l.length) : (delM l i).length = l.length := by
  simp [delM]; omega
theorem delM_take {l : List Ml} {i : Nat} (hi : i < l.length) : (delM l i).take (l.length - 1) = l.take i ++ l.drop (i + 1) := by
  unfold delM
  rw [List.take_set_of_le (Nat.le_refl _), List.take_left' (by simp; omega)]
theorem delM_last {l : List Ml} {i : Nat} (hi : i + 1 = l.length) : delM l i = l.set i ⟨0, 0, 0, 0⟩ := by
  unfold delM
  rw [hi, List.drop_length, List.append_nil, show l.length - 1 = i by omega, List.take_append_drop]
theorem delM_cut {l : List Ml} {i : Nat} (hi : i < l.length) : setAll (mls l) (i * 4) (mls (l.drop (i + 1))) = mls (l.take i ++ l.drop (i + 1) ++ l.drop (l.length - 1)) := by
  rw [setAll_eq _ _ _ (by simp only [mls_len, List.length_drop]; omega), mls_len, List.length_drop, show i * 4 + (l.length - (i + 1)) * 4 = (l.length - 1) * 4 by omega, mls_take, mls_drop, mls_app, mls_app]
theorem mls_set4 {l : List Ml} {i : Nat} (h : i < l.length) : (((((mls l).set (i * 4) (.int .i64 0)).set (i * 4 + 1) (.int .i64 0)).set (i * 4 + 1 + 1) (.int .i64 0)).set (i * 4 + 1 + 1 + 1) (.int .i64 0)) = mls (l.set i ⟨0, 0, 0, 0⟩) := by
  induction i generalizing l with
  | zero => cases l with
    | nil => simp at h
    | cons r l => rfl
  | succ i ih => cases l with
    | nil => simp at h
    | cons r l =>
      have ih := ih (l := l) (by simpa using h)
      rw [mls_cons, show (i + 1) * 4 = (i * 4) + 1 + 1 + 1 + 1 by omega]
      simp only [List.set_cons_succ, List.set_cons_succ, mls_cons] at ih ⊢
      rw [← ih]
theorem delm_run {l : List Ml} {i : Nat} (hi : i < l.length) (hb : l.length ≤ 1000000) : runP tab 1132 [.own 4 0, .int .i64 i, .int .i64 ((i : Int) + 1)] [.row false (mls l)] = some (.osl 4 0 0 (l.length - 1), [.row false (mls (delM l i))]) := by
  refine runP_fn t1132 rfl ?_
  have hq : ((i : Int) + 1).toNat = i + 1 := by omega
  have hs1 : i + (l.length - (i + 1)) = l.length - 1 := by omega
  have hs2 : l.length - (l.length - 1) = 1 := by omega
  have hs3 : (l.length : Int) - 1 = ((l.length - 1 : Nat) : Int) := by omega
  by_cases h1 : i + 1 = l.length
  · have hE : (List.drop (i + 1) l).isEmpty = true := by rw [h1]; simp
    have hi2 : l.length - 1 = i := by omega
    have hs4 : l.length - i = 1 := by omega
    have h4 := mls_set4 hi
    rw [delM_last h1]
    simp (config := { maxSteps := 1000000 }) (disch := omega) only [go_sem, ↓reduceIte, Nat.reduceEqDiff, Nat.reduceAdd, Int.reduceToNat, reduceCtorEq, Nat.reduceLeDiff, Nat.reduceSub, Nat.reduceDiv, Nat.reduceMod, Nat.reduceMul, d1132, hq, hs2, hs4, List.drop_length, Nat.sub_self, mls_nil, h1, setAll_length, hi2, h4]
  · have hE : (List.drop (i + 1) l).isEmpty = false := by
      cases h : List.drop (i + 1) l with
      | nil => rw [List.drop_eq_nil_iff] at h; omega
      | cons a b => rfl
    have hc := delM_cut hi
    have hle : l.length - 1 < (l.take i ++ l.drop (i + 1) ++ l.drop (l.length - 1)).length := by simp; omega
    have h4 := mls_set4 hle
    simp (config := { maxSteps := 1000000 }) (disch := omega) only [go_sem, ↓reduceIte, Nat.reduceEqDiff, Nat.reduceAdd, Int.reduceToNat, reduceCtorEq, Nat.reduceLeDiff, Nat.reduceSub, Nat.reduceDiv, Nat.reduceMod, Nat.reduceMul, d1132, hq, hs1, hs2, hE, delM, h1, if_false, setAll_length, hc, h4]
end Go.Proofs.Ytimiedahbmfkhaa
