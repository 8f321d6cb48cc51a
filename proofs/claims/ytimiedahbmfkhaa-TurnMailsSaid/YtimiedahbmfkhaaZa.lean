/- Layer 17: the picks that follow, and what is left. -/
import Derived.Test.YtimiedahbmfkhaaT17
import Derived.Test.YtimiedahbmfkhaaKh
import Derived.Test.YtimiedahbmfkhaaDs
namespace Go.Proofs.Ytimiedahbmfkhaa
set_option linter.unusedSimpArgs false
set_option linter.unusedVariables false
set_option maxHeartbeats 4000000
set_option maxRecDepth 100000
theorem follow_run {p : List Int} : runP tab 1126 [.sl 1 (ints p)] [] = some (.clo 1131 [] [.box [.int .i64 0], .box [.sl 1 (ints p)]], []) := by
  refine runP_fn t1126 rfl ?_
  simp (config := { maxSteps := 1000000 }) (disch := omega) only [go_sem, ↓reduceIte, Nat.reduceEqDiff, Nat.reduceAdd, Int.reduceToNat, reduceCtorEq, Nat.reduceLeDiff, Nat.reduceSub, Nat.reduceDiv, Nat.reduceMod, Nat.reduceMul, d1126]
theorem nxz_run {p : List Int} {k : Nat} (hk : k < p.length) (hp : p.length ≤ 1000000) : runP tab 1131 [.ref 0 0, .ref 1 0] [.row false [.int .i64 (k : Int)], .row false [.sl 1 (ints p)]] = some (.tup [.int .i64 (p.getD k 0), .bool true], [.row false [.int .i64 ((k + 1 : Nat) : Int)], .row false [.sl 1 (ints p)]]) := by
  refine runP_fn t1131 rfl ?_
  have e : ((k : Int) + 1 - 1).toNat = k := by omega
  simp (config := { maxSteps := 1000000 }) (disch := omega) only [go_sem, ↓reduceIte, Nat.reduceEqDiff, Nat.reduceAdd, Int.reduceToNat, reduceCtorEq, Nat.reduceLeDiff, Nat.reduceSub, Nat.reduceDiv, Nat.reduceMod, Nat.reduceMul, d1131, e]
theorem next_no {p : List Int} {k : Nat} (hk : k = p.length) (hp : p.length ≤ 1000000) : runP tab 1131 [.ref 0 0, .ref 1 0] [.row false [.int .i64 (k : Int)], .row false [.sl 1 (ints p)]] = some (.tup [.int .i64 0, .bool false], [.row false [.int .i64 (k : Int)], .row false [.sl 1 (ints p)]]) := by
  refine runP_fn t1131 rfl ?_
  simp (config := { maxSteps := 1000000 }) (disch := omega) only [go_sem, ↓reduceIte, Nat.reduceEqDiff, Nat.reduceAdd, Int.reduceToNat, reduceCtorEq, Nat.reduceLeDiff, Nat.reduceSub, Nat.reduceDiv, Nat.reduceMod, Nat.reduceMul, d1131, hk]
def pckI (n p : Int) : Int := if n < 1 then 0 else p % n
theorem tmod_cases {n p : Int} (hn : 0 < n) : (p.tmod n < 0 ∧ p % n = p.tmod n + n ∨ 0 ≤ p.tmod n ∧ p % n = p.tmod n) ∧ -n < p.tmod n ∧ p.tmod n < n := by
  have h1 := Int.tmod_add_mul_tdiv p n
  have h2 : p % n = p.tmod n % n := by
    conv => lhs; rw [← h1]
    rw [Int.add_mul_emod_self_left]
  have h3 := Int.tmod_lt_of_pos p hn
  have h4 : -n < p.tmod n := by
    have := Int.tmod_lt_of_pos (-p) hn
    rw [Int.neg_tmod] at this
    omega
  refine ⟨?_, h4, h3⟩
  by_cases h : p.tmod n < 0
  · refine .inl ⟨h, ?_⟩
    rw [h2, ← Int.add_emod_right, Int.emod_eq_of_lt (by omega) (by omega)]
  · refine .inr ⟨by omega, ?_⟩
    rw [h2, Int.emod_eq_of_lt (by omega) (by omega)]
theorem pick_run {n p : Int} (hn : I64 n) (hp : I64 p) : runP tab 1112 [.int .i64 n, .int .i64 p] [] = some (.tup [.int .i64 (pckI n p), .bool (decide (1 ≤ n))], []) := by
  refine runP_fn t1112 rfl ?_
  obtain ⟨n1, n2⟩ := hn
  obtain ⟨p1, p2⟩ := hp
  by_cases h : n < 1
  · simp (config := { maxSteps := 1000000 }) (disch := omega) only [go_sem, ↓reduceIte, Nat.reduceEqDiff, Nat.reduceAdd, Int.reduceToNat, reduceCtorEq, Nat.reduceLeDiff, Nat.reduceSub, Nat.reduceDiv, Nat.reduceMod, Nat.reduceMul, d1112, pckI]
  · obtain ⟨h1 | h1, h2, h3⟩ := @tmod_cases n p (by omega)
    · obtain ⟨h4, h5⟩ := h1
      simp (config := { maxSteps := 1000000 }) (disch := omega) only [go_sem, ↓reduceIte, Nat.reduceEqDiff, Nat.reduceAdd, Int.reduceToNat, reduceCtorEq, Nat.reduceLeDiff, Nat.reduceSub, Nat.reduceDiv, Nat.reduceMod, Nat.reduceMul, d1112, pckI, h5]
    · obtain ⟨h4, h5⟩ := h1
      simp (config := { maxSteps := 1000000 }) (disch := omega) only [go_sem, ↓reduceIte, Nat.reduceEqDiff, Nat.reduceAdd, Int.reduceToNat, reduceCtorEq, Nat.reduceLeDiff, Nat.reduceSub, Nat.reduceDiv, Nat.reduceMod, Nat.reduceMul, d1112, pckI, h5]
def delN (l : List Int) (i : Nat) : List Int := (l.take i ++ l.drop (i + 1) ++ l.drop (l.length - 1)).set (l.length - 1) 0
theorem delN_len {l : List Int} {i : Nat} (hi : i < l.length) : (delN l i).length = l.length := by
  simp [delN]; omega
theorem delN_take {l : List Int} {i : Nat} (hi : i < l.length) : (delN l i).take (l.length - 1) = l.take i ++ l.drop (i + 1) := by
  unfold delN
  rw [List.take_set_of_le (Nat.le_refl _), List.take_left' (by simp; omega)]
theorem delN_last {l : List Int} {i : Nat} (hi : i + 1 = l.length) : delN l i = l.set i 0 := by
  unfold delN
  rw [hi, List.drop_length, List.append_nil, show l.length - 1 = i by omega, List.take_append_drop]
theorem delN_cut {l : List Int} {i : Nat} (hi : i < l.length) : setAll (ints l) i (ints (l.drop (i + 1))) = ints (l.take i ++ l.drop (i + 1) ++ l.drop (l.length - 1)) := by
  rw [setAll_eq _ _ _ (by simp only [ints_length, List.length_drop]; omega), ints_length, List.length_drop, show i + (l.length - (i + 1)) = l.length - 1 by omega, ints_take, ints_drop, ints_append, ints_append]
theorem deli_run {l : List Int} {i : Nat} (hi : i < l.length) (hb : l.length ≤ 1000000) : runP tab 1130 [.own 1 0, .int .i64 i, .int .i64 ((i : Int) + 1)] [.row false (ints l)] = some (.osl 1 0 0 (l.length - 1), [.row false (ints (delN l i))]) := by
  refine runP_fn t1130 rfl ?_
  have hq : ((i : Int) + 1).toNat = i + 1 := by omega
  have hs1 : i + (l.length - (i + 1)) = l.length - 1 := by omega
  have hs2 : l.length - (l.length - 1) = 1 := by omega
  have hs3 : (l.length : Int) - 1 = ((l.length - 1 : Nat) : Int) := by omega
  by_cases h1 : i + 1 = l.length
  · have hE : (List.drop (i + 1) l).isEmpty = true := by rw [h1]; simp
    have hE2 : List.drop (i + 1) l = [] := by rw [h1]; simp
    have hi2 : l.length - 1 = i := by omega
    have hs4 : l.length - i = 1 := by omega
    rw [delN_last h1]
    simp (config := { maxSteps := 1000000 }) (disch := omega) only [go_sem, ↓reduceIte, Nat.reduceEqDiff, Nat.reduceAdd, Int.reduceToNat, reduceCtorEq, Nat.reduceLeDiff, Nat.reduceSub, Nat.reduceDiv, Nat.reduceMod, Nat.reduceMul, d1130, hq, hs2, hs4, List.drop_length, Nat.sub_self, h1, setAll_length, hi2]
  · have hE : (List.drop (i + 1) l).isEmpty = false := by
      cases h : List.drop (i + 1) l with
      | nil => rw [List.drop_eq_nil_iff] at h; omega
      | cons a b => rfl
    have hc := delN_cut hi
    simp (config := { maxSteps := 1000000 }) (disch := omega) only [go_sem, ↓reduceIte, Nat.reduceEqDiff, Nat.reduceAdd, Int.reduceToNat, reduceCtorEq, Nat.reduceLeDiff, Nat.reduceSub, Nat.reduceDiv, Nat.reduceMod, Nat.reduceMul, d1130, hq, hs1, hs2, hE, delN, h1, if_false, setAll_length, hc]
def tst {α : Type} [Inhabited α] (p : List Int) (l : List α) : Nat → List α × List α
  | 0 => (l, [])
  | i + 1 => let s := tst p l i
    let k := (p.getD i 0 % (s.1.length : Int)).toNat
    (s.1.take k ++ s.1.drop (k + 1), s.2 ++ [s.1.getD k default])
section
variable {α : Type} [Inhabited α]
theorem tst_at {p : List Int} {n i : Nat} (hn : 0 < n) : (p.getD i 0 % (n : Int)).toNat < n ∧ ((p.getD i 0 % (n : Int)).toNat : Int) = p.getD i 0 % (n : Int) := by
  have h1 := Int.emod_nonneg (p.getD i 0) (show (n : Int) ≠ 0 by omega)
  have h2 := Int.emod_lt_of_pos (p.getD i 0) (show (0 : Int) < n by omega)
  omega
theorem tst_len {p : List Int} {l : List α} : ∀ {i : Nat}, i ≤ l.length → (tst p l i).1.length = l.length - i ∧ (tst p l i).2.length = i
  | 0, _ => ⟨rfl, rfl⟩
  | i + 1, h => by
    obtain ⟨h1, h2⟩ := @tst_len p l i (by omega)
    have h3 := (tst_at (p := p) (i := i) (show 0 < l.length - i by omega)).1
    constructor
    · simp only [tst, h1, List.length_append, List.length_take, List.length_drop]; omega
    · simp only [tst, List.length_append, h2]; rfl
theorem tst_rest {p : List Int} {l : List α} : ∀ {k : Nat}, p.length + k ≤ l.length → (tst p l (p.length + k)).2 ++ (tst p l (p.length + k)).1 = (tst p l p.length).2 ++ (tst p l p.length).1
  | 0, _ => rfl
  | k + 1, h => by
    rw [← tst_rest (k := k) (by omega)]
    have h1 := (tst_len (p := p) (l := l) (i := p.length + k) (by omega)).1
    have e : p.getD (p.length + k) 0 = 0 := by rw [List.getD_eq_getElem?_getD, List.getElem?_eq_none (by omega)]; rfl
    rw [← Nat.add_assoc]
    simp only [tst, e, Int.zero_emod, Int.toNat_zero, List.take_zero, List.nil_append, List.append_assoc]
    congr 1
    cases hc : (tst p l (p.length + k)).1 with
    | nil => rw [hc] at h1; simp at h1; omega
    | cons a b => rfl
def ordd (p : List Int) (l : List α) : List α := (tst p l l.length).2
theorem ordd_min (p : List Int) (l : List α) : ordd p l = (tst p l (min l.length p.length)).2 ++ (tst p l (min l.length p.length)).1 := by
  have h0 : (tst p l l.length).1 = [] := List.eq_nil_of_length_eq_zero (by rw [(tst_len (Nat.le_refl _)).1]; omega)
  by_cases h : l.length ≤ p.length
  · rw [Nat.min_eq_left h, h0, List.append_nil]; rfl
  · rw [Nat.min_eq_right (by omega), ← tst_rest (k := l.length - p.length) (by omega), show p.length + (l.length - p.length) = l.length by omega, h0, List.append_nil]; rfl
theorem ordd_len (p : List Int) (l : List α) : (ordd p l).length = l.length := (tst_len (Nat.le_refl _)).2
end
end Go.Proofs.Ytimiedahbmfkhaa
