/- Layer 11: the order of a number. -/
import Derived.Test.YtjebbkpbaglooaaOc
namespace Go.Proofs.Ytjebbkpbaglooaa
set_option linter.unusedSimpArgs false
set_option linter.unusedVariables false
set_option maxHeartbeats 4000000
set_option maxRecDepth 100000
def fac : Nat → Nat
  | 0 => 1
  | n + 1 => fac n * (n + 1)
theorem fac_pos : ∀ n, 0 < fac n
  | 0 => Nat.one_pos
  | n + 1 => Nat.mul_pos (fac_pos n) (Nat.succ_pos n)
theorem fac_le {n : Nat} (h : n ≤ 12) : fac n ≤ 479001600 := by
  have : ∀ n, n < 13 → fac n ≤ 479001600 := by decide
  exact this n (by omega)
def nthR : Nat → List Int → Nat → List Int
  | 0, _, _ => []
  | m + 1, left, k => left.getD (k / fac m) 0 :: nthR m (left.take (k / fac m) ++ left.drop (k / fac m + 1)) (k % fac m)
theorem nthR_len : ∀ (m : Nat) (left : List Int) (k : Nat), (nthR m left k).length = m
  | 0, _, _ => rfl
  | m + 1, left, k => by rw [nthR, List.length_cons, nthR_len m]
def nst (n k : Nat) : Nat → List Int × List Int
  | 0 => (upI n, [])
  | i + 1 => let s := nst n k i
    let a := k / fac (n - 1 - i) % (n - i)
    (s.1.take a ++ s.1.drop (a + 1), s.2 ++ [s.1.getD a 0])
theorem nst_len {n k : Nat} : ∀ {i : Nat}, i ≤ n → (nst n k i).1.length = n - i ∧ (nst n k i).2.length = i
  | 0, _ => ⟨by rw [nst, upI_len]; rfl, rfl⟩
  | i + 1, h => by
    obtain ⟨h1, h2⟩ := @nst_len n k i (by omega)
    have h3 := Nat.mod_lt (k / fac (n - 1 - i)) (show 0 < n - i by omega)
    simp only [nst]
    constructor
    · rw [List.length_append, List.length_take, List.length_drop, h1]; omega
    · rw [List.length_append, h2]; rfl
theorem nst_nth {n k : Nat} (hk : k < fac n) : ∀ {i : Nat}, i ≤ n → (nst n k i).2 ++ nthR (n - i) (nst n k i).1 (k % fac (n - i)) = nthR n (upI n) k
  | 0, _ => by
    rw [nst, List.nil_append, Nat.sub_zero, Nat.mod_eq_of_lt hk]
  | i + 1, h => by
    rw [← nst_nth hk (i := i) (by omega)]
    obtain ⟨m, hm⟩ : ∃ m, n - i = m + 1 := ⟨n - i - 1, by omega⟩
    rw [show n - (i + 1) = m by omega, hm]
    simp only [nst]
    rw [show n - 1 - i = m by omega, hm, nthR, fac, Nat.mod_mul_right_div_self, Nat.mod_mul_right_mod, List.append_assoc]
    rfl
theorem nst_all {n k : Nat} (hk : k < fac n) : (nst n k n).2 = nthR n (upI n) k := by
  have := nst_nth hk (i := n) (Nat.le_refl _)
  rwa [Nat.sub_self, nthR, List.append_nil] at this
theorem pick_perm {l : List Int} {a : Nat} (h : a < l.length) : (l.getD a 0 :: (l.take a ++ l.drop (a + 1))).Perm l := by
  have e : l.take a ++ l.getD a 0 :: l.drop (a + 1) = l := by
    rw [List.getD_eq_getElem?_getD, List.getElem?_eq_getElem h]
    show l.take a ++ l[a] :: l.drop (a + 1) = l
    rw [← List.drop_eq_getElem_cons h, List.take_append_drop]
  conv => rhs; rw [← e]
  exact List.perm_middle.symm
theorem div_lt {m k : Nat} (h : k < fac (m + 1)) : k / fac m < m + 1 := Nat.div_lt_of_lt_mul h
theorem nthR_perm : ∀ {m : Nat} {left : List Int} {k : Nat}, left.length = m → k < fac m → (nthR m left k).Perm left
  | 0, left, k, hl, hk => by
    rw [nthR, List.eq_nil_of_length_eq_zero hl]
  | m + 1, left, k, hl, hk => by
    have h1 := div_lt hk
    rw [nthR]
    refine List.Perm.trans (List.Perm.cons _ (nthR_perm (m := m) ?_ (Nat.mod_lt _ (fac_pos m)))) (pick_perm (by omega))
    rw [List.length_append, List.length_take, List.length_drop, hl]; omega
theorem orders_run {n : Nat} (hn : n ≤ 12) : runP tab 1195 [.int .i64 (n : Int)] [] = some (.int .i64 (fac n : Int), []) := by
  refine runP_fn t1195 rfl ?_
  simp (config := { maxSteps := 1000000 }) (disch := omega) only [go_sem, ↓reduceIte, Nat.reduceEqDiff, Nat.reduceAdd, Int.reduceToNat, reduceCtorEq, Nat.reduceLeDiff, Nat.reduceSub, Nat.reduceDiv, Nat.reduceMod, Nat.reduceMul, d1195]
  refine Ev_loop0 (fun i => ⟨[(3, .int .i64 (fac i : Int)), (5, .int .i64 (n : Int)), (6, .int .i64 (i : Int))], [], 0, [(0, 0, [3, 5, 6], [])]⟩) n rfl (fun i hi => ?_) ?_
  · have h1 := fac_le (n := i + 1) (by omega)
    have h2 : (fac (i + 1) : Int) = (fac i : Int) * ((i : Int) + 1) := by rw [fac]; exact Int.natCast_mul _ _
    have h3 : (0 : Int) ≤ (fac i : Int) * ((i : Int) + 1) := by rw [← h2]; omega
    have h4 : (fac i : Int) * ((i : Int) + 1) ≤ 479001600 := by rw [← h2]; omega
    rw [h2]
    simp (config := { maxSteps := 1000000 }) (disch := omega) only [go_sem, ↓reduceIte, Nat.reduceEqDiff, Nat.reduceAdd, Int.reduceToNat, reduceCtorEq, Nat.reduceLeDiff, Nat.reduceSub, Nat.reduceDiv, Nat.reduceMod, Nat.reduceMul, d1195_b0]
  · simp (config := { maxSteps := 1000000 }) (disch := omega) only [go_sem, ↓reduceIte, Nat.reduceEqDiff, Nat.reduceAdd, Int.reduceToNat, reduceCtorEq, Nat.reduceLeDiff, Nat.reduceSub, Nat.reduceDiv, Nat.reduceMod, Nat.reduceMul, d1195_b0]
theorem first_run {n : Nat} (hn : n ≤ 1000) : runP tab 1196 [.int .i64 (n : Int)] [] = some (.vec 1 (ints (upI n)), []) := by
  refine runP_fn t1196 rfl ?_
  simp (config := { maxSteps := 1000000 }) (disch := omega) only [go_sem, ↓reduceIte, Nat.reduceEqDiff, Nat.reduceAdd, Int.reduceToNat, reduceCtorEq, Nat.reduceLeDiff, Nat.reduceSub, Nat.reduceDiv, Nat.reduceMod, Nat.reduceMul, d1196]
  refine Ev_loop0 (fun i => ⟨[(3, .own 1 0), (5, .int .i64 (n : Int)), (6, .int .i64 (i : Int))], [.row false (ints (upI i))], 0, [(0, 1, [3, 5, 6], [(3, 0)])]⟩) n rfl (fun i hi => ?_) ?_
  · rw [upI_succ]
    have hle := upI_len i
    simp (config := { maxSteps := 1000000 }) (disch := omega) only [go_sem, ↓reduceIte, Nat.reduceEqDiff, Nat.reduceAdd, Int.reduceToNat, reduceCtorEq, Nat.reduceLeDiff, Nat.reduceSub, Nat.reduceDiv, Nat.reduceMod, Nat.reduceMul, d1196_b0]
  · have hle := upI_len n
    simp (config := { maxSteps := 1000000 }) (disch := omega) only [go_sem, ↓reduceIte, Nat.reduceEqDiff, Nat.reduceAdd, Int.reduceToNat, reduceCtorEq, Nat.reduceLeDiff, Nat.reduceSub, Nat.reduceDiv, Nat.reduceMod, Nat.reduceMul, d1196_b0]
end Go.Proofs.Ytjebbkpbaglooaa
