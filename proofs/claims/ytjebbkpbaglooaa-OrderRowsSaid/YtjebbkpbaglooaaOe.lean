/- Layer 11: Nth. -/
import Derived.Test.YtjebbkpbaglooaaOd
namespace Go.Proofs.Ytjebbkpbaglooaa
set_option linter.unusedSimpArgs false
set_option linter.unusedVariables false
set_option maxHeartbeats 4000000
set_option maxRecDepth 100000
def delN (l : List Int) (i : Nat) : List Int := (l.take i ++ l.drop (i + 1) ++ l.drop (l.length - 1)).set (l.length - 1) 0
theorem delN_len {l : List Int} {i : Nat} (hi : i < l.length) : (delN l i).length = l.length := by
  simp [delN]; omega
theorem delN_take {l : List Int} {i : Nat} (hi : i < l.length) : (delN l i).take (l.length - 1) = l.take i ++ l.drop (i + 1) := by
  unfold delN
  rw [List.take_set_of_le (Nat.le_refl _), List.take_left' (by simp; omega)]
theorem delN_last {l : List Int} {i : Nat} (hi : i + 1 = l.length) : delN l i = l.set i 0 := by
  unfold delN
  rw [hi, List.drop_length, List.append_nil, show l.length - 1 = i by omega, List.take_append_drop]
theorem delN_cut {l : List Int} {i : Nat} (hi : i < l.length) : setAll (ints l) i (ints (l.drop (i + 1))) = ints (l.take i ++ l.drop (i + 1) ++ l.drop (l.length - 1)) := by
  rw [setAll_eq _ _ _ (by simp only [ints_length, List.length_drop]; omega), ints_length, List.length_drop, show i + (l.length - (i + 1)) = l.length - 1 by omega, ints_take, ints_drop, ints_append, ints_append]
theorem deli_run {l : List Int} {i : Nat} (hi : i < l.length) (hb : l.length ≤ 1000000) : runP tab 1130 [.own 1 0, .int .i64 i, .int .i64 ((i : Int) + 1)] [.row false (ints l)] = some (.osl 1 0 0 (l.length - 1), [.row false (ints (delN l i))]) := by
  refine runP_fn t1130 rfl ?_
  have hq : ((i : Int) + 1).toNat = i + 1 := by omega
  have hs1 : i + (l.length - (i + 1)) = l.length - 1 := by omega
  have hs2 : l.length - (l.length - 1) = 1 := by omega
  have hs3 : (l.length : Int) - 1 = ((l.length - 1 : Nat) : Int) := by omega
  by_cases h1 : i + 1 = l.length
  · have hE : (List.drop (i + 1) l).isEmpty = true := by rw [h1]; simp
    have hE2 : List.drop (i + 1) l = [] := by rw [h1]; simp
    have hi2 : l.length - 1 = i := by omega
    have hs4 : l.length - i = 1 := by omega
    rw [delN_last h1]
    simp (config := { maxSteps := 1000000 }) (disch := omega) only [go_sem, ↓reduceIte, Nat.reduceEqDiff, Nat.reduceAdd, Int.reduceToNat, reduceCtorEq, Nat.reduceLeDiff, Nat.reduceSub, Nat.reduceDiv, Nat.reduceMod, Nat.reduceMul, d1130, hq, hs2, hs4, List.drop_length, Nat.sub_self, h1, setAll_length, hi2]
  · have hE : (List.drop (i + 1) l).isEmpty = false := by
      cases h : List.drop (i + 1) l with
      | nil => rw [List.drop_eq_nil_iff] at h; omega
      | cons a b => rfl
    have hc := delN_cut hi
    simp (config := { maxSteps := 1000000 }) (disch := omega) only [go_sem, ↓reduceIte, Nat.reduceEqDiff, Nat.reduceAdd, Int.reduceToNat, reduceCtorEq, Nat.reduceLeDiff, Nat.reduceSub, Nat.reduceDiv, Nat.reduceMod, Nat.reduceMul, d1130, hq, hs1, hs2, hE, delN, h1, if_false, setAll_length, hc]
def whH (lo : Nat) (s : Nat) (env : List (Nat × AV)) (mks : List Mark) (hp : List Blk) (sz id o n : Nat) : Option Blk → Option St
  | some (.row false cs) => if o = 0 ∧ n * sz ≤ cs.length ∧ lo ≤ id then some ⟨(s, .own sz hp.length) :: env, hp.set id .dead ++ [.row false (cs.take (n * sz))], lo, mks⟩ else none
  | _ => none
def whA (lo : Nat) (s : Nat) (env : List (Nat × AV)) (mks : List Mark) (hp : List Blk) : AV → Option St
  | .osl sz id o n => whH lo s env mks hp sz id o n hp[id]?
  | _ => some ⟨env, hp, lo, mks⟩
theorem ghost_whole (s : Nat) (env : List (Nat × AV)) (hp : List Blk) (lo mks) : ghost (.whole s) ⟨env, hp, lo, mks⟩ = whA lo s env mks hp (lk env s) := by
  cases h : lk env s with
  | osl sz id o n =>
    simp only [ghost, h, whA, whH]
    cases h2 : hp[id]? with
    | none => rfl
    | some b => cases b with
      | row fr cs => cases fr <;> rfl
      | _ => rfl
  | _ => simp only [ghost, h, whA]
theorem whA_osl (lo s : Nat) (env : List (Nat × AV)) (mks : List Mark) (hp : List Blk) (sz id o n : Nat) : whA lo s env mks hp (.osl sz id o n) = whH lo s env mks hp sz id o n hp[id]? := rfl
theorem whH_row {lo : Nat} {s : Nat} {env : List (Nat × AV)} {mks : List Mark} {hp : List Blk} {sz id n : Nat} {cs : List AV} (h1 : n * sz ≤ cs.length) (h2 : lo ≤ id) : whH lo s env mks hp sz id 0 n (some (.row false cs)) = some ⟨(s, .own sz hp.length) :: env, hp.set id .dead ++ [.row false (cs.take (n * sz))], lo, mks⟩ := by
  simp only [whH]
  rw [if_pos ⟨trivial, h1, h2⟩]
def nthA (n k : Int) : AV := if 0 ≤ n ∧ n ≤ 12 ∧ 0 ≤ k ∧ k < (fac n.toNat : Int) then .tup [.vec 1 (ints (nthR n.toNat (upI n.toNat) k.toNat)), .int .i64 0] else .tup [.vec 1 [], .int .i64 1]
def nthS (n k i : Nat) : St := ⟨[(0, .int .i64 (n : Int)), (1, .int .i64 (k : Int)), (6, .own 1 0), (7, .own 1 1), (28, .int .i64 (n : Int)), (29, .int .i64 (i : Int))], [.row false (ints (nst n k i).1), .row false (ints (nst n k i).2)], 0, [(0, 2, [0, 1, 6, 7, 28, 29], [(6, 0), (7, 1)])]⟩
theorem nth_step {n k i : Nat} (hn : n ≤ 12) (hi : i < n) (hk : k ≤ 479001600) : Ev tab d1181_b0 (nthS n k i) (fun x st => x = .normal ∧ st = nthS n k (i + 1)) := by
  obtain ⟨h1, h2⟩ := nst_len (n := n) (k := k) (i := i) (by omega)
  have g := orders_run (n := n - 1 - i) (by omega)
  have e0 : (n : Int) - 1 - (i : Int) = ((n - 1 - i : Nat) : Int) := by omega
  have fp := fac_pos (n - 1 - i)
  have e1 : (k : Int).tdiv (fac (n - 1 - i) : Int) = ((k / fac (n - 1 - i) : Nat) : Int) := rfl
  have e2 : (n : Int) - (i : Int) = ((n - i : Nat) : Int) := by omega
  have e3 : ((k / fac (n - 1 - i) : Nat) : Int).tmod ((n - i : Nat) : Int) = ((k / fac (n - 1 - i) % (n - i) : Nat) : Int) := rfl
  have ha := Nat.mod_lt (k / fac (n - 1 - i)) (show 0 < n - i by omega)
  have hd : k / fac (n - 1 - i) ≤ k := Nat.div_le_self _ _
  have g3 := deli_run (l := (nst n k i).1) (i := k / fac (n - 1 - i) % (n - i)) (by omega) (by omega)
  have h5 := delN_len (l := (nst n k i).1) (i := k / fac (n - 1 - i) % (n - i)) (by omega)
  have h6 := delN_take (l := (nst n k i).1) (i := k / fac (n - 1 - i) % (n - i)) (by omega)
  simp only [nthS, nst]
  generalize k / fac (n - 1 - i) % (n - i) = a at *
  generalize k / fac (n - 1 - i) = q at *
  generalize fac (n - 1 - i) = f at *
  generalize (nst n k i).1 = l at *
  generalize (nst n k i).2 = o at *
  have w1 : (l.length - 1) * 1 ≤ (ints (delN l a)).length := by rw [ints_length, h5]; omega
  simp (disch := first | exact w1 | omega) only [go_sem, ↓reduceIte, Nat.reduceEqDiff, Nat.reduceAdd, Int.reduceToNat, reduceCtorEq, Nat.reduceLeDiff, Nat.reduceSub, Nat.reduceDiv, Nat.reduceMod, Nat.reduceMul, d1181_b0, e0, g, e1, e2, e3, g3, h5, h6, ghost_whole, whA_osl, whH_row]
theorem nth_run {n k : Int} (hn : I64 n) (hk : I64 k) : runP tab 1181 [.int .i64 n, .int .i64 k] [] = some (nthA n k, []) := by
  refine runP_fn t1181 rfl ?_
  obtain ⟨n1, n2⟩ := hn
  obtain ⟨k1, k2⟩ := hk
  unfold nthA
  by_cases h1 : n < 0
  · rw [if_neg (by omega)]
    simp (config := { maxSteps := 1000000 }) (disch := omega) only [go_sem, ↓reduceIte, Nat.reduceEqDiff, Nat.reduceAdd, Int.reduceToNat, reduceCtorEq, Nat.reduceLeDiff, Nat.reduceSub, Nat.reduceDiv, Nat.reduceMod, Nat.reduceMul, d1181]
  by_cases h2 : 12 < n
  · rw [if_neg (by omega)]
    simp (config := { maxSteps := 1000000 }) (disch := omega) only [go_sem, ↓reduceIte, Nat.reduceEqDiff, Nat.reduceAdd, Int.reduceToNat, reduceCtorEq, Nat.reduceLeDiff, Nat.reduceSub, Nat.reduceDiv, Nat.reduceMod, Nat.reduceMul, d1181]
  by_cases h3 : k < 0
  · rw [if_neg (by omega)]
    simp (config := { maxSteps := 1000000 }) (disch := omega) only [go_sem, ↓reduceIte, Nat.reduceEqDiff, Nat.reduceAdd, Int.reduceToNat, reduceCtorEq, Nat.reduceLeDiff, Nat.reduceSub, Nat.reduceDiv, Nat.reduceMod, Nat.reduceMul, d1181]
  obtain ⟨n, rfl⟩ := Int.eq_ofNat_of_zero_le (show 0 ≤ n by omega)
  obtain ⟨k, rfl⟩ := Int.eq_ofNat_of_zero_le (show 0 ≤ k by omega)
  have g := orders_run (n := n) (by omega)
  have hf := fac_le (n := n) (by omega)
  simp only [Int.toNat_natCast]
  by_cases h4 : k < fac n
  · rw [if_pos (by omega)]
    have g2 := first_run (n := n) (by omega)
    have hu := upI_len n
    simp (config := { maxSteps := 1000000 }) (disch := omega) only [go_sem, ↓reduceIte, Nat.reduceEqDiff, Nat.reduceAdd, Int.reduceToNat, reduceCtorEq, Nat.reduceLeDiff, Nat.reduceSub, Nat.reduceDiv, Nat.reduceMod, Nat.reduceMul, d1181, g, g2]
    refine Ev_loop0 (nthS n k) n rfl (fun i hi => nth_step (by omega) hi (by omega)) ?_
    obtain ⟨q1, q2⟩ := nst_len (n := n) (k := k) (i := n) (by omega)
    have e := nst_all h4
    simp only [nthS]
    rw [← e]
    generalize (nst n k n).1 = l at *
    generalize (nst n k n).2 = o at *
    simp (config := { maxSteps := 1000000 }) (disch := omega) only [go_sem, ↓reduceIte, Nat.reduceEqDiff, Nat.reduceAdd, Int.reduceToNat, reduceCtorEq, Nat.reduceLeDiff, Nat.reduceSub, Nat.reduceDiv, Nat.reduceMod, Nat.reduceMul, d1181_b0]
  · rw [if_neg (by omega)]
    simp (config := { maxSteps := 1000000 }) (disch := omega) only [go_sem, ↓reduceIte, Nat.reduceEqDiff, Nat.reduceAdd, Int.reduceToNat, reduceCtorEq, Nat.reduceLeDiff, Nat.reduceSub, Nat.reduceDiv, Nat.reduceMod, Nat.reduceMul, d1181, g]
end Go.Proofs.Ytjebbkpbaglooaa
