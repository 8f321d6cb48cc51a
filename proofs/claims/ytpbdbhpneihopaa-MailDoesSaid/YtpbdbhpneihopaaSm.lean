/- Messages in the order of their keys, each key but once: what a key's message says is a function of it. -/
import Derived.Test.YtpbdbhpneihopaaSb
import Derived.Test.YtpbdbhpneihopaaMl
namespace Go.Proofs.Ytpbdbhpneihopaa
set_option linter.unusedSimpArgs false
set_option linter.unusedVariables false
set_option maxHeartbeats 4000000
set_option maxRecDepth 100000
open Go.Sort (size_swp)
structure Ky where
  s : Int
  d : Int
  v : Int
deriving DecidableEq, Inhabited
def mfC [Coe Ky Int] (m : Ky) : List AV := [.int .i64 m.s, .int .i64 m.d, .int .i64 m.v, .int .i64 (Coe.coe m)]
def mfs [Coe Ky Int] (l : List Ky) : List AV := l.flatMap mfC
theorem mfs_cons [Coe Ky Int] (m : Ky) (l : List Ky) : mfs (m :: l) = .int .i64 m.s :: .int .i64 m.d :: .int .i64 m.v :: .int .i64 (Coe.coe m) :: mfs l := rfl
theorem mfs_flat [Coe Ky Int] (l : List Ky) : (mfs l).all flat = true := by
  induction l with
  | nil => rfl
  | cons e l ih => rw [mfs_cons]; simp only [List.all_cons, flat, Bool.true_and]; exact ih
theorem mfs_len [Coe Ky Int] (l : List Ky) : (mfs l).length = l.length * 4 := by
  induction l with
  | nil => rfl
  | cons e l ih => rw [mfs_cons]; simp only [List.length_cons, ih]; omega
theorem mfs_okc [Coe Ky Int] (l : List Ky) : (mfs l).all AV.okc = true := flat_okc (mfs_flat l)
theorem mfs_noid [Coe Ky Int] (l : List Ky) : noidL (mfs l) = true := flat_noidL (mfs_flat l)
theorem mfs_noid' [Coe Ky Int] (l : List Ky) : allL pnoid (mfs l) = true := flat_noidL (mfs_flat l)
theorem mfs_noinl [Coe Ky Int] (l : List Ky) : noinlL (mfs l) = true := flat_noinlL (mfs_flat l)
theorem mfs_noinl' [Coe Ky Int] (l : List Ky) : allL pnoinl (mfs l) = true := flat_noinlL (mfs_flat l)
theorem mfs_noimm [Coe Ky Int] (l : List Ky) : allL pnoimm (mfs l) = true := flat_noimmL (mfs_flat l)
theorem mfs_ids [Coe Ky Int] (l : List Ky) : idsL (mfs l) = [] := flat_idsL (mfs_flat l)
theorem mfs_idlt [Coe Ky Int] (n : Nat) (l : List Ky) : idltL n (mfs l) = true := flat_idltL (mfs_flat l)
theorem mfs_idlt' [Coe Ky Int] (n : Nat) (l : List Ky) : allL (pidlt n) (mfs l) = true := flat_idltL (mfs_flat l)
theorem mfs_ren [Coe Ky Int] (f : Nat → Nat) (l : List Ky) : renL f (mfs l) = mfs l := flat_renL (mfs_flat l)
theorem mfs_ren' [Coe Ky Int] (f : Nat → Nat) (l : List Ky) : mapL (ren1 f) (mfs l) = mfs l := flat_renL (mfs_flat l)
theorem mfs_frz [Coe Ky Int] (l : List Ky) : frzL (mfs l) = mfs l := flat_frzL (mfs_flat l)
theorem mfs_frz' [Coe Ky Int] (l : List Ky) : mapL frz1 (mfs l) = mfs l := flat_frzL (mfs_flat l)
theorem mfs_fz [Coe Ky Int] (hp : List Blk) (l : List Ky) : fzL hp (mfs l) = some (mfs l) := flat_fzL (mfs_flat l)
theorem mfs_pk [Coe Ky Int] (n : Nat) (hp : List Blk) (l : List Ky) : pkL n hp (mfs l) = some (mfs l, hp) := flat_pkL (mfs_flat l)
theorem mfs_pks [Coe Ky Int] (hp : List Blk) (l : List Ky) : pksL hp (mfs l) = some (mfs l, hp) := flat_pksL (mfs_flat l)
theorem mfs_thaw [Coe Ky Int] (hp : List Blk) (l : List Ky) : thawL hp (mfs l) = (mfs l, hp) := flat_thawL (mfs_flat l)
theorem mfs_app [Coe Ky Int] (a b : List Ky) : mfs a ++ mfs b = mfs (a ++ b) := by simp [mfs]
theorem mfs_drop [Coe Ky Int] (l : List Ky) (i : Nat) : (mfs l).drop (i * 4) = mfs (l.drop i) := by
  induction i generalizing l with
  | zero => simp
  | succ i ih => cases l with
    | nil => simp [mfs]
    | cons r l => rw [mfs_cons, show (i + 1) * 4 = i * 4 + 1 + 1 + 1 + 1 by omega, List.drop_succ_cons, List.drop_succ_cons, List.drop_succ_cons, List.drop_succ_cons]; exact ih l
theorem mfs_take [Coe Ky Int] (l : List Ky) (i : Nat) : (mfs l).take (i * 4) = mfs (l.take i) := by
  induction i generalizing l with
  | zero => simp [mfs]
  | succ i ih => cases l with
    | nil => simp [mfs]
    | cons r l => rw [mfs_cons, show (i + 1) * 4 = i * 4 + 1 + 1 + 1 + 1 by omega, List.take_succ_cons, List.take_succ_cons, List.take_succ_cons, List.take_succ_cons, ih l, List.take_succ_cons, mfs_cons]
attribute [go_sem] mfs_len mfs_okc mfs_noid mfs_noid' mfs_noinl mfs_noinl' mfs_noimm mfs_ids mfs_idlt mfs_idlt' mfs_ren mfs_ren' mfs_frz mfs_frz' mfs_fz mfs_pk mfs_pks mfs_thaw mul4_div mfs_app mfs_drop mfs_take
theorem mfs_at [Coe Ky Int] {l : List Ky} {i : Nat} (h : i < l.length) : rdc (mfs (l.drop i)) (some 4) = some (.agg (mfC (l.getD i default))) := by
  rw [List.drop_eq_getElem_cons h, mfs_cons, List.getD_eq_getElem?_getD, List.getElem?_eq_getElem h]; rfl
def ltT (a b : Ky) : Bool := decide (a.s < b.s ∨ (a.s = b.s ∧ (a.d < b.d ∨ (a.d = b.d ∧ a.v < b.v))))
theorem ordrT : Ordr ltT := by
  refine ⟨fun x => by simp [ltT], fun x y z h1 h2 => ?_, fun x y h1 h2 => ?_⟩
  · simp only [ltT, decide_eq_true_eq] at *; omega
  · simp only [ltT, decide_eq_false_iff_not] at *
    obtain ⟨a, b, c⟩ := x
    obtain ⟨d, e, f⟩ := y
    simp only [Ky.mk.injEq] at *
    omega
def cmT (a b : Int) : Int := if a < b then -1 else if b < a then 1 else 0
theorem cmpm_run {a b : Int} : runP tab 1061 [.int .i64 a, .int .i64 b] [] = some (.int .i64 (cmT a b), []) := by
  have g : ∀ x : Int, runP tab 1072 [.int .i64 x] [] = some (.bool false, []) := fun x => by
    refine runP_fn t1072 rfl ?_
    simp (config := { maxSteps := 1000000 }) (disch := omega) only [go_sem, ↓reduceIte, Nat.reduceEqDiff, Nat.reduceAdd, Int.reduceToNat, reduceCtorEq, Nat.reduceLeDiff, Nat.reduceSub, Nat.reduceDiv, Nat.reduceMod, Nat.reduceMul, d1072]
  refine runP_fn t1061 rfl ?_
  unfold cmT
  by_cases h1 : a < b
  · simp (config := { maxSteps := 1000000 }) (disch := omega) only [go_sem, ↓reduceIte, Nat.reduceEqDiff, Nat.reduceAdd, Int.reduceToNat, reduceCtorEq, Nat.reduceLeDiff, Nat.reduceSub, Nat.reduceDiv, Nat.reduceMod, Nat.reduceMul, d1061, g]
  · by_cases h2 : b < a
    · simp (config := { maxSteps := 1000000 }) (disch := omega) only [go_sem, ↓reduceIte, Nat.reduceEqDiff, Nat.reduceAdd, Int.reduceToNat, reduceCtorEq, Nat.reduceLeDiff, Nat.reduceSub, Nat.reduceDiv, Nat.reduceMod, Nat.reduceMul, d1061, g]
    · simp (config := { maxSteps := 1000000 }) (disch := omega) only [go_sem, ↓reduceIte, Nat.reduceEqDiff, Nat.reduceAdd, Int.reduceToNat, reduceCtorEq, Nat.reduceLeDiff, Nat.reduceSub, Nat.reduceDiv, Nat.reduceMod, Nat.reduceMul, d1061, g]
def ordT (a b : Ky) : Int := if cmT a.s b.s = 0 then (if cmT a.d b.d = 0 then cmT a.v b.v else cmT a.d b.d) else cmT a.s b.s
theorem or3_run {a b c : Int} : runP tab 1060 [.sl 1 [.int .i64 a, .int .i64 b, .int .i64 c]] [] = some (.int .i64 (if a = 0 then (if b = 0 then c else b) else a), []) := by
  refine runP_fn t1060 rfl ?_
  simp (config := { maxSteps := 1000000 }) (disch := omega) only [go_sem, ↓reduceIte, Nat.reduceEqDiff, Nat.reduceAdd, Int.reduceToNat, reduceCtorEq, Nat.reduceLeDiff, Nat.reduceSub, Nat.reduceDiv, Nat.reduceMod, Nat.reduceMul, d1060]
  by_cases h : a = 0
  · subst h
    refine Ev_step (st' := ⟨[(3, .int .i64 0), (6, .sl 1 [.int .i64 0, .int .i64 b, .int .i64 c]), (7, .int .i64 3), (8, .int .i64 1)], [], 0, [(0, 0, [3, 6, 7, 8], [])]⟩) (by simp (config := { maxSteps := 1000000 }) (disch := omega) only [go_sem, ↓reduceIte, Nat.reduceEqDiff, Nat.reduceAdd, Int.reduceToNat, reduceCtorEq, Nat.reduceLeDiff, Nat.reduceSub, Nat.reduceDiv, Nat.reduceMod, Nat.reduceMul, d1060_b0, Int.reduceAdd]) ?_
    by_cases h2 : b = 0
    · subst h2
      refine Ev_step (st' := ⟨[(3, .int .i64 0), (6, .sl 1 [.int .i64 0, .int .i64 0, .int .i64 c]), (7, .int .i64 3), (8, .int .i64 2)], [], 0, [(0, 0, [3, 6, 7, 8], [])]⟩) (by simp (config := { maxSteps := 1000000 }) (disch := omega) only [go_sem, ↓reduceIte, Nat.reduceEqDiff, Nat.reduceAdd, Int.reduceToNat, reduceCtorEq, Nat.reduceLeDiff, Nat.reduceSub, Nat.reduceDiv, Nat.reduceMod, Nat.reduceMul, d1060_b0, Int.reduceAdd]) ?_
      by_cases h3 : c = 0
      · subst h3
        refine Ev_step (st' := ⟨[(3, .int .i64 0), (6, .sl 1 [.int .i64 0, .int .i64 0, .int .i64 0]), (7, .int .i64 3), (8, .int .i64 3)], [], 0, [(0, 0, [3, 6, 7, 8], [])]⟩) (by simp (config := { maxSteps := 1000000 }) (disch := omega) only [go_sem, ↓reduceIte, Nat.reduceEqDiff, Nat.reduceAdd, Int.reduceToNat, reduceCtorEq, Nat.reduceLeDiff, Nat.reduceSub, Nat.reduceDiv, Nat.reduceMod, Nat.reduceMul, d1060_b0, Int.reduceAdd]) ?_
        refine Ev_stop ?_
        simp (config := { maxSteps := 1000000 }) (disch := omega) only [go_sem, ↓reduceIte, Nat.reduceEqDiff, Nat.reduceAdd, Int.reduceToNat, reduceCtorEq, Nat.reduceLeDiff, Nat.reduceSub, Nat.reduceDiv, Nat.reduceMod, Nat.reduceMul, d1060_b0, if_true]
      · refine Ev_stop ?_
        simp (config := { maxSteps := 1000000 }) (disch := omega) only [go_sem, ↓reduceIte, Nat.reduceEqDiff, Nat.reduceAdd, Int.reduceToNat, reduceCtorEq, Nat.reduceLeDiff, Nat.reduceSub, Nat.reduceDiv, Nat.reduceMod, Nat.reduceMul, d1060_b0, h3, if_true]
    · refine Ev_stop ?_
      simp (config := { maxSteps := 1000000 }) (disch := omega) only [go_sem, ↓reduceIte, Nat.reduceEqDiff, Nat.reduceAdd, Int.reduceToNat, reduceCtorEq, Nat.reduceLeDiff, Nat.reduceSub, Nat.reduceDiv, Nat.reduceMod, Nat.reduceMul, d1060_b0, h2, if_true, if_false]
  · refine Ev_stop ?_
    simp (config := { maxSteps := 1000000 }) (disch := omega) only [go_sem, ↓reduceIte, Nat.reduceEqDiff, Nat.reduceAdd, Int.reduceToNat, reduceCtorEq, Nat.reduceLeDiff, Nat.reduceSub, Nat.reduceDiv, Nat.reduceMod, Nat.reduceMul, d1060_b0, h, if_false]
theorem ordt_lt (x y : Ky) : decide (ordT x y < 0) = ltT x y := by
  unfold ordT cmT ltT
  rw [Bool.eq_iff_iff]
  simp only [decide_eq_true_eq]
  (repeat' split) <;> omega
theorem at_m [Coe Ky Int] {d : Array Ky} {i : Nat} (h : i < d.size) : rdc (mfs (d.toList.drop i)) (some 4) = some (.agg [.int .i64 d[i]!.s, .int .i64 d[i]!.d, .int .i64 d[i]!.v, .int .i64 (Coe.coe d[i]!)]) := by
  rw [mfs_at (by simpa using h), arr_at h]; rfl
theorem mfs_set [Coe Ky Int] (x : Ky) : ∀ (l : List Ky) (i : Nat), ((((mfs l).set (i * 4) (.int .i64 x.s)).set (i * 4 + 1) (.int .i64 x.d)).set (i * 4 + 2) (.int .i64 x.v)).set (i * 4 + 3) (.int .i64 (Coe.coe x)) = mfs (l.set i x)
  | [], i => by simp [mfs]
  | y :: l, 0 => rfl
  | y :: l, i + 1 => by
    have ih := mfs_set x l i
    rw [mfs_cons, List.set_cons_succ, mfs_cons, ← ih]
    rw [show (i + 1) * 4 = i * 4 + 1 + 1 + 1 + 1 by omega]
    simp only [List.set_cons_succ, Nat.add_assoc, Nat.reduceAdd]
theorem swp_m [Coe Ky Int] {d : Array Ky} {i j : Nat} : ((((((((mfs d.toList).set (i * 4) (.int .i64 d[j]!.s)).set (i * 4 + 1) (.int .i64 d[j]!.d)).set (i * 4 + 2) (.int .i64 d[j]!.v)).set (i * 4 + 3) (.int .i64 (Coe.coe d[j]!))).set (j * 4) (.int .i64 d[i]!.s)).set (j * 4 + 1) (.int .i64 d[i]!.d)).set (j * 4 + 2) (.int .i64 d[i]!.v)).set (j * 4 + 3) (.int .i64 (Coe.coe d[i]!)) = mfs (Go.Sort.swp d i j).toList := by
  rw [mfs_set, mfs_set, swp_list]
theorem gk_m (x y : Ky) : runP tab 1053 [.agg [.int .i64 x.s, .int .i64 x.d, .int .i64 x.v], .agg [.int .i64 y.s, .int .i64 y.d, .int .i64 y.v]] [] = some (.int .i64 (ordT x y), []) := by
  refine runP_fn t1053 rfl ?_
  have g1 := cmpm_run (a := x.s) (b := y.s)
  have g2 := cmpm_run (a := x.d) (b := y.d)
  have g3 := cmpm_run (a := x.v) (b := y.v)
  have g4 := or3_run (a := cmT x.s y.s) (b := cmT x.d y.d) (c := cmT x.v y.v)
  simp (config := { maxSteps := 1000000 }) (disch := omega) only [go_sem, ↓reduceIte, Nat.reduceEqDiff, Nat.reduceAdd, Int.reduceToNat, reduceCtorEq, Nat.reduceLeDiff, Nat.reduceSub, Nat.reduceDiv, Nat.reduceMod, Nat.reduceMul, d1053, g1, g2, g3, g4]
  rfl
theorem gc_m [Coe Ky Int] (x y : Ky) : runP tab 1129 [.agg [.clo 1053 [] []], .agg [.int .i64 x.s, .int .i64 x.d, .int .i64 x.v, .int .i64 (Coe.coe x)], .agg [.int .i64 y.s, .int .i64 y.d, .int .i64 y.v, .int .i64 (Coe.coe y)]] [] = some (.int .i64 (ordT x y), []) := by
  refine runP_fn t1129 rfl ?_
  have g := gk_m x y
  simp (config := { maxSteps := 1000000 }) (disch := omega) only [go_sem, ↓reduceIte, Nat.reduceEqDiff, Nat.reduceAdd, Int.reduceToNat, reduceCtorEq, Nat.reduceLeDiff, Nat.reduceSub, Nat.reduceDiv, Nat.reduceMod, Nat.reduceMul, d1129, g]
end Go.Proofs.Ytpbdbhpneihopaa
