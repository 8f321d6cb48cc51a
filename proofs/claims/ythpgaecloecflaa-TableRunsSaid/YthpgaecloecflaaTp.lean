/- Layer 14: the document's Put, Get, Drop, as the program's table has it. -/
import Derived.Test.YthpgaecloecflaaTo
namespace Go.Proofs.Ythpgaecloecflaa
set_option linter.unusedSimpArgs false
set_option linter.unusedVariables false
set_option maxHeartbeats 4000000
set_option maxRecDepth 100000
def nsT (P : List Pl) : List Int := (kyT P).map fun q => (val P q).getD 0
theorem nsT_len (P : List Pl) : (nsT P).length = (kyT P).length := by simp [nsT]
theorem kyT_is {m : Nat} {ks : Int} {P : List Pl} (T : TB m ks P) (q : Ky) : decide (pos (kyT P) q < (kyT P).length ∧ (kyT P).getD (pos (kyT P) q) default = q) = (val P q).isSome := by
  rw [pos_is (kyT_asc T.ring), Bool.eq_iff_iff, decide_eq_true_eq, kyT_mem T.ring]
theorem nsT_at {m : Nat} {ks : Int} {P : List Pl} (T : TB m ks P) {q : Ky} {n : Int} (h : val P q = some n) : pos (kyT P) q < (kyT P).length ∧ (nsT P).getD (pos (kyT P) q) 0 = n := by
  obtain ⟨h1, h2⟩ := pos_in (kyT_asc T.ring) ((kyT_mem T.ring q).2 (by rw [h]; rfl))
  refine ⟨h1, ?_⟩
  unfold nsT
  rw [List.getD_eq_getElem?_getD, List.getElem?_eq_getElem h1] at h2
  rw [List.getD_eq_getElem?_getD, List.getElem?_map, List.getElem?_eq_getElem h1]
  simp only [Option.map_some, Option.getD_some] at h2 ⊢
  rw [h2, h]; rfl
theorem rget_run {m : Nat} {ks : Int} {P : List Pl} (T : TB m ks P) (q : Ky) : runP tab 1038 [rtI m (kyT P) (nsT P), .agg (kyC q)] [] = some (getA (val P q), []) := by
  refine runP_fn t1038 rfl ?_
  have hl : (kyT P).length ≤ 1000 := by rw [kyT_len]; have := T.le; have := T.m4; omega
  have g := rat_run (m := (m : Int)) (K := kyT P) (N := nsT P) hl q
  rw [kyT_is T] at g
  have LN := ints_length (nsT P)
  rw [nsT_len] at LN
  cases hv : val P q with
  | none =>
    rw [hv] at g
    simp only [rtI, kyC, getA, Option.isSome] at g ⊢
    simp (config := { maxSteps := 1000000 }) (disch := omega) only [go_sem, ↓reduceIte, Nat.reduceEqDiff, Nat.reduceAdd, Int.reduceToNat, reduceCtorEq, Nat.reduceLeDiff, Nat.reduceSub, Nat.reduceDiv, Nat.reduceMod, Nat.reduceMul, d1038, g]
  | some n =>
    obtain ⟨h1, h2⟩ := nsT_at T hv
    rw [hv] at g
    have e := ints_rdc0 (l := nsT P) (i := pos (kyT P) q) (by rw [nsT_len]; exact h1)
    rw [h2] at e
    generalize pos (kyT P) q = p at *
    simp only [rtI, kyC, getA, Option.isSome] at g ⊢
    simp (config := { maxSteps := 1000000 }) (disch := omega) only [go_sem, ↓reduceIte, Nat.reduceEqDiff, Nat.reduceAdd, Int.reduceToNat, reduceCtorEq, Nat.reduceLeDiff, Nat.reduceSub, Nat.reduceDiv, Nat.reduceMod, Nat.reduceMul, d1038, g, e, LN]
theorem kys_ins (K : List Ky) (q : Ky) (p : Nat) : kys (K.take p) ++ [.int .i64 q.s, .int .i64 q.d, .int .i64 q.v] ++ kys (K.drop p) = kys (K.take p ++ q :: K.drop p) := by
  simp [kys, kyC]
theorem ints_ins (N : List Int) (n : Int) (p : Nat) : ints (N.take p) ++ [.int .i64 n] ++ ints (N.drop p) = ints (N.take p ++ n :: N.drop p) := by
  simp [ints]
theorem rput_no {m : Int} {K : List Ky} {N : List Int} {k : Ky} {n : Int} (hk : okB k = false) : runP tab 1036 [.ref 0 0, .agg (kyC k), .int .i64 n] [rtB m K N] = some (.int .i64 1, [rtB m K N]) := by
  refine runP_fn t1036 rfl ?_
  have g := rmay_run (k := k)
  rw [hk] at g
  simp only [rtB, kyC] at g ⊢
  simp (config := { maxSteps := 1000000 }) (disch := omega) only [go_sem, ↓reduceIte, Nat.reduceEqDiff, Nat.reduceAdd, Int.reduceToNat, reduceCtorEq, Nat.reduceLeDiff, Nat.reduceSub, Nat.reduceDiv, Nat.reduceMod, Nat.reduceMul, d1036, g]
theorem rput_is {m : Int} {K : List Ky} {N : List Int} {k : Ky} {n : Int} (hk : okB k = true) (hK : K.length ≤ 1000) (hN : N.length = K.length) (h : decide (pos K k < K.length ∧ K.getD (pos K k) default = k) = true) : runP tab 1036 [.ref 0 0, .agg (kyC k), .int .i64 n] [rtB m K N] = some (.int .i64 0, [rtB m K (N.set (pos K k) n)]) := by
  refine runP_fn t1036 rfl ?_
  have g := rmay_run (k := k)
  rw [hk] at g
  have g2 := rat_run (m := m) (K := K) (N := N) hK k
  rw [h] at g2
  have hp := (of_decide_eq_true h).1
  have LN := ints_length N
  have LK := kys_len K
  generalize pos K k = p at *
  simp only [rtB, rtI, kyC] at g g2 ⊢
  simp (config := { maxSteps := 1000000 }) (disch := omega) only [go_sem, ↓reduceIte, Nat.reduceEqDiff, Nat.reduceAdd, Int.reduceToNat, reduceCtorEq, Nat.reduceLeDiff, Nat.reduceSub, Nat.reduceDiv, Nat.reduceMod, Nat.reduceMul, d1036, g, g2, LN]
theorem rput_full {m : Int} {K : List Ky} {N : List Int} {k : Ky} {n : Int} (hk : okB k = true) (hK : K.length ≤ 1000) (hm : m ≤ K.length) (h : decide (pos K k < K.length ∧ K.getD (pos K k) default = k) = false) : runP tab 1036 [.ref 0 0, .agg (kyC k), .int .i64 n] [rtB m K N] = some (.int .i64 140, [rtB m K N]) := by
  refine runP_fn t1036 rfl ?_
  have g := rmay_run (k := k)
  rw [hk] at g
  have g2 := rat_run (m := m) (K := K) (N := N) hK k
  rw [h] at g2
  have LN := ints_length N
  have LK := kys_len K
  generalize pos K k = p at *
  simp only [rtB, rtI, kyC] at g g2 ⊢
  simp (config := { maxSteps := 1000000 }) (disch := omega) only [go_sem, ↓reduceIte, Nat.reduceEqDiff, Nat.reduceAdd, Int.reduceToNat, reduceCtorEq, Nat.reduceLeDiff, Nat.reduceSub, Nat.reduceDiv, Nat.reduceMod, Nat.reduceMul, d1036, g, g2, LN, LK]
theorem rput_new {m : Int} {K : List Ky} {N : List Int} {k : Ky} {n : Int} (hk : okB k = true) (hK : K.length ≤ 1000) (hN : N.length = K.length) (hm : (K.length : Int) < m) (h : decide (pos K k < K.length ∧ K.getD (pos K k) default = k) = false) : runP tab 1036 [.ref 0 0, .agg (kyC k), .int .i64 n] [rtB m K N] = some (.int .i64 0, [rtB m (K.take (pos K k) ++ k :: K.drop (pos K k)) (N.take (pos K k) ++ n :: N.drop (pos K k))]) := by
  refine runP_fn t1036 rfl ?_
  have g := rmay_run (k := k)
  rw [hk] at g
  have g2 := rat_run (m := m) (K := K) (N := N) hK k
  rw [h] at g2
  have hp := (pos_spec k K).2.2
  have LN := ints_length N
  have LK := kys_len K
  have i1 := kys_ins K k (pos K k)
  have i2 := ints_ins N n (pos K k)
  generalize pos K k = p at *
  have lt1 : (K.take p).length = p := by rw [List.length_take]; omega
  have ld1 : (K.drop p).length = K.length - p := List.length_drop ..
  have lt2 : (N.take p).length = p := by rw [List.length_take]; omega
  have ld2 : (N.drop p).length = N.length - p := List.length_drop ..
  simp only [rtB, rtI, kyC] at g g2 ⊢
  rw [← i1, ← i2]
  simp (config := { maxSteps := 1000000 }) (disch := omega) only [go_sem, ↓reduceIte, Nat.reduceEqDiff, Nat.reduceAdd, Int.reduceToNat, reduceCtorEq, Nat.reduceLeDiff, Nat.reduceSub, Nat.reduceDiv, Nat.reduceMod, Nat.reduceMul, d1036, g, g2, LN, LK, lt1, ld1, lt2, ld2]
theorem rdrop_no {m : Int} {K : List Ky} {N : List Int} {k : Ky} (hK : K.length ≤ 1000) (h : decide (pos K k < K.length ∧ K.getD (pos K k) default = k) = false) : runP tab 1040 [.ref 0 0, .agg (kyC k)] [rtB m K N] = some (.bool false, [rtB m K N]) := by
  refine runP_fn t1040 rfl ?_
  have g2 := rat_run (m := m) (K := K) (N := N) hK k
  rw [h] at g2
  generalize pos K k = p at *
  simp only [rtB, rtI, kyC] at g2 ⊢
  simp (config := { maxSteps := 1000000 }) (disch := omega) only [go_sem, ↓reduceIte, Nat.reduceEqDiff, Nat.reduceAdd, Int.reduceToNat, reduceCtorEq, Nat.reduceLeDiff, Nat.reduceSub, Nat.reduceDiv, Nat.reduceMod, Nat.reduceMul, d1040, g2]
theorem rdrop_is {m : Int} {K : List Ky} {N : List Int} {k : Ky} (hK : K.length ≤ 1000) (hN : N.length = K.length) (h : decide (pos K k < K.length ∧ K.getD (pos K k) default = k) = true) : runP tab 1040 [.ref 0 0, .agg (kyC k)] [rtB m K N] = some (.bool true, [rtB m (K.take (pos K k) ++ K.drop (pos K k + 1)) (N.take (pos K k) ++ N.drop (pos K k + 1))]) := by
  refine runP_fn t1040 rfl ?_
  have g2 := rat_run (m := m) (K := K) (N := N) hK k
  rw [h] at g2
  have hp := (of_decide_eq_true h).1
  have LN := ints_length N
  have LK := kys_len K
  generalize pos K k = p at *
  have lt1 : (K.take p).length = p := by rw [List.length_take]; omega
  have ld1 : (K.drop (p + 1)).length = K.length - (p + 1) := List.length_drop ..
  have lt2 : (N.take p).length = p := by rw [List.length_take]; omega
  have ld2 : (N.drop (p + 1)).length = N.length - (p + 1) := List.length_drop ..
  simp only [rtB, rtI, kyC] at g2 ⊢
  have e1 : ((p : Int) + 1).toNat = p + 1 := by omega
  simp (config := { maxSteps := 1000000 }) (disch := omega) only [go_sem, ↓reduceIte, Nat.reduceEqDiff, Nat.reduceAdd, Int.reduceToNat, reduceCtorEq, Nat.reduceLeDiff, Nat.reduceSub, Nat.reduceDiv, Nat.reduceMod, Nat.reduceMul, d1040, g2, LN, LK, lt1, ld1, lt2, ld2, e1]
end Go.Proofs.Ythpgaecloecflaa
