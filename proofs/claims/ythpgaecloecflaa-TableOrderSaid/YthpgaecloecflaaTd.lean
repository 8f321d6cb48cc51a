/- Layer 14: Len, Get, Put, New. -/
import Derived.Test.YthpgaecloecflaaTc
namespace Go.Proofs.Ythpgaecloecflaa
set_option linter.unusedSimpArgs false
set_option linter.unusedVariables false
set_option maxHeartbeats 4000000
set_option maxRecDepth 100000
def okB (k : Ky) : Bool := decide (0 ≤ k.s ∧ k.s ≤ 1000) && (decide (0 ≤ k.d ∧ k.d ≤ 1) && decide (0 ≤ k.v ∧ k.v ≤ 199))
theorem okB_iff {k : Ky} : okB k = true ↔ okk k := by simp [okB, okk]
theorem within_run {n m : Int} : runP tab 1054 [.int .i64 n, .int .i64 m] [] = some (.bool (decide (0 ≤ n ∧ n ≤ m)), []) := by
  refine runP_fn t1054 rfl ?_
  by_cases h1 : 0 ≤ n
  · by_cases h2 : n ≤ m
    · have e : decide (0 ≤ n ∧ n ≤ m) = true := by simp [h1, h2]
      rw [e]; simp (config := { maxSteps := 1000000 }) (disch := omega) only [go_sem, ↓reduceIte, Nat.reduceEqDiff, Nat.reduceAdd, Int.reduceToNat, reduceCtorEq, Nat.reduceLeDiff, Nat.reduceSub, Nat.reduceDiv, Nat.reduceMod, Nat.reduceMul, d1054]
    · have e : decide (0 ≤ n ∧ n ≤ m) = false := by simp [h2]
      rw [e]; simp (config := { maxSteps := 1000000 }) (disch := omega) only [go_sem, ↓reduceIte, Nat.reduceEqDiff, Nat.reduceAdd, Int.reduceToNat, reduceCtorEq, Nat.reduceLeDiff, Nat.reduceSub, Nat.reduceDiv, Nat.reduceMod, Nat.reduceMul, d1054]
  · have e : decide (0 ≤ n ∧ n ≤ m) = false := by simp [h1]
    rw [e]; simp (config := { maxSteps := 1000000 }) (disch := omega) only [go_sem, ↓reduceIte, Nat.reduceEqDiff, Nat.reduceAdd, Int.reduceToNat, reduceCtorEq, Nat.reduceLeDiff, Nat.reduceSub, Nat.reduceDiv, Nat.reduceMod, Nat.reduceMul, d1054]
theorem rkey_run {k : Ky} : runP tab 1046 [.agg (kyC k)] [] = some (.bool (okB k), []) := by
  refine runP_fn t1046 rfl ?_
  have g := fun n m => within_run (n := n) (m := m)
  unfold okB
  cases h1 : decide (0 ≤ k.s ∧ k.s ≤ 1000) <;> cases h2 : decide (0 ≤ k.d ∧ k.d ≤ 1) <;> simp (config := { maxSteps := 1000000 }) (disch := omega) only [go_sem, ↓reduceIte, Nat.reduceEqDiff, Nat.reduceAdd, Int.reduceToNat, reduceCtorEq, Nat.reduceLeDiff, Nat.reduceSub, Nat.reduceDiv, Nat.reduceMod, Nat.reduceMul, d1046, kyC, g, h1, h2, Bool.true_and, Bool.false_and]
theorem tlen_run {m ks : Int} {P : List Pl} : runP tab 1041 [tbI m ks P] [] = some (.int .i64 ks, []) := by
  refine runP_fn t1041 rfl ?_
  simp (config := { maxSteps := 1000000 }) (disch := omega) only [go_sem, ↓reduceIte, Nat.reduceEqDiff, Nat.reduceAdd, Int.reduceToNat, reduceCtorEq, Nat.reduceLeDiff, Nat.reduceSub, Nat.reduceDiv, Nat.reduceMod, Nat.reduceMul, d1041, tbI]
theorem get_run {m ks : Int} {P : List Pl} {k : Ky} {r : Nat} (f : Fnd P k r) (hr : Ring P) (hl : P.length ≤ 1000) : runP tab 1037 [tbI m ks P, .agg (kyC k)] [] = some (if ks = 0 ∨ okB k = false then .tup [.int .i64 0, .bool false] else .tup [.int .i64 (at_ P r).n, .bool (at_ P r).u], []) := by
  refine runP_fn t1037 rfl ?_
  have g1 := tlen_run (m := m) (ks := ks) (P := P)
  have g2 := rkey_run (k := k)
  have q := pls_at f.lt
  have hlt := f.lt
  have e : P.getD r default = at_ P r := rfl
  rw [e] at q
  simp only [tbI, kyC, plC] at g1 g2 q ⊢
  by_cases h0 : ks = 0
  · subst h0
    rw [if_pos (.inl rfl)]
    simp (config := { maxSteps := 1000000 }) (disch := omega) only [go_sem, ↓reduceIte, Nat.reduceEqDiff, Nat.reduceAdd, Int.reduceToNat, reduceCtorEq, Nat.reduceLeDiff, Nat.reduceSub, Nat.reduceDiv, Nat.reduceMod, Nat.reduceMul, d1037, g1, g2]
  · cases hk : okB k with
    | false =>
      rw [if_pos (.inr rfl)]
      rw [hk] at g2
      simp (config := { maxSteps := 1000000 }) (disch := omega) only [go_sem, ↓reduceIte, Nat.reduceEqDiff, Nat.reduceAdd, Int.reduceToNat, reduceCtorEq, Nat.reduceLeDiff, Nat.reduceSub, Nat.reduceDiv, Nat.reduceMod, Nat.reduceMul, d1037, g1, g2, h0]
    | true =>
      rw [if_neg (by simp [h0])]
      rw [hk] at g2
      have g3 := find_run (m := m) (ks := ks) f hr (okB_iff.1 hk) hl
      simp only [tbI, kyC] at g3
      simp (config := { maxSteps := 1000000 }) (disch := omega) only [go_sem, ↓reduceIte, Nat.reduceEqDiff, Nat.reduceAdd, Int.reduceToNat, reduceCtorEq, Nat.reduceLeDiff, Nat.reduceSub, Nat.reduceDiv, Nat.reduceMod, Nat.reduceMul, d1037, g1, g2, g3, q, h0]
theorem pls_set (x : Pl) : ∀ (l : List Pl) (i : Nat), (((((pls l).set (i * 5) (.bool x.u)).set (i * 5 + 1) (.int .i64 x.k.s)).set (i * 5 + 2) (.int .i64 x.k.d)).set (i * 5 + 3) (.int .i64 x.k.v)).set (i * 5 + 4) (.int .i64 x.n) = pls (l.set i x)
  | [], i => by simp [pls]
  | y :: l, 0 => rfl
  | y :: l, i + 1 => by
    have ih := pls_set x l i
    rw [pls_cons, List.set_cons_succ, pls_cons, ← ih]
    rw [show (i + 1) * 5 = i * 5 + 1 + 1 + 1 + 1 + 1 by omega]
    simp only [List.set_cons_succ, Nat.add_assoc, Nat.reduceAdd]
theorem put_no {m ks : Int} {P : List Pl} {k : Ky} {n : Int} (hk : okB k = false) : runP tab 1035 [.ref 0 0, .agg (kyC k), .int .i64 n] [tbB m ks P] = some (.int .i64 1, [tbB m ks P]) := by
  refine runP_fn t1035 rfl ?_
  have g2 := rkey_run (k := k)
  rw [hk] at g2
  simp only [kyC] at g2
  simp (config := { maxSteps := 1000000 }) (disch := omega) only [go_sem, ↓reduceIte, Nat.reduceEqDiff, Nat.reduceAdd, Int.reduceToNat, reduceCtorEq, Nat.reduceLeDiff, Nat.reduceSub, Nat.reduceDiv, Nat.reduceMod, Nat.reduceMul, d1035, tbB, kyC, g2]
theorem put_run {m ks : Int} {P : List Pl} {k : Ky} {n : Int} {r : Nat} (f : Fnd P k r) (hr : Ring P) (hk : okB k = true) (hl : P.length ≤ 1000) (hm : m ≠ 0) (hks : 0 ≤ ks ∧ ks ≤ 1000) :
    runP tab 1035 [.ref 0 0, .agg (kyC k), .int .i64 n] [tbB m ks P] = some (if (at_ P r).u = true then (.int .i64 0, [tbB m ks (P.set r ⟨true, k, n⟩)]) else if ks = m then (.int .i64 140, [tbB m ks P]) else (.int .i64 0, [tbB m (ks + 1) (P.set r ⟨true, k, n⟩)])) := by
  refine runP_fn t1035 rfl ?_
  have g2 := rkey_run (k := k)
  have g3 := find_run (m := m) (ks := ks) f hr (okB_iff.1 hk) hl
  have g4 := free_run (m := m) (ks := ks) f.lt hl
  rw [ring_free hr f.lt] at g4
  have hlt := f.lt
  have ps := pls_set ⟨true, k, n⟩ P r
  rw [hk] at g2
  simp only [tbI, kyC] at g2 g3 g4
  simp only at ps
  cases hu : (at_ P r).u with
  | true =>
    rw [hu] at g4
    rw [if_pos rfl]
    simp only [Bool.not_true] at g4
    simp (config := { maxSteps := 1000000 }) (disch := omega) only [go_sem, ↓reduceIte, Nat.reduceEqDiff, Nat.reduceAdd, Int.reduceToNat, reduceCtorEq, Nat.reduceLeDiff, Nat.reduceSub, Nat.reduceDiv, Nat.reduceMod, Nat.reduceMul, d1035, tbB, kyC, g2, g3, g4, ps]
  | false =>
    rw [hu] at g4
    rw [if_neg (by simp)]
    simp only [Bool.not_false] at g4
    by_cases he : ks = m
    · subst he
      rw [if_pos rfl]
      simp (config := { maxSteps := 1000000 }) (disch := omega) only [go_sem, ↓reduceIte, Nat.reduceEqDiff, Nat.reduceAdd, Int.reduceToNat, reduceCtorEq, Nat.reduceLeDiff, Nat.reduceSub, Nat.reduceDiv, Nat.reduceMod, Nat.reduceMul, d1035, tbB, kyC, g2, g3, g4]
    · rw [if_neg he]
      simp (config := { maxSteps := 1000000 }) (disch := omega) only [go_sem, ↓reduceIte, Nat.reduceEqDiff, Nat.reduceAdd, Int.reduceToNat, reduceCtorEq, Nat.reduceLeDiff, Nat.reduceSub, Nat.reduceDiv, Nat.reduceMod, Nat.reduceMul, d1035, tbB, kyC, g2, g3, g4, he, ps]
theorem tile_pls : ∀ n, tile n [AV.bool false, AV.int .i64 0, AV.int .i64 0, AV.int .i64 0, AV.int .i64 0] = pls (List.replicate n default)
  | 0 => rfl
  | n + 1 => by rw [tile, tile_pls n, List.replicate_succ, pls_cons]; rfl
theorem new_no {m : Int} (h : m < 1 ∨ 400 < m) : runP tab 1033 [.int .i64 m] [] = some (.tup [.nilp, .int .i64 1], []) := by
  refine runP_fn t1033 rfl ?_
  by_cases h1 : m < 1
  · simp (config := { maxSteps := 1000000 }) (disch := omega) only [go_sem, ↓reduceIte, Nat.reduceEqDiff, Nat.reduceAdd, Int.reduceToNat, reduceCtorEq, Nat.reduceLeDiff, Nat.reduceSub, Nat.reduceDiv, Nat.reduceMod, Nat.reduceMul, d1033]
  · simp (config := { maxSteps := 1000000 }) (disch := omega) only [go_sem, ↓reduceIte, Nat.reduceEqDiff, Nat.reduceAdd, Int.reduceToNat, reduceCtorEq, Nat.reduceLeDiff, Nat.reduceSub, Nat.reduceDiv, Nat.reduceMod, Nat.reduceMul, d1033]
theorem new_run {m : Nat} (h1 : 1 ≤ m) (h2 : m ≤ 400) : runP tab 1033 [.int .i64 (m : Int)] [] = some (.tup [.box [.int .i64 (m : Int), .int .i64 0, .vec 5 (pls (List.replicate (2 * m) default))], .int .i64 0], []) := by
  refine runP_fn t1033 rfl ?_
  have e : ((2 : Int) * (m : Int)).toNat = 2 * m := by omega
  simp (config := { maxSteps := 1000000 }) (disch := omega) only [go_sem, ↓reduceIte, Nat.reduceEqDiff, Nat.reduceAdd, Int.reduceToNat, reduceCtorEq, Nat.reduceLeDiff, Nat.reduceSub, Nat.reduceDiv, Nat.reduceMod, Nat.reduceMul, d1033, tile_pls, e]
end Go.Proofs.Ythpgaecloecflaa
