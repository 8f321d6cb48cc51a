/- Layer 14: the document's rows; a step of a script; a law's arguments. -/
import Derived.Test.YthpgaecloecflaaTj
import Derived.Test.YthpgaecloecflaaLa
namespace Go.Proofs.Ythpgaecloecflaa
set_option linter.unusedSimpArgs false
set_option linter.unusedVariables false
set_option maxHeartbeats 4000000
set_option maxRecDepth 100000
theorem val_new (n : Nat) (k : Ky) : val (List.replicate n default) k = none := by
  unfold val
  rw [List.find?_eq_none.2 fun x hx => by rw [List.mem_replicate] at hx; rw [hx.2, show (default : Pl).u = false from rfl]; simp]; rfl
theorem tables_run : runP tab 1034 [] [] = some (.bool true, []) := by
  have T0 := TB.new (m := 2) (by omega) (by omega)
  have v0 := val_new (2 * 2)
  have g0 := new_run (m := 2) (by omega) (by omega)
  generalize List.replicate (2 * 2) (default : Pl) = P0 at *
  obtain ⟨e1, k1, P1, g1, T1, c1, a1, -⟩ := putV T0 ⟨0, 0, 5⟩ 9
  rw [v0, if_neg (by decide), if_pos (.inr (by decide))] at c1
  subst c1
  obtain ⟨-, a2, a3, a4⟩ := a1 rfl
  rw [v0] at a4
  have b1 := getV T1 ⟨0, 0, 5⟩
  rw [a2] at b1
  have b2 := getV T1 ⟨0, 1, 5⟩
  rw [a3 ⟨0, 1, 5⟩ (by decide), v0] at b2
  obtain ⟨e2, k2, P2, g2, T2, c2, d1, -⟩ := putV T1 ⟨0, 1, 5⟩ 1
  have hk1 : k1 = 1 := a4
  subst hk1
  rw [a3 ⟨0, 1, 5⟩ (by decide), v0, if_neg (by decide), if_pos (.inr (by decide))] at c2
  subst c2
  obtain ⟨-, d2, d3, d4⟩ := d1 rfl
  rw [a3 ⟨0, 1, 5⟩ (by decide), v0] at d4
  have hk2 : k2 = 2 := d4
  subst hk2
  obtain ⟨e3, k3, P3, g3, T3, c3, -, f1⟩ := putV T2 ⟨1, 0, 0⟩ 1
  have w3 : val P2 ⟨1, 0, 0⟩ = none := by rw [d3 _ (by decide), a3 _ (by decide), v0]
  rw [w3, if_neg (by decide), if_neg (by decide)] at c3
  subst c3
  obtain ⟨rfl, rfl, -, -⟩ := f1 (by decide)
  obtain ⟨k4, P4, g4, T4, h1, h2, h3⟩ := dropV T2 ⟨0, 0, 5⟩
  have w4 : val P3 ⟨0, 0, 5⟩ = some 9 := by rw [d3 _ (by decide), a2]
  rw [w4] at g4 h3
  have hk4 : k4 = 1 := h3
  subst hk4
  obtain ⟨e5, k5, P5, g5, T5, c5, i1, -⟩ := putV T4 ⟨1, 0, 0⟩ 1
  have w5 : val P4 ⟨1, 0, 0⟩ = none := by rw [h2 _ (by decide), w3]
  rw [w5, if_neg (by decide), if_pos (.inr (by decide))] at c5
  subst c5
  obtain ⟨-, -, -, i4⟩ := i1 rfl
  rw [w5] at i4
  have hk5 : k5 = 2 := i4
  subst hk5
  have l5 := tlen_run (m := ((2 : Nat) : Int)) (ks := 2) (P := P5)
  refine runP_fn t1034 rfl ?_
  simp only [tbB, tbI, kyC, getA, Option.isSome, Int.cast_ofNat_Int] at g0 g1 g2 g3 g4 g5 b1 b2 l5
  simp (config := { maxSteps := 1000000 }) (disch := omega) only [go_sem, ↓reduceIte, Nat.reduceEqDiff, Nat.reduceAdd, Int.reduceToNat, reduceCtorEq, Nat.reduceLeDiff, Nat.reduceSub, Nat.reduceDiv, Nat.reduceMod, Nat.reduceMul, d1034, g0, g1, g2, g3, g4, g5, b1, b2, l5]
structure Opr where
  kind : Int
  k : Ky
  n : Int
deriving Inhabited
def opC (o : Opr) : List AV := [.int .i64 o.kind, .int .i64 o.k.s, .int .i64 o.k.d, .int .i64 o.k.v, .int .i64 o.n]
theorem do_ex {m : Nat} {ks : Int} {P : List Pl} (T : TB m ks P) (o : Opr) : ∃ (ks' : Int) (P' : List Pl), runP tab 1044 [.ref 0 0, .agg (opC o)] [tbB m ks P] = some (.tup [], [tbB m ks' P']) ∧ TB m ks' P' := by
  by_cases h1 : o.kind = 1
  · obtain ⟨e, ks', P', g, T', -⟩ := putV T o.k o.n
    refine ⟨ks', P', runP_fn t1044 rfl ?_, T'⟩
    simp only [tbB, kyC] at g
    simp (config := { maxSteps := 1000000 }) (disch := omega) only [go_sem, ↓reduceIte, Nat.reduceEqDiff, Nat.reduceAdd, Int.reduceToNat, reduceCtorEq, Nat.reduceLeDiff, Nat.reduceSub, Nat.reduceDiv, Nat.reduceMod, Nat.reduceMul, d1044, tbB, opC, g, h1]
  · by_cases h3 : o.kind = 3
    · obtain ⟨ks', P', g, T', -⟩ := dropV T o.k
      refine ⟨ks', P', runP_fn t1044 rfl ?_, T'⟩
      simp only [tbB, kyC] at g
      simp (config := { maxSteps := 1000000 }) (disch := omega) only [go_sem, ↓reduceIte, Nat.reduceEqDiff, Nat.reduceAdd, Int.reduceToNat, reduceCtorEq, Nat.reduceLeDiff, Nat.reduceSub, Nat.reduceDiv, Nat.reduceMod, Nat.reduceMul, d1044, tbB, opC, g, h3]
    · refine ⟨ks, P, runP_fn t1044 rfl ?_, T⟩
      simp (config := { maxSteps := 1000000 }) (disch := omega) only [go_sem, ↓reduceIte, Nat.reduceEqDiff, Nat.reduceAdd, Int.reduceToNat, reduceCtorEq, Nat.reduceLeDiff, Nat.reduceSub, Nat.reduceDiv, Nat.reduceMod, Nat.reduceMul, d1044, tbB, opC, h1, h3]
end Go.Proofs.Ythpgaecloecflaa
