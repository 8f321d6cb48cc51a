/- Layer 14: close, in all memory. -/
import Derived.Test.YthpgaecloecflaaTd
import Derived.Test.YthpgaecloecflaaTe
namespace Go.Proofs.Ythpgaecloecflaa
set_option linter.unusedSimpArgs false
set_option linter.unusedVariables false
set_option maxHeartbeats 4000000
set_option maxRecDepth 100000
theorem evC_imp {T : Nat → Option Entry} {k : Nat} {as : List AV} {hp : List Blk} {Q Q' : AV → List Blk → Prop} (c : EvC T k as hp Q) (h : ∀ v hp', Q v hp' → Q' v hp') : EvC T k as hp Q' := by
  obtain ⟨r, h1, h2⟩ := c
  exact ⟨r, h1, h _ _ h2⟩
def clH (m ks : Int) (c : Ky) (P : List Pl) : List Blk := [.row false [.int .i64 m, .int .i64 ks, .own 5 2], .row false [.int .i64 c.s, .int .i64 c.d, .int .i64 c.v], .row false (pls P)]
section
variable {m ks : Int} {c : Ky} {P : List Pl}
theorem freeA {J : List Blk} {i : Nat} (hi : i < P.length) (hl : P.length ≤ 1000) : EvC tab 1048 [.ref 0 0, .int .i64 (i : Int)] (clH m ks c P ++ J) (fun v hp' => v = .bool (decide (at_ P i = default)) ∧ hp' = clH m ks c P ++ J) := by
  refine EvC_fn t1048 rfl ?_
  have g := pls_at hi
  rw [pl_zero]
  have e : P.getD i default = at_ P i := rfl
  rw [e] at g
  generalize at_ P i = q at *
  simp only [plC] at g
  have eb : (q.u == false) = !q.u := by cases q.u <;> rfl
  have e0 : ∀ x : Int, (x == 0) = decide (x = 0) := fun x => by rw [Bool.eq_iff_iff]; simp
  have ea : (!q.u && decide (q.k.s = 0) && decide (q.k.d = 0) && decide (q.k.v = 0) && decide (q.n = 0)) = (!q.u && (decide (q.k.s = 0) && (decide (q.k.d = 0) && (decide (q.k.v = 0) && (decide (q.n = 0) && true))))) := by
    cases q.u <;> simp [Bool.and_assoc]
  rw [ea]
  have L := pls_len P
  simp (config := { maxSteps := 1000000 }) (disch := omega) only [go_sem, ↓reduceIte, Nat.reduceEqDiff, Nat.reduceAdd, Int.reduceToNat, reduceCtorEq, Nat.reduceLeDiff, Nat.reduceSub, Nat.reduceDiv, Nat.reduceMod, Nat.reduceMul, d1048, clH, g, aeqL, aeq, encA, digA, eb, e0, L, List.cons_append, List.nil_append]
theorem behindA {J : List Blk} {i : Nat} (hi : i < P.length) (hl : P.length ≤ 1000) : EvC tab 1056 [.ref 0 0, .int .i64 (i : Int)] (clH m ks c P ++ J) (fun v hp' => v = .int .i64 (nx P.length i : Nat) ∧ hp' = clH m ks c P ++ J) := by
  refine EvC_fn t1056 rfl ?_
  have e : ((i : Int) + 1).tmod (P.length : Int) = (nx P.length i : Nat) := by rw [← nx_mod hi]; rfl
  have L := pls_len P
  simp (config := { maxSteps := 1000000 }) (disch := omega) only [go_sem, ↓reduceIte, Nat.reduceEqDiff, Nat.reduceAdd, Int.reduceToNat, reduceCtorEq, Nat.reduceLeDiff, Nat.reduceSub, Nat.reduceDiv, Nat.reduceMod, Nat.reduceMul, d1056, clH, e, L, List.cons_append, List.nil_append]
theorem homeA {k : Ky} (hk : okk k) (h0 : 0 < P.length) (hl : P.length ≤ 1000) : EvC tab 1055 [.ref 0 0, .agg (kyC k)] (clH m ks c P) (fun v hp' => v = .int .i64 (hom P.length k : Int) ∧ hp' = clH m ks c P ++ [.row false (kyC k)]) := by
  refine EvC_fn t1055 rfl ?_
  obtain ⟨⟨a1, a2⟩, ⟨a3, a4⟩, a5, a6⟩ := hk
  have e1 : (((k.s * 2 + k.d) * 200 + k.v) * 40503).tmod 65537 = ((k.s * 2 + k.d) * 200 + k.v) * 40503 % 65537 := Int.tmod_eq_emod_of_nonneg (by omega)
  have b1 := Int.emod_nonneg (((k.s * 2 + k.d) * 200 + k.v) * 40503) (show (65537 : Int) ≠ 0 by omega)
  have b2 := Int.emod_lt_of_pos (((k.s * 2 + k.d) * 200 + k.v) * 40503) (show (0 : Int) < 65537 by omega)
  have e2 : (((k.s * 2 + k.d) * 200 + k.v) * 40503 % 65537).tmod (P.length : Int) = (hom P.length k : Int) := by
    rw [Int.tmod_eq_emod_of_nonneg b1]
    have := Int.emod_nonneg (((k.s * 2 + k.d) * 200 + k.v) * 40503 % 65537) (show (P.length : Int) ≠ 0 by omega)
    unfold hom; omega
  have L := pls_len P
  simp (config := { maxSteps := 1000000 }) (disch := omega) only [go_sem, ↓reduceIte, Nat.reduceEqDiff, Nat.reduceAdd, Int.reduceToNat, reduceCtorEq, Nat.reduceLeDiff, Nat.reduceSub, Nat.reduceDiv, Nat.reduceMod, Nat.reduceMul, d1055, clH, kyC, e1, e2, L, List.cons_append, List.nil_append]
theorem reachesA {i g : Nat} (hi : i < P.length) (hg : g < P.length) (hk : okk (at_ P i).k) (hl : P.length ≤ 1000) : EvC tab 1057 [.ref 0 0, .int .i64 (i : Int), .int .i64 (g : Int)] (clH m ks c P) (fun v hp' => v = .bool (!decide (at_ P i = default) && decide (cd P.length g i ≤ cd P.length (hom P.length (at_ P i).k) i)) ∧ hp' = clH m ks c P ++ [.row false (kyC (at_ P i).k)]) := by
  refine EvC_fn t1057 rfl ?_
  have hh := hom_lt (L := P.length) (by omega) (at_ P i).k
  have c1 := cd_mod hh hi
  have c2 := cd_mod hg hi
  have l1 := cd_lt hh hi
  have l2 := cd_lt hg hi
  have kat : List.take 3 (List.drop (i * 5 + 1) (pls P)) = kyC (at_ P i).k := by rw [← List.drop_drop, pls_drop]; exact key_at hi
  have L := pls_len P
  have ec : decide (cd P.length g i ≤ cd P.length (hom P.length (at_ P i).k) i) = decide ((cd P.length g i : Int) ≤ (cd P.length (hom P.length (at_ P i).k) i : Int)) := by rw [Bool.eq_iff_iff]; simp
  rw [ec]
  have gh := homeA (m := m) (ks := ks) (c := c) (P := P) hk (by omega) hl
  have gf := freeA (m := m) (ks := ks) (c := c) (J := [.row false (kyC (at_ P i).k)]) hi hl
  generalize hom P.length (at_ P i).k = H at *
  generalize decide (at_ P i = default) = D at *
  generalize (at_ P i).k = K at *
  simp only [kyC] at kat gf gh ⊢
  simp (config := { maxSteps := 1000000 }) (disch := omega) only [go_sem, ↓reduceIte, Nat.reduceEqDiff, Nat.reduceAdd, Int.reduceToNat, reduceCtorEq, Nat.reduceLeDiff, Nat.reduceSub, Nat.reduceDiv, Nat.reduceMod, Nat.reduceMul, d1057, clH, kat, kyC_noinl, L]
  refine EvO_all ?_
  show EvC tab 1055 [.ref 0 0, .agg [.int .i64 K.s, .int .i64 K.d, .int .i64 K.v]] (clH m ks c P) _
  refine evC_imp gh ?_
  rintro v hp' ⟨rfl, rfl⟩
  simp (config := { maxSteps := 1000000 }) (disch := omega) only [go_sem, ↓reduceIte, Nat.reduceEqDiff, Nat.reduceAdd, Int.reduceToNat, reduceCtorEq, Nat.reduceLeDiff, Nat.reduceSub, Nat.reduceDiv, Nat.reduceMod, Nat.reduceMul, alQ, clH, c1, L, List.cons_append, List.nil_append]
  refine EvO_all ?_
  show EvC tab 1048 [.ref 0 0, .int .i64 (i : Int)] (clH m ks c P ++ [.row false [.int .i64 K.s, .int .i64 K.d, .int .i64 K.v]]) _
  refine evC_imp gf ?_
  rintro v hp' ⟨rfl, rfl⟩
  cases D <;> simp (config := { maxSteps := 1000000 }) (disch := omega) only [go_sem, ↓reduceIte, Nat.reduceEqDiff, Nat.reduceAdd, Int.reduceToNat, reduceCtorEq, Nat.reduceLeDiff, Nat.reduceSub, Nat.reduceDiv, Nat.reduceMod, Nat.reduceMul, alQ, clH, c2, L, List.cons_append, List.nil_append, Bool.not_true, Bool.not_false, Bool.true_and, Bool.false_and]
end
end Go.Proofs.Ythpgaecloecflaa
