/- Layer 14: a table's small functions. -/
import Derived.Test.YthpgaecloecflaaTb
namespace Go.Proofs.Ythpgaecloecflaa
set_option linter.unusedSimpArgs false
set_option linter.unusedVariables false
set_option maxHeartbeats 4000000
set_option maxRecDepth 100000
def tbB (m ks : Int) (P : List Pl) : Blk := .row false [.int .i64 m, .int .i64 ks, .vec 5 (pls P)]
def tbI (m ks : Int) (P : List Pl) : AV := .ip [.int .i64 m, .int .i64 ks, .sl 5 (pls P)]
theorem pl_zero (p : Pl) : decide (p = default) = (!p.u && decide (p.k.s = 0) && decide (p.k.d = 0) && decide (p.k.v = 0) && decide (p.n = 0)) := by
  obtain ⟨u, ⟨s, d, v⟩, n⟩ := p
  have e : (default : Pl) = ⟨false, ⟨0, 0, 0⟩, 0⟩ := rfl
  rw [e]
  cases u <;> simp [Bool.and_assoc]
theorem free_run {m ks : Int} {P : List Pl} {i : Nat} (hi : i < P.length) (hl : P.length ≤ 1000) : runP tab 1048 [tbI m ks P, .int .i64 (i : Int)] [] = some (.bool (decide (at_ P i = default)), []) := by
  refine runP_fn t1048 rfl ?_
  have g := pls_at hi
  rw [pl_zero]
  have e : P.getD i default = at_ P i := rfl
  rw [e] at g
  generalize at_ P i = q at *
  simp only [plC] at g
  have eb : (q.u == false) = !q.u := by cases q.u <;> rfl
  have e0 : ∀ x : Int, (x == 0) = decide (x = 0) := fun x => by rw [Bool.eq_iff_iff]; simp
  have ea : (!q.u && decide (q.k.s = 0) && decide (q.k.d = 0) && decide (q.k.v = 0) && decide (q.n = 0)) = (!q.u && (decide (q.k.s = 0) && (decide (q.k.d = 0) && (decide (q.k.v = 0) && (decide (q.n = 0) && true))))) := by
    cases q.u <;> simp [Bool.and_assoc]
  rw [ea]
  simp (config := { maxSteps := 1000000 }) (disch := omega) only [go_sem, ↓reduceIte, Nat.reduceEqDiff, Nat.reduceAdd, Int.reduceToNat, reduceCtorEq, Nat.reduceLeDiff, Nat.reduceSub, Nat.reduceDiv, Nat.reduceMod, Nat.reduceMul, d1048, tbI, g, aeqL, aeq, encA, digA, eb, e0]
theorem behind_run {m ks : Int} {P : List Pl} {i : Nat} (hi : i < P.length) (hl : P.length ≤ 1000) : runP tab 1056 [tbI m ks P, .int .i64 (i : Int)] [] = some (.int .i64 (((i + 1) % P.length : Nat) : Int), []) := by
  refine runP_fn t1056 rfl ?_
  have e : ((i : Int) + 1).tmod (P.length : Int) = (((i + 1) % P.length : Nat) : Int) := rfl
  simp (config := { maxSteps := 1000000 }) (disch := omega) only [go_sem, ↓reduceIte, Nat.reduceEqDiff, Nat.reduceAdd, Int.reduceToNat, reduceCtorEq, Nat.reduceLeDiff, Nat.reduceSub, Nat.reduceDiv, Nat.reduceMod, Nat.reduceMul, d1056, tbI, e]
theorem home_run {m ks : Int} {P : List Pl} {k : Ky} (hk : okk k) (h0 : 0 < P.length) (hl : P.length ≤ 1000) : runP tab 1055 [tbI m ks P, .agg (kyC k)] [] = some (.int .i64 (hom P.length k : Int), []) := by
  refine runP_fn t1055 rfl ?_
  obtain ⟨⟨a1, a2⟩, ⟨a3, a4⟩, a5, a6⟩ := hk
  have e1 : (((k.s * 2 + k.d) * 200 + k.v) * 40503).tmod 65537 = ((k.s * 2 + k.d) * 200 + k.v) * 40503 % 65537 := Int.tmod_eq_emod_of_nonneg (by omega)
  have b1 := Int.emod_nonneg (((k.s * 2 + k.d) * 200 + k.v) * 40503) (show (65537 : Int) ≠ 0 by omega)
  have b2 := Int.emod_lt_of_pos (((k.s * 2 + k.d) * 200 + k.v) * 40503) (show (0 : Int) < 65537 by omega)
  have e2 : (((k.s * 2 + k.d) * 200 + k.v) * 40503 % 65537).tmod (P.length : Int) = (hom P.length k : Int) := by
    rw [Int.tmod_eq_emod_of_nonneg b1]
    have := Int.emod_nonneg (((k.s * 2 + k.d) * 200 + k.v) * 40503 % 65537) (show (P.length : Int) ≠ 0 by omega)
    unfold hom; omega
  simp (config := { maxSteps := 1000000 }) (disch := omega) only [go_sem, ↓reduceIte, Nat.reduceEqDiff, Nat.reduceAdd, Int.reduceToNat, reduceCtorEq, Nat.reduceLeDiff, Nat.reduceSub, Nat.reduceDiv, Nat.reduceMod, Nat.reduceMul, d1055, tbI, kyC, e1, e2]
theorem cd_mod {L a b : Nat} (ha : a < L) (hb : b < L) : ((b : Int) - (a : Int) + (L : Int)).tmod (L : Int) = (cd L a b : Int) := by
  rw [Int.tmod_eq_emod_of_nonneg (by omega)]
  unfold cd
  split
  · rw [show (b : Int) - (a : Int) + (L : Int) = ((b - a : Nat) : Int) + (L : Int) by omega, Int.add_emod_right, Int.emod_eq_of_lt (by omega) (by omega)]
  · rw [Int.emod_eq_of_lt (by omega) (by omega)]; omega
theorem key_at {P : List Pl} {i : Nat} (hi : i < P.length) : ((pls (P.drop i)).drop 1).take 3 = kyC (at_ P i).k := by
  have e : P.getD i default = at_ P i := rfl
  rw [List.drop_eq_getElem_cons hi, pls_cons]
  have : P[i] = at_ P i := by
    rw [← e, List.getD_eq_getElem?_getD, List.getElem?_eq_getElem hi]; rfl
  rw [this]; rfl
theorem kyC_noinl (k : Ky) : allL pnoinl [.int .i64 k.s, .int .i64 k.d, .int .i64 k.v] = true := rfl
theorem ke_eq (a b : Ky) : decide (a = b) = (decide (a.s = b.s) && (decide (a.d = b.d) && decide (a.v = b.v))) := by
  obtain ⟨a1, a2, a3⟩ := a
  obtain ⟨b1, b2, b3⟩ := b
  rw [Bool.eq_iff_iff]
  simp
def nx (L p : Nat) : Nat := if p + 1 = L then 0 else p + 1
theorem nx_mod {L p : Nat} (h : p < L) : (p + 1) % L = nx L p := by
  unfold nx
  split
  · rename_i e; rw [e, Nat.mod_self]
  · exact Nat.mod_eq_of_lt (by omega)
theorem nx_lt {L p : Nat} (h : p < L) : nx L p < L := by unfold nx; split <;> omega
theorem cd_nx {L h p : Nat} (hh : h < L) (hp : p < L) (hc : cd L h p + 1 < L) : cd L h (nx L p) = cd L h p + 1 := by
  unfold cd nx at *
  split at hc <;> split <;> split <;> omega
theorem cd_self (L h : Nat) : cd L h h = 0 := by unfold cd; rw [if_pos (Nat.le_refl _)]; omega
theorem ring_free {P : List Pl} (h : Ring P) {i : Nat} (hi : i < P.length) : decide (at_ P i = default) = !(at_ P i).u := by
  have := (h i hi (by omega)).1
  cases hu : (at_ P i).u with
  | false => simp [this hu]
  | true =>
    have : at_ P i ≠ default := fun e => by rw [e] at hu; cases hu
    simp [this]
def fiS (m ks : Int) (P : List Pl) (k : Ky) (r : Nat) : St := ⟨[(0, .ip [.int .i64 m, .int .i64 ks, .sl 5 (pls P)]), (3, .ref 0 0), (5, .int .i64 (r : Int))], [.row false [.int .i64 k.s, .int .i64 k.d, .int .i64 k.v]], 0, [(0, 1, [0, 3, 5], [(3, 0)])]⟩
theorem fi_loop {m ks : Int} {P : List Pl} {k : Ky} {r : Nat} {Q : AX → St → Prop} (f : Fnd P k r) (hr : Ring P) (hl : P.length ≤ 1000)
    (hq : Ev tab d1047_b0 (fiS m ks P k r) (fun x st => x ≠ .normal ∧ Q x st)) : ∀ (n p : Nat), p < P.length → cd P.length (hom P.length k) p + n = cd P.length (hom P.length k) r → Ev tab (.loop d1047_b0) (fiS m ks P k p) Q
  | 0, p, hp, hc => by
    have := cd_inj (hom_lt (L := P.length) (by omega) k) hp f.lt (by omega)
    subst this
    exact Ev_stop hq
  | n + 1, p, hp, hc => by
    have hho := hom_lt (L := P.length) (by omega) k
    have hcl := cd_lt hho f.lt
    obtain ⟨b1, b2⟩ := f.be p hp (by omega)
    refine Ev_step (st' := fiS m ks P k (nx P.length p)) ?_ (fi_loop f hr hl hq n (nx P.length p) (nx_lt hp) (by rw [cd_nx hho hp (by omega)]; omega))
    have g1 := free_run (m := m) (ks := ks) hp hl
    have g2 := behind_run (m := m) (ks := ks) hp hl
    rw [ring_free hr hp, b1] at g1
    rw [nx_mod hp] at g2
    simp only [tbI, Bool.not_true] at g1 g2
    have kat := key_at hp
    have hne : (decide ((at_ P p).k.s = k.s) && (decide ((at_ P p).k.d = k.d) && decide ((at_ P p).k.v = k.v))) = false := by
      rw [← ke_eq]; simp [b2]
    have e0 : ∀ x y : Int, (x == y) = decide (x = y) := fun x y => by rw [Bool.eq_iff_iff]; simp
    simp only [kyC] at kat
    simp (config := { maxSteps := 1000000 }) (disch := omega) only [go_sem, ↓reduceIte, Nat.reduceEqDiff, Nat.reduceAdd, Int.reduceToNat, reduceCtorEq, Nat.reduceLeDiff, Nat.reduceSub, Nat.reduceDiv, Nat.reduceMod, Nat.reduceMul, d1047_b0, fiS, g1, g2, kat, kyC_noinl, aeqL, aeq, encA, digA, e0, hne]
theorem find_run {m ks : Int} {P : List Pl} {k : Ky} {r : Nat} (f : Fnd P k r) (hr : Ring P) (hk : okk k) (hl : P.length ≤ 1000) : runP tab 1047 [tbI m ks P, .agg (kyC k)] [] = some (.int .i64 (r : Int), []) := by
  refine runP_fn t1047 rfl ?_
  have hlt := f.lt
  have g1 := home_run (m := m) (ks := ks) hk (by omega) hl
  simp only [kyC, tbI] at g1
  have hho := hom_lt (L := P.length) (by omega) k
  simp (config := { maxSteps := 1000000 }) (disch := omega) only [go_sem, ↓reduceIte, Nat.reduceEqDiff, Nat.reduceAdd, Int.reduceToNat, reduceCtorEq, Nat.reduceLeDiff, Nat.reduceSub, Nat.reduceDiv, Nat.reduceMod, Nat.reduceMul, d1047, kyC, tbI, g1]
  refine fi_loop f hr hl ?_ (cd P.length (hom P.length k) r) (hom P.length k) hho (by rw [cd_self]; omega)
  have g2 := free_run (m := m) (ks := ks) hlt hl
  rw [ring_free hr hlt] at g2
  simp only [tbI] at g2
  have en := f.en
  have kat := key_at hlt
  simp only [kyC] at kat
  have e0 : ∀ x y : Int, (x == y) = decide (x = y) := fun x y => by rw [Bool.eq_iff_iff]; simp
  cases hu : (at_ P r).u with
  | false =>
    rw [hu] at g2
    simp only [Bool.not_false] at g2
    simp (config := { maxSteps := 1000000 }) (disch := omega) only [go_sem, ↓reduceIte, Nat.reduceEqDiff, Nat.reduceAdd, Int.reduceToNat, reduceCtorEq, Nat.reduceLeDiff, Nat.reduceSub, Nat.reduceDiv, Nat.reduceMod, Nat.reduceMul, d1047_b0, fiS, g2]
  | true =>
    rw [hu] at g2
    simp only [Bool.not_true] at g2
    rw [en hu] at kat
    simp (config := { maxSteps := 1000000 }) (disch := omega) only [go_sem, ↓reduceIte, Nat.reduceEqDiff, Nat.reduceAdd, Int.reduceToNat, reduceCtorEq, Nat.reduceLeDiff, Nat.reduceSub, Nat.reduceDiv, Nat.reduceMod, Nat.reduceMul, d1047_b0, fiS, g2, kat, kyC_noinl, aeqL, aeq, encA, digA, e0, decide_true, Bool.and_self]
end Go.Proofs.Ythpgaecloecflaa
