/- Layer 14's laws: TableKeeps. -/
import Derived.Test.YthpgaecloecflaaTk
namespace Go.Proofs.Ythpgaecloecflaa
set_option linter.unusedSimpArgs false
set_option linter.unusedVariables false
set_option maxHeartbeats 4000000
set_option maxRecDepth 100000
def ops (l : List Opr) : List AV := l.flatMap opC
theorem ops_cons (o : Opr) (l : List Opr) : ops (o :: l) = opC o ++ ops l := rfl
theorem ops_flat (l : List Opr) : (ops l).all flat = true := by
  induction l with
  | nil => rfl
  | cons e l ih => rw [ops_cons, List.all_append, ih]; rfl
theorem ops_len (l : List Opr) : (ops l).length = l.length * 5 := by
  induction l with
  | nil => rfl
  | cons e l ih => rw [ops_cons, List.length_append, ih]; simp [opC]; omega
theorem ops_noid' (l : List Opr) : allL pnoid (ops l) = true := flat_noidL (ops_flat l)
theorem ops_noinl' (l : List Opr) : allL pnoinl (ops l) = true := flat_noinlL (ops_flat l)
theorem ops_idlt' (n : Nat) (l : List Opr) : allL (pidlt n) (ops l) = true := flat_idltL (ops_flat l)
theorem ops_ren' (f : Nat → Nat) (l : List Opr) : mapL (ren1 f) (ops l) = ops l := flat_renL (ops_flat l)
theorem ops_ids (l : List Opr) : idsL (ops l) = [] := flat_idsL (ops_flat l)
attribute [go_sem] ops_len ops_noid' ops_noinl' ops_idlt' ops_ren' ops_ids
theorem ops_drop (l : List Opr) (i : Nat) : (ops l).drop (i * 5) = ops (l.drop i) := by
  induction i generalizing l with
  | zero => simp
  | succ i ih => cases l with
    | nil => simp [ops]
    | cons r l =>
      rw [ops_cons, show (i + 1) * 5 = (opC r).length + i * 5 by simp [opC]; omega, ← List.drop_drop, List.drop_left]
      exact ih l
theorem ops_rdc {l : List Opr} {i : Nat} (h : i < l.length) : rdc ((ops l).drop (i * 5)) (some 5) = some (.agg (opC (l.getD i default))) := by
  rw [ops_drop, List.drop_eq_getElem_cons h, ops_cons, List.getD_eq_getElem?_getD, List.getElem?_eq_getElem h]
  simp [rdc, opC, List.take_append]
theorem fit_ops {v : AV} (h : Fit (.sl 5 [.int .i64, .int .i64, .int .i64, .int .i64, .int .i64]) v) : ∃ l : List Opr, v = .sl 5 (ops l) ∧ l.length ≤ 9223372036854775807 := by
  obtain ⟨rows, rfl, hl, hr⟩ := h
  have : ∃ l : List Opr, rows.flatten = ops l ∧ l.length = rows.length := by
    clear hl
    induction rows with
    | nil => exact ⟨[], rfl, rfl⟩
    | cons r rows ih =>
      obtain ⟨l, h1, h2⟩ := ih (fun r hr' => hr r (by simp [hr']))
      have h4 := hr r (by simp)
      simp only [FitL] at h4
      obtain ⟨_, _, rfl, h5, _, _, rfl, h6, _, _, rfl, h7, _, _, rfl, h8, _, _, rfl, h9, rfl⟩ := h4
      obtain ⟨a, rfl, ha⟩ := fit_int h5
      obtain ⟨b, rfl, hb⟩ := fit_int h6
      obtain ⟨c, rfl, hc⟩ := fit_int h7
      obtain ⟨d, rfl, hd⟩ := fit_int h8
      obtain ⟨e, rfl, he⟩ := fit_int h9
      exact ⟨⟨a, ⟨b, c, d⟩, e⟩ :: l, by rw [ops_cons, ← h1]; rfl, by simp [h2]⟩
  obtain ⟨l, h1, h2⟩ := this
  exact ⟨l, by rw [h1], by rw [h2]; unfold maxLen at hl; omega⟩
theorem fit_key {vs : List AV} (h : FitL [.int .i64, .int .i64, .int .i64] vs) : ∃ k : Ky, vs = kyC k := by
  simp only [FitL] at h
  obtain ⟨_, _, rfl, h1, _, _, rfl, h2, _, _, rfl, h3, rfl⟩ := h
  obtain ⟨a1, rfl, b1⟩ := fit_int h1
  obtain ⟨a2, rfl, b2⟩ := fit_int h2
  obtain ⟨a3, rfl, b3⟩ := fit_int h3
  exact ⟨⟨a1, a2, a3⟩, rfl⟩
theorem seq_st {σ : Type} {I : σ → Prop} {R : Nat → σ → σ → Prop} {n : Nat} {s0 : σ} (h0 : I s0) (hs : ∀ i s, i < n → I s → ∃ s', R i s s' ∧ I s') : ∃ f : Nat → σ, f 0 = s0 ∧ (∀ i, i ≤ n → I (f i)) ∧ ∀ i, i < n → R i (f i) (f (i + 1)) := by
  classical
  let st : Nat → σ → σ := fun i a => if h : i < n ∧ I a then (hs i a h.1 h.2).choose else s0
  let f : Nat → σ := fun i => Nat.rec s0 (fun i a => st i a) i
  have hf : ∀ i, f (i + 1) = st i (f i) := fun i => rfl
  have hst : ∀ i a, i < n → I a → R i a (st i a) ∧ I (st i a) := fun i a h1 h2 => by
    have e : st i a = (hs i a h1 h2).choose := dif_pos ⟨h1, h2⟩
    rw [e]; exact (hs i a h1 h2).choose_spec
  have hP : ∀ i, i ≤ n → I (f i) := by
    intro i
    induction i with
    | zero => intro _; exact h0
    | succ i ih =>
      intro hi
      rw [hf]
      exact (hst i (f i) (by omega) (ih (by omega))).2
  exact ⟨f, rfl, hP, fun i hi => by rw [hf]; exact (hst i (f i) hi (hP i (by omega))).1⟩
theorem script_ex {m : Nat} (h1 : 1 ≤ m) (h2 : m ≤ 400) (l : List Opr) : ∃ (f : Nat → Int × List Pl), f 0 = (0, List.replicate (2 * m) default) ∧ (∀ i, i ≤ l.length → TB m (f i).1 (f i).2) ∧ ∀ i, i < l.length → runP tab 1044 [.ref 0 0, .agg (opC (l.getD i default))] [tbB m (f i).1 (f i).2] = some (.tup [], [tbB m (f (i + 1)).1 (f (i + 1)).2]) :=
  seq_st (I := fun s : Int × List Pl => TB m s.1 s.2) (R := fun i s s' => runP tab 1044 [.ref 0 0, .agg (opC (l.getD i default))] [tbB m s.1 s.2] = some (.tup [], [tbB m s'.1 s'.2])) (TB.new h1 h2) (fun i s hi hI => by
    obtain ⟨ks', P', g, T⟩ := do_ex hI (l.getD i default)
    exact ⟨(ks', P'), g, T⟩)
def tkS (l : List Opr) (k o : Ky) (n : Int) (m : Nat) (f : Nat → Int × List Pl) (i : Nat) : St := ⟨[(1, .sl 5 (ops l)), (4, .int .i64 n), (7, .ref 0 0), (8, .ref 1 0), (11, .ref 2 0), (13, .int .i64 (i : Int))], [.row false (kyC k), .row false (kyC o), tbB m (f i).1 (f i).2], 0, [(0, 3, [1, 4, 7, 8, 11, 13], [(7, 0), (8, 1), (11, 2)])]⟩
theorem keeps_law {mo : Int} {l : List Opr} {k o : Ky} {n : Int} (hl : l.length ≤ 9223372036854775807) : runP tab 1029 [.int .i64 mo, .sl 5 (ops l), .agg (kyC k), .agg (kyC o), .int .i64 n] [] = some (.bool true, []) := by
  refine runP_fn t1029 rfl ?_
  have gt := tables_run
  have L := ops_len l
  have e0 : ∀ x y : Int, (x == y) = decide (x = y) := fun x y => by rw [Bool.eq_iff_iff]; simp
  by_cases hm : mo < 1 ∨ 400 < mo
  · have gn := new_no hm
    simp only [kyC]
    simp (config := { maxSteps := 1000000 }) (disch := omega) only [go_sem, ↓reduceIte, Nat.reduceEqDiff, Nat.reduceAdd, Int.reduceToNat, reduceCtorEq, Nat.reduceLeDiff, Nat.reduceSub, Nat.reduceDiv, Nat.reduceMod, Nat.reduceMul, d1029, gn, gt]
  obtain ⟨m, rfl⟩ : ∃ m : Nat, mo = m := ⟨mo.toNat, by omega⟩
  have gn := new_run (m := m) (by omega) (by omega)
  have ek : (decide (k.s = o.s) && (decide (k.d = o.d) && decide (k.v = o.v))) = decide (k = o) := (ke_eq k o).symm
  by_cases hlen : l.length ≤ 200
  case neg =>
    simp only [kyC]
    simp (config := { maxSteps := 1000000 }) (disch := omega) only [go_sem, ↓reduceIte, Nat.reduceEqDiff, Nat.reduceAdd, Int.reduceToNat, reduceCtorEq, Nat.reduceLeDiff, Nat.reduceSub, Nat.reduceDiv, Nat.reduceMod, Nat.reduceMul, d1029, gn, gt]
  by_cases hko : k = o
  · rw [decide_eq_true hko] at ek
    simp only [kyC]
    simp (config := { maxSteps := 1000000 }) (disch := omega) only [go_sem, ↓reduceIte, Nat.reduceEqDiff, Nat.reduceAdd, Int.reduceToNat, reduceCtorEq, Nat.reduceLeDiff, Nat.reduceSub, Nat.reduceDiv, Nat.reduceMod, Nat.reduceMul, d1029, gn, gt, aeqL, aeq, encA, digA, e0, ek]
  rw [decide_eq_false hko] at ek
  obtain ⟨f, f0, fT, fR⟩ := script_ex (m := m) (by omega) (by omega) l
  simp only [kyC]
  simp (config := { maxSteps := 1000000 }) (disch := omega) only [go_sem, ↓reduceIte, Nat.reduceEqDiff, Nat.reduceAdd, Int.reduceToNat, reduceCtorEq, Nat.reduceLeDiff, Nat.reduceSub, Nat.reduceDiv, Nat.reduceMod, Nat.reduceMul, d1029, gn, gt, aeqL, aeq, encA, digA, e0, ek]
  refine Ev_loop0 (fun i => tkS l k o n m f i) l.length (by simp [tkS, f0, tbB, kyC]) (fun i hi => ?_) ?_
  · have e := ops_rdc hi
    have g := fR i hi
    unfold tkS
    generalize f i = s at *
    generalize f (i + 1) = s' at *
    generalize l.getD i default = op at *
    simp only [opC, tbB, kyC] at e g ⊢
    simp (config := { maxSteps := 1000000 }) (disch := omega) only [go_sem, ↓reduceIte, Nat.reduceEqDiff, Nat.reduceAdd, Int.reduceToNat, reduceCtorEq, Nat.reduceLeDiff, Nat.reduceSub, Nat.reduceDiv, Nat.reduceMod, Nat.reduceMul, d1029_b0, L, e, g]
  · have T := fT l.length (Nat.le_refl _)
    unfold tkS
    clear fR fT f0
    generalize f l.length = s at *
    obtain ⟨ks, P⟩ := s
    simp only at T ⊢
    have b1 := getV T o
    obtain ⟨e, k1, P1, g1, T1, c1, a1, a2⟩ := putV T k n
    have b2 := getV T1 o
    have b3 := getV T1 k
    have hok : o ≠ k := fun h => hko h.symm
    by_cases he : e = 0
    · subst he
      obtain ⟨-, v1, v2, -⟩ := a1 rfl
      obtain ⟨k2, P2, g2, T2, d1, d2, d3⟩ := dropV T1 k
      have b4 := getV T2 k
      have b5 := getV T2 o
      rw [d1] at b4
      rw [d2 o hok, v2 o hok] at b5
      rw [v2 o hok] at b2
      rw [v1] at b3 g2 d3
      have l1 := tlen_run (m := (m : Int)) (ks := k1) (P := P1)
      have l2 := tlen_run (m := (m : Int)) (ks := k2) (P := P2)
      have hk2 : k2 = k1 - 1 := d3
      subst hk2
      have c4 := T1.cnt
      have c5 := T1.le
      clear a1 a2 c1 d2 v2
      generalize val P o = vo at *
      simp only [tbB, tbI, kyC, getA, Option.isSome] at b1 b2 b3 b4 b5 g1 g2 l1 l2 ⊢
      cases vo <;> simp (config := { maxSteps := 1000000 }) (disch := omega) only [go_sem, ↓reduceIte, Nat.reduceEqDiff, Nat.reduceAdd, Int.reduceToNat, reduceCtorEq, Nat.reduceLeDiff, Nat.reduceSub, Nat.reduceDiv, Nat.reduceMod, Nat.reduceMul, d1029_b0, L, gt, b1, b2, b3, b4, b5, g1, g2, l1, l2]
    · obtain ⟨rfl, rfl, v0, -⟩ := a2 he
      rw [v0] at b3
      clear a1 a2 c1 b2
      generalize val P1 o = vo at *
      simp only [tbB, tbI, kyC, getA] at b1 b3 g1 ⊢
      cases vo <;> simp (config := { maxSteps := 1000000 }) (disch := omega) only [go_sem, ↓reduceIte, Nat.reduceEqDiff, Nat.reduceAdd, Int.reduceToNat, reduceCtorEq, Nat.reduceLeDiff, Nat.reduceSub, Nat.reduceDiv, Nat.reduceMod, Nat.reduceMul, d1029_b0, L, gt, b1, b3, g1, he]
end Go.Proofs.Ythpgaecloecflaa
