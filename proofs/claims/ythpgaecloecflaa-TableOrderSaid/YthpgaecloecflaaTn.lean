/- Layer 14's laws: TableOrder. -/
import Derived.Test.YthpgaecloecflaaTm
namespace Go.Proofs.Ythpgaecloecflaa
set_option linter.unusedSimpArgs false
set_option linter.unusedVariables false
set_option maxHeartbeats 4000000
set_option maxRecDepth 100000
theorem seq_sti {σ : Type} {I : Nat → σ → Prop} {R : Nat → σ → σ → Prop} {n : Nat} {s0 : σ} (h0 : I 0 s0) (hs : ∀ i s, i < n → I i s → ∃ s', R i s s' ∧ I (i + 1) s') : ∃ f : Nat → σ, f 0 = s0 ∧ (∀ i, i ≤ n → I i (f i)) ∧ ∀ i, i < n → R i (f i) (f (i + 1)) := by
  classical
  let st : Nat → σ → σ := fun i a => if h : i < n ∧ I i a then (hs i a h.1 h.2).choose else s0
  let f : Nat → σ := fun i => Nat.rec s0 (fun i a => st i a) i
  have hf : ∀ i, f (i + 1) = st i (f i) := fun i => rfl
  have hst : ∀ i a, i < n → I i a → R i a (st i a) ∧ I (i + 1) (st i a) := fun i a h1 h2 => by
    have e : st i a = (hs i a h1 h2).choose := dif_pos ⟨h1, h2⟩
    rw [e]; exact (hs i a h1 h2).choose_spec
  have hP : ∀ i, i ≤ n → I i (f i) := by
    intro i
    induction i with
    | zero => intro _; exact h0
    | succ i ih =>
      intro hi
      rw [hf]
      exact (hst i (f i) (by omega) (ih (by omega))).2
  exact ⟨f, rfl, hP, fun i hi => by rw [hf]; exact (hst i (f i) hi (hP i (by omega))).1⟩
theorem ke_no {x y : Ky} (h : x ≠ y) : (decide (x.s = y.s) && (decide (x.d = y.d) && decide (x.v = y.v))) = false := by rw [← ke_eq]; exact decide_eq_false h
def Hol (l : List Ky) (S : Nat → Prop) (i : Nat) (s : Int × List Pl) : Prop := TB 100 s.1 s.2 ∧ (∀ j, j < l.length → S j → okB (l.getD j default) = true → val s.2 (l.getD j default) = some (j : Int)) ∧ (∀ q v, val s.2 q = some v → ∃ j, j < l.length ∧ S j ∧ l.getD j default = q) ∧ s.1 ≤ i
theorem hol_put {l : List Ky} (hl : l.length ≤ 100) (hd : ∀ i j, i < j → j < l.length → l.getD i default ≠ l.getD j default) {S : Nat → Prop} {i b : Nat} {s : Int × List Pl} (hi : i < l.length) (hb : b < l.length) (hS : ¬ S b) (h : Hol l S i s) :
    ∃ s', (∃ e : Int, runP tab 1035 [.ref 0 0, .agg (kyC (l.getD b default)), .int .i64 (b : Int)] [tbB 100 s.1 s.2] = some (.int .i64 e, [tbB 100 s'.1 s'.2])) ∧ Hol l (fun j => S j ∨ j = b) (i + 1) s' := by
  obtain ⟨T, h1, h2, h3⟩ := h
  have hne : ∀ j, j < l.length → j ≠ b → l.getD j default ≠ l.getD b default := fun j hj hjb e => by
    rcases Nat.lt_or_gt_of_ne hjb with q | q
    · exact hd j b q hb e
    · exact hd b j q hj e.symm
  obtain ⟨e, ks', P', g, T', c, a1, a2⟩ := putV T (l.getD b default) (b : Int)
  cases hk : okB (l.getD b default) with
  | true =>
    have hv : val s.2 (l.getD b default) = none := by
      cases hv : val s.2 (l.getD b default) with
      | none => rfl
      | some v =>
        obtain ⟨j, hj, hSj, e⟩ := h2 _ _ hv
        by_cases hjb : j = b
        · subst hjb; exact absurd hSj hS
        · exact absurd e (hne j hj hjb)
    have he : e = 0 := by
      rw [c, hk, hv, if_neg (by simp), if_pos (.inr (by have := h3; omega))]
    obtain ⟨-, b2, b3, b4⟩ := a1 he
    rw [hv] at b4
    refine ⟨(ks', P'), ⟨e, g⟩, T', ?_, ?_, ?_⟩
    · intro j hj hSj hok
      by_cases hjb : j = b
      · subst hjb; exact b2
      · simp only
        rw [b3 _ (hne j hj hjb)]
        exact h1 j hj (hSj.resolve_right hjb) hok
    · intro q v hq
      by_cases hqb : q = l.getD b default
      · exact ⟨b, hb, .inr rfl, hqb.symm⟩
      · simp only at hq
        rw [b3 q hqb] at hq
        obtain ⟨j, hj, hSj, e⟩ := h2 q v hq
        exact ⟨j, hj, .inl hSj, e⟩
    · simp only at b4 ⊢
      simp at b4
      omega
  | false =>
    have he : e ≠ 0 := by rw [c, hk, if_pos rfl]; decide
    obtain ⟨rfl, rfl, b3, -⟩ := a2 he
    refine ⟨(s.1, s.2), ⟨e, g⟩, T, ?_, ?_, by simp only; omega⟩
    · intro j hj hSj hok
      by_cases hjb : j = b
      · subst hjb; rw [hk] at hok; cases hok
      · exact h1 j hj (hSj.resolve_right hjb) hok
    · intro q v hq
      obtain ⟨j, hj, hSj, e⟩ := h2 q v hq
      exact ⟨j, hj, .inl hSj, e⟩
theorem Hol.imp {l : List Ky} {S S' : Nat → Prop} {i : Nat} {s : Int × List Pl} (h : Hol l S i s) (hS : ∀ j, j < l.length → (S j ↔ S' j)) : Hol l S' i s := by
  obtain ⟨T, h1, h2, h3⟩ := h
  refine ⟨T, fun j hj hs => h1 j hj ((hS j hj).2 hs), fun q v hq => ?_, h3⟩
  obtain ⟨j, hj, hs, e⟩ := h2 q v hq
  exact ⟨j, hj, (hS j hj).1 hs, e⟩
theorem Hol.new (l : List Ky) {S : Nat → Prop} (hS : ∀ j, j < l.length → ¬ S j) : Hol l S 0 (0, List.replicate (2 * 100) default) :=
  ⟨TB.new (by omega) (by omega), fun j hj hs => absurd hs (hS j hj), fun q v hq => (by
    have h : val (List.replicate (2 * 100) default) q = some v := hq
    rw [val_new] at h; cases h), Int.le_refl _⟩
theorem both_ex {l : List Ky} (hl : l.length ≤ 100) (hd : ∀ i j, i < j → j < l.length → l.getD i default ≠ l.getD j default) : ∃ f : Nat → (Int × List Pl) × (Int × List Pl), f 0 = ((0, List.replicate (2 * 100) default), (0, List.replicate (2 * 100) default)) ∧
    (∀ i, i ≤ l.length → Hol l (fun j => j < i) i (f i).1 ∧ Hol l (fun j => l.length - i ≤ j) i (f i).2) ∧
    ∀ i, i < l.length → (∃ e : Int, runP tab 1035 [.ref 0 0, .agg (kyC (l.getD i default)), .int .i64 (i : Int)] [tbB 100 (f i).1.1 (f i).1.2] = some (.int .i64 e, [tbB 100 (f (i + 1)).1.1 (f (i + 1)).1.2])) ∧
      ∃ e : Int, runP tab 1035 [.ref 0 0, .agg (kyC (l.getD (l.length - 1 - i) default)), .int .i64 ((l.length - 1 - i : Nat) : Int)] [tbB 100 (f i).2.1 (f i).2.2] = some (.int .i64 e, [tbB 100 (f (i + 1)).2.1 (f (i + 1)).2.2]) := by
  refine seq_sti (σ := (Int × List Pl) × (Int × List Pl)) (I := fun i s => Hol l (fun j => j < i) i s.1 ∧ Hol l (fun j => l.length - i ≤ j) i s.2)
    (R := fun i s s' => (∃ e : Int, runP tab 1035 [.ref 0 0, .agg (kyC (l.getD i default)), .int .i64 (i : Int)] [tbB 100 s.1.1 s.1.2] = some (.int .i64 e, [tbB 100 s'.1.1 s'.1.2])) ∧
      ∃ e : Int, runP tab 1035 [.ref 0 0, .agg (kyC (l.getD (l.length - 1 - i) default)), .int .i64 ((l.length - 1 - i : Nat) : Int)] [tbB 100 s.2.1 s.2.2] = some (.int .i64 e, [tbB 100 s'.2.1 s'.2.2]))
    ⟨Hol.new l fun j hj h => by omega, Hol.new l fun j hj h => by omega⟩ fun i s hi h => ?_
  obtain ⟨sa, ga, ha⟩ := hol_put hl hd (i := i) (b := i) hi hi (by omega) h.1
  obtain ⟨sb, gb, hb⟩ := hol_put hl hd (i := i) (b := l.length - 1 - i) hi (by omega) (by omega) h.2
  exact ⟨(sa, sb), ⟨ga, gb⟩, ha.imp fun j hj => by omega, hb.imp fun j hj => by omega⟩
def orM0 : List Mark := [(0, 2, [0, 3, 5, 7], [(3, 0), (5, 1)])]
def or0 (l : List Ky) (P : List Pl) (i : Nat) : St := ⟨[(0, .sl 3 (kys l)), (3, .ref 0 0), (5, .ref 1 0), (7, .int .i64 (i : Int))], [tbB 100 0 P, tbB 100 0 P], 0, orM0⟩
def or1 (l : List Ky) (P : List Pl) (i k : Nat) : St := ⟨[(0, .sl 3 (kys l)), (3, .ref 0 0), (5, .ref 1 0), (7, .int .i64 (i : Int)), (8, .int .i64 (k : Int))], [tbB 100 0 P, tbB 100 0 P], 0, (1, 2, [0, 3, 5, 7, 8], [(3, 0), (5, 1)]) :: orM0⟩
theorem or_row {l : List Ky} {P : List Pl} {i : Nat} (hl : l.length ≤ 100) (hi : i < l.length) (hn : ∀ k, k < i → l.getD k default ≠ l.getD i default) : Ev tab d1032_b0 (or0 l P i) (fun x st => x = .normal ∧ st = or0 l P (i + 1)) := by
  have LK := kys_len l
  have e0 : ∀ x y : Int, (x == y) = decide (x = y) := fun x y => by rw [Bool.eq_iff_iff]; simp
  unfold or0
  simp only [tbB]
  simp (config := { maxSteps := 1000000 }) (disch := omega) only [go_sem, ↓reduceIte, Nat.reduceEqDiff, Nat.reduceAdd, Int.reduceToNat, reduceCtorEq, Nat.reduceLeDiff, Nat.reduceSub, Nat.reduceDiv, Nat.reduceMod, Nat.reduceMul, d1032_b0, orM0, LK]
  refine Ev_loop0 (fun k => or1 l P i k) i (by simp [or1, orM0, tbB]) (fun k hk => ?_) ?_
  · have e1 := kys_at hi
    have e2 := kys_at (l := l) (i := k) (by omega)
    have ek := ke_no (x := l.getD i default) (y := l.getD k default) (fun e => hn k hk e.symm)
    unfold or1
    generalize l.getD i default = a at *
    generalize l.getD k default = b at *
    simp only [tbB, kyC] at e1 e2 ⊢
    simp (config := { maxSteps := 1000000 }) (disch := omega) only [go_sem, ↓reduceIte, Nat.reduceEqDiff, Nat.reduceAdd, Int.reduceToNat, reduceCtorEq, Nat.reduceLeDiff, Nat.reduceSub, Nat.reduceDiv, Nat.reduceMod, Nat.reduceMul, d1032_b1, orM0, LK, e1, e2, aeqL, aeq, encA, digA, e0, ek]
  · unfold or1
    simp only [tbB]
    simp (config := { maxSteps := 1000000 }) (disch := omega) only [go_sem, ↓reduceIte, Nat.reduceEqDiff, Nat.reduceAdd, Int.reduceToNat, reduceCtorEq, Nat.reduceLeDiff, Nat.reduceSub, Nat.reduceDiv, Nat.reduceMod, Nat.reduceMul, d1032_b1, orM0, LK]
def or2 (l : List Ky) (f : Nat → (Int × List Pl) × (Int × List Pl)) (i : Nat) : St := ⟨[(0, .sl 3 (kys l)), (3, .ref 0 0), (5, .ref 1 0), (9, .int .i64 (i : Int))], [tbB 100 (f i).1.1 (f i).1.2, tbB 100 (f i).2.1 (f i).2.2], 0, (2, 2, [0, 3, 5, 9], [(3, 0), (5, 1)]) :: orM0⟩
def or3 (l : List Ky) (a b : Int × List Pl) (i : Nat) : St := ⟨[(0, .sl 3 (kys l)), (3, .ref 0 0), (5, .ref 1 0), (11, .int .i64 (i : Int))], [tbB 100 a.1 a.2, tbB 100 b.1 b.2], 0, (3, 2, [0, 3, 5, 11], [(3, 0), (5, 1)]) :: (2, 2, [0, 3, 5, 9], [(3, 0), (5, 1)]) :: orM0⟩
theorem torder_law {l : List Ky} (hl : l.length ≤ 9223372036854775807) : runP tab 1032 [.sl 3 (kys l)] [] = some (.bool true, []) := by
  refine runP_fn t1032 rfl ?_
  have gt := tables_run
  have LK := kys_len l
  have e0 : ∀ x y : Int, (x == y) = decide (x = y) := fun x y => by rw [Bool.eq_iff_iff]; simp
  have gn := new_run (m := 100) (by omega) (by omega)
  simp only [Int.cast_ofNat_Int] at gn
  by_cases hlen : l.length ≤ 100
  case neg => simp (config := { maxSteps := 1000000 }) (disch := omega) only [go_sem, ↓reduceIte, Nat.reduceEqDiff, Nat.reduceAdd, Int.reduceToNat, reduceCtorEq, Nat.reduceLeDiff, Nat.reduceSub, Nat.reduceDiv, Nat.reduceMod, Nat.reduceMul, d1032, gn, gt, LK]
  rcases first_ix' (fun i => ∀ k, k < i → l.getD k default ≠ l.getD i default) l.length with hd | ⟨i0, i1, i2, i3⟩
  case inr =>
    have i3 : ∃ k, k < i0 ∧ l.getD k default = l.getD i0 default := by
      refine Classical.byContradiction fun hc => i3 fun k hk e => hc ⟨k, hk, e⟩
    obtain ⟨kk, kk1, kk2⟩ := i3
    generalize List.replicate (2 * 100) (default : Pl) = P0 at *
    simp (config := { maxSteps := 1000000 }) (disch := omega) only [go_sem, ↓reduceIte, Nat.reduceEqDiff, Nat.reduceAdd, Int.reduceToNat, reduceCtorEq, Nat.reduceLeDiff, Nat.reduceSub, Nat.reduceDiv, Nat.reduceMod, Nat.reduceMul, d1032, gn, LK]
    refine Ev_loop0 (fun i => or0 l P0 i) i0 (by simp [or0, orM0, tbB]) (fun i hi => or_row hlen (by omega) (i2 i hi)) ?_
    rcases first_ix' (fun k => l.getD k default ≠ l.getD i0 default) i0 with hc | ⟨k0, k1, k2, k3⟩
    · exact absurd kk2 (hc kk kk1)
    have k3 : l.getD k0 default = l.getD i0 default := Classical.not_not.1 k3
    unfold or0
    simp only [tbB]
    simp (config := { maxSteps := 1000000 }) (disch := omega) only [go_sem, ↓reduceIte, Nat.reduceEqDiff, Nat.reduceAdd, Int.reduceToNat, reduceCtorEq, Nat.reduceLeDiff, Nat.reduceSub, Nat.reduceDiv, Nat.reduceMod, Nat.reduceMul, d1032_b0, orM0, LK]
    refine Ev_loop0 (fun k => or1 l P0 i0 k) k0 (by simp [or1, orM0, tbB]) (fun k hk => ?_) ?_
    · have e1 := kys_at i1
      have e2 := kys_at (l := l) (i := k) (by omega)
      have ek := ke_no (x := l.getD i0 default) (y := l.getD k default) (fun e => k2 k hk e.symm)
      unfold or1
      generalize l.getD i0 default = a at *
      generalize l.getD k default = b at *
      simp only [tbB, kyC] at e1 e2 ⊢
      simp (config := { maxSteps := 1000000 }) (disch := omega) only [go_sem, ↓reduceIte, Nat.reduceEqDiff, Nat.reduceAdd, Int.reduceToNat, reduceCtorEq, Nat.reduceLeDiff, Nat.reduceSub, Nat.reduceDiv, Nat.reduceMod, Nat.reduceMul, d1032_b1, orM0, LK, e1, e2, aeqL, aeq, encA, digA, e0, ek]
    · have e1 := kys_at i1
      have e2 := kys_at (l := l) (i := k0) (by omega)
      rw [k3] at e2
      unfold or1
      generalize l.getD i0 default = a at *
      simp only [tbB, kyC] at e1 e2 ⊢
      simp (config := { maxSteps := 1000000 }) (disch := omega) only [go_sem, ↓reduceIte, Nat.reduceEqDiff, Nat.reduceAdd, Int.reduceToNat, reduceCtorEq, Nat.reduceLeDiff, Nat.reduceSub, Nat.reduceDiv, Nat.reduceMod, Nat.reduceMul, d1032_b1, orM0, LK, e1, e2, aeqL, aeq, encA, digA, e0, decide_true, Bool.and_self, gt]
  case inl =>
    obtain ⟨f, f0, fI, fR⟩ := both_ex hlen (fun i j hij hj => hd j hj i hij)
    generalize List.replicate (2 * 100) (default : Pl) = P0 at *
    simp (config := { maxSteps := 1000000 }) (disch := omega) only [go_sem, ↓reduceIte, Nat.reduceEqDiff, Nat.reduceAdd, Int.reduceToNat, reduceCtorEq, Nat.reduceLeDiff, Nat.reduceSub, Nat.reduceDiv, Nat.reduceMod, Nat.reduceMul, d1032, gn, LK]
    refine Ev_loop0 (fun i => or0 l P0 i) l.length (by simp [or0, orM0, tbB]) (fun i hi => or_row hlen hi (hd i hi)) ?_
    unfold or0
    simp only [tbB]
    simp (config := { maxSteps := 1000000 }) (disch := omega) only [go_sem, ↓reduceIte, Nat.reduceEqDiff, Nat.reduceAdd, Int.reduceToNat, reduceCtorEq, Nat.reduceLeDiff, Nat.reduceSub, Nat.reduceDiv, Nat.reduceMod, Nat.reduceMul, d1032_b0, orM0, LK]
    refine Ev_loop0 (fun i => or2 l f i) l.length (by simp [or2, orM0, f0, tbB]) (fun i hi => ?_) ?_
    · obtain ⟨⟨ea, ga⟩, eb, gb⟩ := fR i hi
      have e1 := kys_at hi
      have e2 := kys_at (l := l) (i := l.length - 1 - i) (by omega)
      have hbk : ((l.length : Int) - 1 - (i : Int)) = ((l.length - 1 - i : Nat) : Int) := by omega
      have hbl : l.length - 1 - i < l.length := by omega
      unfold or2
      generalize f i = s at *
      generalize f (i + 1) = s' at *
      generalize l.length - 1 - i = bk at *
      generalize l.getD i default = a at *
      generalize l.getD bk default = b at *
      simp only [tbB, kyC] at e1 e2 ga gb ⊢
      simp (config := { maxSteps := 1000000 }) (disch := omega) only [go_sem, ↓reduceIte, Nat.reduceEqDiff, Nat.reduceAdd, Int.reduceToNat, reduceCtorEq, Nat.reduceLeDiff, Nat.reduceSub, Nat.reduceDiv, Nat.reduceMod, Nat.reduceMul, d1032_b2, orM0, LK, e1, e2, ga, gb, hbk]
    · obtain ⟨⟨TA, A1, A2, -⟩, TB', B1, B2, -⟩ := fI l.length (Nat.le_refl _)
      unfold or2
      clear fR fI f0
      generalize f l.length = s at *
      obtain ⟨a, b⟩ := s
      simp only at TA A1 A2 TB' B1 B2 ⊢
      have hsame : ∀ q, val a.2 q = val b.2 q := fun q => val_ext fun v => by
        constructor
        · intro hv
          obtain ⟨j, hj, -, e⟩ := A2 q v hv
          have hok := val_ok TA.ring hv
          rw [← e] at hv hok ⊢
          rw [A1 j hj hj hok] at hv
          rw [B1 j hj (by omega) hok]; exact hv
        · intro hv
          obtain ⟨j, hj, -, e⟩ := B2 q v hv
          have hok := val_ok TB'.ring hv
          rw [← e] at hv hok ⊢
          rw [B1 j hj (by omega) hok] at hv
          rw [A1 j hj hj hok]; exact hv
      have hK : kyT a.2 = kyT b.2 := asc_ext ordrT (kyT_asc TA.ring) (kyT_asc TB'.ring) fun q => by rw [kyT_mem TA.ring, kyT_mem TB'.ring, hsame]
      have hPa : a.2.length ≤ 1000 := by have := TA.len; omega
      have hPb : b.2.length ≤ 1000 := by have := TB'.len; omega
      have k1 := keysT_run (m := 100) (ks := a.1) (P := a.2) hPa
      have k2 := keysT_run (m := 100) (ks := b.1) (P := b.2) hPb
      rw [hK] at k1
      have hKl : (kyT b.2).length ≤ 1000 := by rw [kyT_len]; have := TB'.le; omega
      have k3 := same_run (a := kyT b.2) (b := kyT b.2) (by omega) (by omega)
      rw [decide_eq_true rfl] at k3
      have ga : ∀ i, i < l.length → ∃ o : Option Int, runP tab 1037 [tbI 100 a.1 a.2, .agg (kyC (l.getD i default))] [] = some (getA o, []) ∧ runP tab 1037 [tbI 100 b.1 b.2, .agg (kyC (l.getD i default))] [] = some (getA o, []) ∧ (o = none ∨ o = some (i : Int)) := fun i hi => by
        have g1 := getV TA (l.getD i default)
        have g2 := getV TB' (l.getD i default)
        rw [← hsame] at g2
        refine ⟨_, g1, g2, ?_⟩
        cases hv : val a.2 (l.getD i default) with
        | none => exact .inl rfl
        | some v =>
          have := A1 i hi hi (val_ok TA.ring hv)
          rw [hv] at this
          exact .inr this
      generalize kyT b.2 = K at *
      have LK2 := kys_len K
      simp only [tbB, tbI, kyC] at k1 k2 ga ⊢
      simp (config := { maxSteps := 1000000 }) (disch := omega) only [go_sem, ↓reduceIte, Nat.reduceEqDiff, Nat.reduceAdd, Int.reduceToNat, reduceCtorEq, Nat.reduceLeDiff, Nat.reduceSub, Nat.reduceDiv, Nat.reduceMod, Nat.reduceMul, d1032_b2, orM0, LK]
      refine Ev_loop0 (fun i => or3 l a b i) l.length (by simp [or3, orM0, tbB]) (fun i hi => ?_) ?_
      · obtain ⟨o, g1, g2, ho⟩ := ga i hi
        have e1 := kys_at hi
        unfold or3
        generalize l.getD i default = q at *
        simp only [tbB, kyC] at e1 ⊢
        rcases ho with rfl | rfl
        · simp only [getA] at g1 g2
          simp (config := { maxSteps := 1000000 }) (disch := omega) only [go_sem, ↓reduceIte, Nat.reduceEqDiff, Nat.reduceAdd, Int.reduceToNat, reduceCtorEq, Nat.reduceLeDiff, Nat.reduceSub, Nat.reduceDiv, Nat.reduceMod, Nat.reduceMul, d1032_b3, orM0, LK, e1, g1, g2]
        · simp only [getA] at g1 g2
          simp (config := { maxSteps := 1000000 }) (disch := omega) only [go_sem, ↓reduceIte, Nat.reduceEqDiff, Nat.reduceAdd, Int.reduceToNat, reduceCtorEq, Nat.reduceLeDiff, Nat.reduceSub, Nat.reduceDiv, Nat.reduceMod, Nat.reduceMul, d1032_b3, orM0, LK, e1, g1, g2]
      · unfold or3
        simp only [tbB] at ⊢
        simp (config := { maxSteps := 1000000 }) (disch := omega) only [go_sem, ↓reduceIte, Nat.reduceEqDiff, Nat.reduceAdd, Int.reduceToNat, reduceCtorEq, Nat.reduceLeDiff, Nat.reduceSub, Nat.reduceDiv, Nat.reduceMod, Nat.reduceMul, d1032_b3, orM0, LK, LK2, gt, k1, k2, k3]
theorem fit_keys {v : AV} (h : Fit (.sl 3 [.int .i64, .int .i64, .int .i64]) v) : ∃ l : List Ky, v = .sl 3 (kys l) ∧ l.length ≤ 9223372036854775807 := by
  obtain ⟨rows, rfl, hl, hr⟩ := h
  have : ∃ l : List Ky, rows.flatten = kys l ∧ l.length = rows.length := by
    clear hl
    induction rows with
    | nil => exact ⟨[], rfl, rfl⟩
    | cons r rows ih =>
      obtain ⟨l, h1, h2⟩ := ih (fun r hr' => hr r (by simp [hr']))
      obtain ⟨k, rfl⟩ := fit_key (hr r (by simp))
      exact ⟨k :: l, by rw [kys_cons, ← h1]; rfl, by simp [h2]⟩
  obtain ⟨l, h1, h2⟩ := this
  exact ⟨l, by rw [h1], by rw [h2]; unfold maxLen at hl; omega⟩
end Go.Proofs.Ythpgaecloecflaa
