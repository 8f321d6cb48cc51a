/- Layer 14's laws: TableRuns. -/
import Derived.Test.YthpgaecloecflaaTp
namespace Go.Proofs.Ythpgaecloecflaa
set_option linter.unusedSimpArgs false
set_option linter.unusedVariables false
set_option maxHeartbeats 4000000
set_option maxRecDepth 100000
theorem kyT_ext {P : List Pl} (h : Ring P) {K : List Ky} (hK : asc ltT K) (hm : ∀ q, (val P q).isSome = true ↔ q ∈ K) : kyT P = K :=
  asc_ext ordrT (kyT_asc h) hK fun q => by rw [kyT_mem h, hm]
theorem kyT_le {m : Nat} {ks : Int} {P : List Pl} (T : TB m ks P) : (kyT P).length ≤ 1000 := by rw [kyT_len]; have := T.le; have := T.m4; omega
theorem putR {m : Nat} {ks : Int} {P : List Pl} (T : TB m ks P) (k : Ky) (n : Int) : ∃ (e ks' : Int) (P' : List Pl), runP tab 1035 [.ref 0 0, .agg (kyC k), .int .i64 n] [tbB m ks P] = some (.int .i64 e, [tbB m ks' P']) ∧
    runP tab 1036 [.ref 0 0, .agg (kyC k), .int .i64 n] [rtB m (kyT P) (nsT P)] = some (.int .i64 e, [rtB m (kyT P') (nsT P')]) ∧ TB m ks' P' := by
  obtain ⟨e, ks', P', g, T', c, a1, a2⟩ := putV T k n
  refine ⟨e, ks', P', g, ?_, T'⟩
  have his := kyT_is T k
  have hle := kyT_le T
  have hmem := kyT_mem T.ring
  cases hk : okB k with
  | false =>
    rw [hk, if_pos rfl] at c
    subst c
    obtain ⟨rfl, rfl, -, -⟩ := a2 (by decide)
    exact rput_no hk
  | true =>
    rw [hk, if_neg (by simp)] at c
    cases hv : val P k with
    | some v =>
      rw [hv] at c his
      rw [if_pos (.inl rfl)] at c
      subst c
      obtain ⟨-, b2, b3, -⟩ := a1 rfl
      have hK : kyT P' = kyT P := kyT_ext T'.ring (kyT_asc T.ring) fun q => by
        rw [hmem]
        by_cases hq : q = k
        · subst hq; rw [b2, hv]; simp
        · rw [b3 q hq]
      have hpos := of_decide_eq_true (show decide (pos (kyT P) k < (kyT P).length ∧ (kyT P).getD (pos (kyT P) k) default = k) = true from his)
      have hN : nsT P' = (nsT P).set (pos (kyT P) k) n := by
        unfold nsT
        rw [hK]
        refine List.ext_getElem (by simp) fun i h1 h2 => ?_
        rw [List.getElem_set]
        simp only [List.getElem_map]
        rw [List.length_map] at h1
        have hp2 := hpos.2
        rw [List.getD_eq_getElem?_getD, List.getElem?_eq_getElem hpos.1] at hp2
        simp only [Option.getD_some] at hp2
        by_cases hi : pos (kyT P) k = i
        · subst hi
          rw [if_pos rfl, hp2, b2]; rfl
        · rw [if_neg hi, b3]
          intro hq
          have hlt := kyT_asc T.ring
          rcases Nat.lt_or_gt_of_ne hi with h | h
          · have := List.pairwise_iff_getElem.1 hlt _ _ hpos.1 h1 h
            rw [hq, hp2, ordrT.irr] at this; cases this
          · have := List.pairwise_iff_getElem.1 hlt _ _ h1 hpos.1 h
            rw [hq, hp2, ordrT.irr] at this; cases this
      rw [hK, hN]
      exact rput_is hk hle (nsT_len P) his
    | none =>
      rw [hv] at c his
      have hnk : k ∉ kyT P := fun h => by rw [hmem, hv] at h; cases h
      by_cases hm : ks = m
      · rw [if_neg (by simp [hm])] at c
        subst c
        obtain ⟨rfl, rfl, -, -⟩ := a2 (by decide)
        exact rput_full hk hle (by rw [kyT_len]; have := T.cnt; omega) his
      · rw [if_pos (.inr hm)] at c
        subst c
        obtain ⟨-, b2, b3, -⟩ := a1 rfl
        have hK : kyT P' = (kyT P).take (pos (kyT P) k) ++ k :: (kyT P).drop (pos (kyT P) k) := kyT_ext T'.ring (asc_ins (kyT_asc T.ring) hnk) fun q => by
          have e : q ∈ (kyT P).take (pos (kyT P) k) ++ k :: (kyT P).drop (pos (kyT P) k) ↔ q = k ∨ q ∈ kyT P := by
            conv => rhs; rw [← List.take_append_drop (pos (kyT P) k) (kyT P)]
            simp only [List.mem_append, List.mem_cons]
            constructor
            · rintro (h | h | h)
              · exact .inr (.inl h)
              · exact .inl h
              · exact .inr (.inr h)
            · rintro (h | h | h)
              · exact .inr (.inl h)
              · exact .inl h
              · exact .inr (.inr h)
          rw [e]
          by_cases hq : q = k
          · subst hq; rw [b2]; simp
          · rw [b3 q hq, hmem]; simp [hq]
        have hf : ∀ L : List Ky, (∀ q ∈ L, q ∈ kyT P) → (L.map fun q => (val P' q).getD 0) = L.map fun q => (val P q).getD 0 := fun L hL => List.map_congr_left fun q hq => by
          rw [b3 q (fun e => hnk (e ▸ hL q hq))]
        have hN : nsT P' = (nsT P).take (pos (kyT P) k) ++ n :: (nsT P).drop (pos (kyT P) k) := by
          unfold nsT
          rw [hK, List.map_append, List.map_cons, hf _ (fun q hq => List.mem_of_mem_take hq), hf _ (fun q hq => List.mem_of_mem_drop hq), b2, List.map_take, List.map_drop]
          rfl
        rw [hK, hN]
        have hlm : ((kyT P).length : Int) < m := by rw [kyT_len]; have := T.cnt; have := T.le; omega
        exact rput_new hk hle (nsT_len P) hlm his
theorem dropR {m : Nat} {ks : Int} {P : List Pl} (T : TB m ks P) (k : Ky) : ∃ (b : Bool) (ks' : Int) (P' : List Pl), runP tab 1039 [.ref 0 0, .agg (kyC k)] [tbB m ks P] = some (.bool b, [tbB m ks' P']) ∧
    runP tab 1040 [.ref 0 0, .agg (kyC k)] [rtB m (kyT P) (nsT P)] = some (.bool b, [rtB m (kyT P') (nsT P')]) ∧ TB m ks' P' := by
  obtain ⟨ks', P', g, T', d1, d2, d3⟩ := dropV T k
  refine ⟨_, ks', P', g, ?_, T'⟩
  have his := kyT_is T k
  have hle := kyT_le T
  have hmem := kyT_mem T.ring
  cases hv : val P k with
  | none =>
    rw [hv] at his d3
    have hs : ∀ q, val P' q = val P q := fun q => by
      by_cases hq : q = k
      · subst hq; rw [d1, hv]
      · exact d2 q hq
    have hK : kyT P' = kyT P := kyT_ext T'.ring (kyT_asc T.ring) fun q => by rw [hmem, hs]
    have hN : nsT P' = nsT P := by
      unfold nsT; rw [hK]; exact List.map_congr_left fun q _ => by rw [hs]
    rw [hK, hN]
    exact rdrop_no hle his
  | some v =>
    rw [hv] at his
    have hpos := of_decide_eq_true (show decide (pos (kyT P) k < (kyT P).length ∧ (kyT P).getD (pos (kyT P) k) default = k) = true from his)
    have hsp : kyT P = (kyT P).take (pos (kyT P) k) ++ k :: (kyT P).drop (pos (kyT P) k + 1) := by
      conv => lhs; rw [← List.take_append_drop (pos (kyT P) k) (kyT P), List.drop_eq_getElem_cons hpos.1]
      have h2 := hpos.2
      rw [List.getD_eq_getElem?_getD, List.getElem?_eq_getElem hpos.1] at h2
      simp only [Option.getD_some] at h2
      rw [h2]
    have ha := kyT_asc T.ring
    rw [hsp] at ha
    obtain ⟨x1, x2, x3⟩ := asc_app.1 ha
    obtain ⟨y1, y2⟩ := List.pairwise_cons.1 x2
    have hasc : asc ltT ((kyT P).take (pos (kyT P) k) ++ (kyT P).drop (pos (kyT P) k + 1)) := asc_app.2 ⟨x1, y2, fun x hx y hy => x3 x hx y (List.mem_cons_of_mem _ hy)⟩
    have hno : k ∉ (kyT P).take (pos (kyT P) k) ++ (kyT P).drop (pos (kyT P) k + 1) := fun h => by
      rcases List.mem_append.1 h with h | h
      · have := x3 k h k (by simp)
        rw [ordrT.irr] at this; cases this
      · have := y1 k h
        rw [ordrT.irr] at this; cases this
    have hmem2 : ∀ q, q ∈ kyT P ↔ q = k ∨ q ∈ (kyT P).take (pos (kyT P) k) ++ (kyT P).drop (pos (kyT P) k + 1) := fun q => by
      conv => lhs; rw [hsp]
      simp only [List.mem_append, List.mem_cons]
      constructor
      · rintro (h | h | h)
        · exact .inr (.inl h)
        · exact .inl h
        · exact .inr (.inr h)
      · rintro (h | h | h)
        · exact .inr (.inl h)
        · exact .inl h
        · exact .inr (.inr h)
    have hK : kyT P' = (kyT P).take (pos (kyT P) k) ++ (kyT P).drop (pos (kyT P) k + 1) := kyT_ext T'.ring hasc fun q => by
      by_cases hq : q = k
      · subst hq; rw [d1]; simp [hno]
      · rw [d2 q hq, ← hmem, hmem2]; simp [hq]
    have hN : nsT P' = (nsT P).take (pos (kyT P) k) ++ (nsT P).drop (pos (kyT P) k + 1) := by
      unfold nsT
      rw [hK, ← List.map_take, ← List.map_drop, ← List.map_append]
      refine List.map_congr_left fun q hq => ?_
      rw [d2 q (fun e => hno (e ▸ hq))]
    rw [hK, hN]
    exact rdrop_is hle (nsT_len P) his
def StepR (m : Nat) (o : Opr) (s s' : Int × List Pl) : Prop :=
  (o.kind = 1 → ∃ e : Int, runP tab 1035 [.ref 0 0, .agg (kyC o.k), .int .i64 o.n] [tbB m s.1 s.2] = some (.int .i64 e, [tbB m s'.1 s'.2]) ∧ runP tab 1036 [.ref 0 0, .agg (kyC o.k), .int .i64 o.n] [rtB m (kyT s.2) (nsT s.2)] = some (.int .i64 e, [rtB m (kyT s'.2) (nsT s'.2)])) ∧
  (o.kind = 3 → ∃ b : Bool, runP tab 1039 [.ref 0 0, .agg (kyC o.k)] [tbB m s.1 s.2] = some (.bool b, [tbB m s'.1 s'.2]) ∧ runP tab 1040 [.ref 0 0, .agg (kyC o.k)] [rtB m (kyT s.2) (nsT s.2)] = some (.bool b, [rtB m (kyT s'.2) (nsT s'.2)])) ∧
  (o.kind ≠ 1 → o.kind ≠ 3 → s' = s)
theorem script2_ex {m : Nat} (h1 : 1 ≤ m) (h2 : m ≤ 400) (l : List Opr) : ∃ (f : Nat → Int × List Pl), f 0 = (0, List.replicate (2 * m) default) ∧ (∀ i, i ≤ l.length → TB m (f i).1 (f i).2) ∧ ∀ i, i < l.length → StepR m (l.getD i default) (f i) (f (i + 1)) :=
  seq_st (I := fun s : Int × List Pl => TB m s.1 s.2) (R := fun i s s' => StepR m (l.getD i default) s s') (TB.new h1 h2) (fun i s hi hI => by
    by_cases k1 : (l.getD i default).kind = 1
    · obtain ⟨e, ks', P', g1, g2, T⟩ := putR hI (l.getD i default).k (l.getD i default).n
      exact ⟨(ks', P'), ⟨fun _ => ⟨e, g1, g2⟩, fun h => by omega, fun h => absurd k1 h⟩, T⟩
    · by_cases k3 : (l.getD i default).kind = 3
      · obtain ⟨b, ks', P', g1, g2, T⟩ := dropR hI (l.getD i default).k
        exact ⟨(ks', P'), ⟨fun h => absurd h k1, fun _ => ⟨b, g1, g2⟩, fun _ h => absurd k3 h⟩, T⟩
      · exact ⟨s, ⟨fun h => absurd h k1, fun h => absurd h k3, fun _ _ => rfl⟩, hI⟩)
def trS (l : List Opr) (m : Nat) (f : Nat → Int × List Pl) (i : Nat) : St := ⟨[(1, .sl 5 (ops l)), (5, .ref 0 0), (7, .ref 1 0), (8, .int .i64 (i : Int))], [tbB m (f i).1 (f i).2, rtB m (kyT (f i).2) (nsT (f i).2)], 0, [(0, 2, [1, 5, 7, 8], [(5, 0), (7, 1)])]⟩
theorem kyT_new (n : Nat) : kyT (List.replicate n default) = [] := by
  have h : (kyT (List.replicate n (default : Pl))).length = 0 := by
    rw [kyT_len]
    exact List.countP_eq_zero.2 fun x hx => by rw [List.mem_replicate] at hx; rw [hx.2]; decide
  exact List.length_eq_zero_iff.1 h
theorem nsT_new (n : Nat) : nsT (List.replicate n default) = [] := by unfold nsT; rw [kyT_new]; rfl
theorem truns_law {mo : Int} {l : List Opr} (hl : l.length ≤ 9223372036854775807) : runP tab 1028 [.int .i64 mo, .sl 5 (ops l)] [] = some (.bool true, []) := by
  refine runP_fn t1028 rfl ?_
  have gt := tables_run
  have L := ops_len l
  by_cases hm1 : mo < 1
  · have gn := new_no (.inl hm1)
    simp (config := { maxSteps := 1000000 }) (disch := omega) only [go_sem, ↓reduceIte, Nat.reduceEqDiff, Nat.reduceAdd, Int.reduceToNat, reduceCtorEq, Nat.reduceLeDiff, Nat.reduceSub, Nat.reduceDiv, Nat.reduceMod, Nat.reduceMul, d1028, gn, gt]
  by_cases hm2 : 400 < mo
  · have gn := new_no (.inr hm2)
    simp (config := { maxSteps := 1000000 }) (disch := omega) only [go_sem, ↓reduceIte, Nat.reduceEqDiff, Nat.reduceAdd, Int.reduceToNat, reduceCtorEq, Nat.reduceLeDiff, Nat.reduceSub, Nat.reduceDiv, Nat.reduceMod, Nat.reduceMul, d1028, gn, gt]
  obtain ⟨m, rfl⟩ : ∃ m : Nat, mo = m := ⟨mo.toNat, by omega⟩
  have gn := new_run (m := m) (by omega) (by omega)
  by_cases hlen : l.length ≤ 200
  case neg => simp (config := { maxSteps := 1000000 }) (disch := omega) only [go_sem, ↓reduceIte, Nat.reduceEqDiff, Nat.reduceAdd, Int.reduceToNat, reduceCtorEq, Nat.reduceLeDiff, Nat.reduceSub, Nat.reduceDiv, Nat.reduceMod, Nat.reduceMul, d1028, gn, gt, L]
  obtain ⟨f, f0, fT, fR⟩ := script2_ex (m := m) (by omega) (by omega) l
  simp (config := { maxSteps := 1000000 }) (disch := omega) only [go_sem, ↓reduceIte, Nat.reduceEqDiff, Nat.reduceAdd, Int.reduceToNat, reduceCtorEq, Nat.reduceLeDiff, Nat.reduceSub, Nat.reduceDiv, Nat.reduceMod, Nat.reduceMul, d1028, gn, gt, L]
  refine Ev_loop0 (fun i => trS l m f i) l.length (by simp [trS, f0, tbB, rtB, kyT_new, nsT_new, kys, ints]) (fun i hi => ?_) ?_
  · have e := ops_rdc hi
    obtain ⟨r1, r3, r0⟩ := fR i hi
    have T := fT i (by omega)
    have T' := fT (i + 1) (by omega)
    have g2 := getV T (l.getD i default).k
    have g3 := rget_run T (l.getD i default).k
    have g4 := tlen_run (m := (m : Int)) (ks := (f (i + 1)).1) (P := (f (i + 1)).2)
    have hc := T'.cnt
    have hKl := kyT_len (f (i + 1)).2
    have LK := kys_len (kyT (f (i + 1)).2)
    have hle := kyT_le T'
    clear fR fT
    unfold trS
    generalize f i = s at *
    generalize f (i + 1) = s' at *
    generalize l.getD i default = op at *
    by_cases k1 : op.kind = 1
    · obtain ⟨er, a1, a2⟩ := r1 k1
      generalize kyT s'.2 = K' at *
      generalize nsT s'.2 = N' at *
      generalize kyT s.2 = K at *
      generalize nsT s.2 = N at *
      have hlen2 : (K'.length : Int) = s'.1 := by rw [hKl]; exact hc.symm
      simp only [opC, tbB, rtB, tbI, rtI, kyC] at e a1 a2 g4 ⊢
      simp (config := { maxSteps := 1000000 }) (disch := omega) only [go_sem, ↓reduceIte, Nat.reduceEqDiff, Nat.reduceAdd, Int.reduceToNat, reduceCtorEq, Nat.reduceLeDiff, Nat.reduceSub, Nat.reduceDiv, Nat.reduceMod, Nat.reduceMul, d1028_b0, L, e, k1, a1, a2, g4, LK, hlen2]
      rfl
    · by_cases k3 : op.kind = 3
      · obtain ⟨b, a1, a2⟩ := r3 k3
        generalize kyT s'.2 = K' at *
        generalize nsT s'.2 = N' at *
        generalize kyT s.2 = K at *
        generalize nsT s.2 = N at *
        have hlen2 : (K'.length : Int) = s'.1 := by rw [hKl]; exact hc.symm
        simp only [opC, tbB, rtB, tbI, rtI, kyC] at e a1 a2 g4 ⊢
        cases b <;> simp (config := { maxSteps := 1000000 }) (disch := omega) only [go_sem, ↓reduceIte, Nat.reduceEqDiff, Nat.reduceAdd, Int.reduceToNat, reduceCtorEq, Nat.reduceLeDiff, Nat.reduceSub, Nat.reduceDiv, Nat.reduceMod, Nat.reduceMul, d1028_b0, L, e, k1, k3, a1, a2, g4, LK, hlen2] <;> rfl
      · have hs := r0 k1 k3
        subst hs
        have hlen2 : ((kyT s'.2).length : Int) = s'.1 := by rw [hKl]; exact hc.symm
        generalize kyT s'.2 = K at *
        generalize nsT s'.2 = N at *
        generalize val s'.2 op.k = vo at *
        simp only [opC, tbB, rtB, tbI, rtI, kyC] at e g2 g3 g4 ⊢
        by_cases k2 : op.kind = 2
        · cases vo <;>
          · simp only [getA] at g2 g3
            simp (config := { maxSteps := 1000000 }) (disch := omega) only [go_sem, ↓reduceIte, Nat.reduceEqDiff, Nat.reduceAdd, Int.reduceToNat, reduceCtorEq, Nat.reduceLeDiff, Nat.reduceSub, Nat.reduceDiv, Nat.reduceMod, Nat.reduceMul, d1028_b0, L, e, k2, g2, g3, g4, LK, hlen2]
        · simp (config := { maxSteps := 1000000 }) (disch := omega) only [go_sem, ↓reduceIte, Nat.reduceEqDiff, Nat.reduceAdd, Int.reduceToNat, reduceCtorEq, Nat.reduceLeDiff, Nat.reduceSub, Nat.reduceDiv, Nat.reduceMod, Nat.reduceMul, d1028_b0, L, e, k1, k2, k3, g4, LK, hlen2]
  · have T := fT l.length (Nat.le_refl _)
    unfold trS
    clear fR fT f0
    generalize f l.length = s at *
    have hP : s.2.length ≤ 1000 := by have := T.len; have := T.m4; omega
    have b1 := keysT_run (m := (m : Int)) (ks := s.1) (P := s.2) hP
    have hle := kyT_le T
    have k3 := same_run (a := kyT s.2) (b := kyT s.2) (by omega) (by omega)
    rw [decide_eq_true rfl] at k3
    generalize kyT s.2 = K at *
    generalize nsT s.2 = N at *
    have LK := kys_len K
    simp only [tbB, rtB, tbI, rtI] at b1 ⊢
    simp (config := { maxSteps := 1000000 }) (disch := omega) only [go_sem, ↓reduceIte, Nat.reduceEqDiff, Nat.reduceAdd, Int.reduceToNat, reduceCtorEq, Nat.reduceLeDiff, Nat.reduceSub, Nat.reduceDiv, Nat.reduceMod, Nat.reduceMul, d1028_b0, L, gt, b1, k3, LK]
end Go.Proofs.Ythpgaecloecflaa
