/- frame.request throws where there is no request. -/
import Derived.Test.YtcfhocnbpplecaaXs
namespace Go.Proofs.Ytcfhocnbpplecaa
set_option linter.unusedSimpArgs false
set_option linter.unusedVariables false
set_option maxHeartbeats 4000000
set_option maxRecDepth 100000
theorem txts_bind {α : Type} {k : List Txt → Rd α} {s : Txt} : ∀ {n : Nat} {acc : List Txt} {j : Nat}, (tTxts n acc k).run s j = match (tTxts n acc Rd.ret).run s j with
    | some (l, e) => (k l).run s e
    | none => none
  | 0, acc, j => rfl
  | n + 1, acc, j => by
    simp only [tTxts, Rd.run]
    cases rdT s j with
    | none => rfl
    | some p => exact txts_bind
section
variable {P : Program}
theorem rw_dies (G : Good P fid tab) (N : NeedIs P) {s : Txt} (hs : s.length ≤ 1000000) {a f : Int} {n : Nat} {acc : List Txt} (hn : n ≤ 8) (ha : acc.length ≤ 8) {j i : Nat} (hi : i < n) (hj : j ≤ s.length) (h : rdT s j = none) : DiesS P fid d1643_b0 (rwS s a f n acc j i) := by
  have g := stext_dies G N hs hj h
  unfold d1643_b0 rwS
  refine D_after (D_seq2 G ?_)
  simp (config := { maxSteps := 1000000 }) (disch := omega) only [go_sem, ↓reduceIte, Nat.reduceEqDiff, Nat.reduceAdd, Int.reduceToNat, reduceCtorEq, Nat.reduceLeDiff, Nat.reduceSub, Nat.reduceDiv, Nat.reduceMod, Nat.reduceMul]
  refine D_seq2 G ?_
  simp (config := { maxSteps := 1000000 }) (disch := omega) only [go_sem, ↓reduceIte, Nat.reduceEqDiff, Nat.reduceAdd, Int.reduceToNat, reduceCtorEq, Nat.reduceLeDiff, Nat.reduceSub, Nat.reduceDiv, Nat.reduceMod, Nat.reduceMul]
  refine D_seq1 (D_block ?_)
  cases acc with
  | nil =>
    refine D_ghost (st1 := ⟨_, _, _, _⟩) rfl ?_
    refine D_opsC G 4 (.str []) rfl ?_
    simp only [wC]
    simp (config := { maxSteps := 1000000 }) (disch := omega) only [go_sem, ↓reduceIte, Nat.reduceEqDiff, Nat.reduceAdd, Int.reduceToNat, reduceCtorEq, Nat.reduceLeDiff, Nat.reduceSub, Nat.reduceDiv, Nat.reduceMod, Nat.reduceMul, List.take_succ_cons, List.take_zero, List.drop_succ_cons, List.drop_zero]
    refine ⟨⟨1650, _, _, _, rfl, rfl, rfl, rfl, g⟩, DrF_run G 5 ?_⟩
    simp (config := { maxSteps := 1000000 }) (disch := omega) only [go_sem, ↓reduceIte, Nat.reduceEqDiff, Nat.reduceAdd, Int.reduceToNat, reduceCtorEq, Nat.reduceLeDiff, Nat.reduceSub, Nat.reduceDiv, Nat.reduceMod, Nat.reduceMul, St.put, List.take_succ_cons, List.take_zero, List.drop_succ_cons, List.drop_zero]
    exact DrF_end rfl
  | cons z t =>
    refine D_ghost (st1 := ⟨_, _, _, _⟩) rfl ?_
    refine D_opsC G 4 (.str []) rfl ?_
    simp only [wC]
    generalize z :: t = acc at *
    simp (config := { maxSteps := 1000000 }) (disch := omega) only [go_sem, ↓reduceIte, Nat.reduceEqDiff, Nat.reduceAdd, Int.reduceToNat, reduceCtorEq, Nat.reduceLeDiff, Nat.reduceSub, Nat.reduceDiv, Nat.reduceMod, Nat.reduceMul, List.take_succ_cons, List.take_zero, List.drop_succ_cons, List.drop_zero]
    refine ⟨⟨1650, _, _, _, rfl, rfl, rfl, rfl, g⟩, DrF_run G 5 ?_⟩
    simp (config := { maxSteps := 1000000 }) (disch := omega) only [go_sem, ↓reduceIte, Nat.reduceEqDiff, Nat.reduceAdd, Int.reduceToNat, reduceCtorEq, Nat.reduceLeDiff, Nat.reduceSub, Nat.reduceDiv, Nat.reduceMod, Nat.reduceMul, St.put, List.take_succ_cons, List.take_zero, List.drop_succ_cons, List.drop_zero]
    exact DrF_end rfl
theorem request_dies (G : Good P fid tab) (N : NeedIs P) {s : Txt} (hs : s.length ≤ 1000000) (h : tReq.run s 0 = none) : DiesC P fid 1643 [.ref 0 0] [.row false [.str s, .int .i64 0]] := by
  refine D_fn G t1643 ?_
  simp only [d1643, bindParams]
  refine D_seq2 G ?_
  simp (config := { maxSteps := 1000000 }) (disch := omega) only [go_sem, ↓reduceIte, Nat.reduceEqDiff, Nat.reduceAdd, Int.reduceToNat, reduceCtorEq, Nat.reduceLeDiff, Nat.reduceSub, Nat.reduceDiv, Nat.reduceMod, Nat.reduceMul]
  unfold tReq at h
  simp only [Rd.run] at h
  cases h1 : rdL 2147483647 s 0 with
  | none =>
    have g : DiesC P fid 1445 [.ref 0 0, .int .i64 2147483647] [.row false [.str s, .int .i64 0]] := nL_dies G N hs (Nat.zero_le _) h1
    refine D_seq1 (D_ops (DO_take G 1 ?_))
    simp (config := { maxSteps := 1000000 }) (disch := omega) only [go_sem, ↓reduceIte, Nat.reduceEqDiff, Nat.reduceAdd, Int.reduceToNat, reduceCtorEq, Nat.reduceLeDiff, Nat.reduceSub, Nat.reduceDiv, Nat.reduceMod, Nat.reduceMul, List.take_succ_cons, List.take_zero, List.drop_succ_cons, List.drop_zero]
    exact DO_call rfl rfl rfl g trivial
  | some p1 =>
  obtain ⟨id, e1⟩ := p1
  rw [h1] at h
  simp only at h
  have g1 := nL_run hs h1
  have b1 := rdL_le h1
  rw [show ((0 : Nat) : Int) = 0 from rfl] at g1
  simp only [Int.cast_ofNat_Int] at g1
  cases h2 : rdL 4 s e1 with
  | none =>
    have g : DiesC P fid 1445 [.ref 0 0, .int .i64 4] [.row false [.str s, .int .i64 (e1 : Int)]] := nL_dies G N hs b1.2 h2
    refine D_seq1 (D_ops (DO_take G 3 ?_))
    simp (config := { maxSteps := 1000000 }) (disch := omega) only [go_sem, ↓reduceIte, Nat.reduceEqDiff, Nat.reduceAdd, Int.reduceToNat, reduceCtorEq, Nat.reduceLeDiff, Nat.reduceSub, Nat.reduceDiv, Nat.reduceMod, Nat.reduceMul, g1, List.take_succ_cons, List.take_zero, List.drop_succ_cons, List.drop_zero]
    exact DO_call rfl rfl rfl g trivial
  | some p2 =>
  obtain ⟨kind, e2⟩ := p2
  rw [h2] at h
  simp only at h
  have g2 := nL_run hs h2
  have b2 := rdL_le h2
  simp only [Int.cast_ofNat_Int] at g2
  refine D_seq2 G ?_
  simp (config := { maxSteps := 1000000 }) (disch := omega) only [go_sem, ↓reduceIte, Nat.reduceEqDiff, Nat.reduceAdd, Int.reduceToNat, reduceCtorEq, Nat.reduceLeDiff, Nat.reduceSub, Nat.reduceDiv, Nat.reduceMod, Nat.reduceMul, g1, g2]
  refine D_ghost (st1 := ⟨_, _, _, _⟩) rfl (D_seq1 (D_seq2 G ?_))
  simp (config := { maxSteps := 1000000 }) (disch := omega) only [go_sem, ↓reduceIte, Nat.reduceEqDiff, Nat.reduceAdd, Int.reduceToNat, reduceCtorEq, Nat.reduceLeDiff, Nat.reduceSub, Nat.reduceDiv, Nat.reduceMod, Nat.reduceMul]
  by_cases hk : kind = 1 ∨ kind = 2
  · rw [if_pos hk] at h
    simp only [Rd.run] at h
    have dead : (rdL 200 s e2 = none ∨ ∃ f e3, rdL 200 s e2 = some (f, e3) ∧ rdL 200 s e3 = none) := by
      cases h3 : rdL 200 s e2 with
      | none => exact .inl rfl
      | some p3 =>
        obtain ⟨f, e3⟩ := p3
        rw [h3] at h
        simp only at h
        cases h4 : rdL 200 s e3 with
        | none => exact .inr ⟨f, e3, rfl, h4⟩
        | some p4 => rw [h4] at h; cases h
    have c0 : (rdL 200 s e2 = none → DiesC P fid 1445 [.ref 0 0, .int .i64 200] [.row false [.str s, .int .i64 (e2 : Int)]]) := fun h => nL_dies G N hs b2.2 h
    refine D_block (D_seq2 G ?_)
    rcases hk with rfl | rfl
    · simp (config := { maxSteps := 1000000 }) (disch := omega) only [go_sem, ↓reduceIte, Nat.reduceEqDiff, Nat.reduceAdd, Int.reduceToNat, reduceCtorEq, Nat.reduceLeDiff, Nat.reduceSub, Nat.reduceDiv, Nat.reduceMod, Nat.reduceMul]
      refine D_cond (b := true) rfl ?_
      rw [if_pos rfl]
      refine D_ghost (st1 := ⟨_, _, _, _⟩) rfl ?_
      rcases dead with h3 | ⟨f, e3, h3, h4⟩
      · have g := c0 h3
        refine D_opsC G 3 (.int .i64 0) rfl ?_
        simp (config := { maxSteps := 1000000 }) (disch := omega) only [go_sem, ↓reduceIte, Nat.reduceEqDiff, Nat.reduceAdd, Int.reduceToNat, reduceCtorEq, Nat.reduceLeDiff, Nat.reduceSub, Nat.reduceDiv, Nat.reduceMod, Nat.reduceMul, List.take_succ_cons, List.take_zero, List.drop_succ_cons, List.drop_zero]
        refine ⟨⟨1445, _, _, _, rfl, rfl, rfl, rfl, g⟩, DrF_run G 1 ?_⟩
        simp (config := { maxSteps := 1000000 }) (disch := omega) only [go_sem, ↓reduceIte, Nat.reduceEqDiff, Nat.reduceAdd, Int.reduceToNat, reduceCtorEq, Nat.reduceLeDiff, Nat.reduceSub, Nat.reduceDiv, Nat.reduceMod, Nat.reduceMul, St.put, List.take_succ_cons, List.take_zero, List.drop_succ_cons, List.drop_zero]
        refine DrF_die (.int .i64 0) ⟨1445, _, _, _, rfl, rfl, rfl, rfl, g⟩ (DrF_run G 3 ?_)
        simp (config := { maxSteps := 1000000 }) (disch := omega) only [go_sem, ↓reduceIte, Nat.reduceEqDiff, Nat.reduceAdd, Int.reduceToNat, reduceCtorEq, Nat.reduceLeDiff, Nat.reduceSub, Nat.reduceDiv, Nat.reduceMod, Nat.reduceMul, St.put, List.take_succ_cons, List.take_zero, List.drop_succ_cons, List.drop_zero]
        exact DrF_end rfl
      · have g3 := nL_run hs h3
        have g : DiesC P fid 1445 [.ref 0 0, .int .i64 200] [.row false [.str s, .int .i64 (e3 : Int)]] := nL_dies G N hs (rdL_le h3).2 h4
        simp only [Int.cast_ofNat_Int] at g3
        refine D_opsC G 5 (.int .i64 0) rfl ?_
        simp (config := { maxSteps := 1000000 }) (disch := omega) only [go_sem, ↓reduceIte, Nat.reduceEqDiff, Nat.reduceAdd, Int.reduceToNat, reduceCtorEq, Nat.reduceLeDiff, Nat.reduceSub, Nat.reduceDiv, Nat.reduceMod, Nat.reduceMul, g3, List.take_succ_cons, List.take_zero, List.drop_succ_cons, List.drop_zero]
        refine ⟨⟨1445, _, _, _, rfl, rfl, rfl, rfl, g⟩, DrF_run G 3 ?_⟩
        simp (config := { maxSteps := 1000000 }) (disch := omega) only [go_sem, ↓reduceIte, Nat.reduceEqDiff, Nat.reduceAdd, Int.reduceToNat, reduceCtorEq, Nat.reduceLeDiff, Nat.reduceSub, Nat.reduceDiv, Nat.reduceMod, Nat.reduceMul, St.put, List.take_succ_cons, List.take_zero, List.drop_succ_cons, List.drop_zero]
        exact DrF_end rfl
    · simp (config := { maxSteps := 1000000 }) (disch := omega) only [go_sem, ↓reduceIte, Nat.reduceEqDiff, Nat.reduceAdd, Int.reduceToNat, reduceCtorEq, Nat.reduceLeDiff, Nat.reduceSub, Nat.reduceDiv, Nat.reduceMod, Nat.reduceMul]
      refine D_cond (b := true) rfl ?_
      rw [if_pos rfl]
      refine D_ghost (st1 := ⟨_, _, _, _⟩) rfl ?_
      rcases dead with h3 | ⟨f, e3, h3, h4⟩
      · have g := c0 h3
        refine D_opsC G 3 (.int .i64 0) rfl ?_
        simp (config := { maxSteps := 1000000 }) (disch := omega) only [go_sem, ↓reduceIte, Nat.reduceEqDiff, Nat.reduceAdd, Int.reduceToNat, reduceCtorEq, Nat.reduceLeDiff, Nat.reduceSub, Nat.reduceDiv, Nat.reduceMod, Nat.reduceMul, List.take_succ_cons, List.take_zero, List.drop_succ_cons, List.drop_zero]
        refine ⟨⟨1445, _, _, _, rfl, rfl, rfl, rfl, g⟩, DrF_run G 1 ?_⟩
        simp (config := { maxSteps := 1000000 }) (disch := omega) only [go_sem, ↓reduceIte, Nat.reduceEqDiff, Nat.reduceAdd, Int.reduceToNat, reduceCtorEq, Nat.reduceLeDiff, Nat.reduceSub, Nat.reduceDiv, Nat.reduceMod, Nat.reduceMul, St.put, List.take_succ_cons, List.take_zero, List.drop_succ_cons, List.drop_zero]
        refine DrF_die (.int .i64 0) ⟨1445, _, _, _, rfl, rfl, rfl, rfl, g⟩ (DrF_run G 3 ?_)
        simp (config := { maxSteps := 1000000 }) (disch := omega) only [go_sem, ↓reduceIte, Nat.reduceEqDiff, Nat.reduceAdd, Int.reduceToNat, reduceCtorEq, Nat.reduceLeDiff, Nat.reduceSub, Nat.reduceDiv, Nat.reduceMod, Nat.reduceMul, St.put, List.take_succ_cons, List.take_zero, List.drop_succ_cons, List.drop_zero]
        exact DrF_end rfl
      · have g3 := nL_run hs h3
        have g : DiesC P fid 1445 [.ref 0 0, .int .i64 200] [.row false [.str s, .int .i64 (e3 : Int)]] := nL_dies G N hs (rdL_le h3).2 h4
        simp only [Int.cast_ofNat_Int] at g3
        refine D_opsC G 5 (.int .i64 0) rfl ?_
        simp (config := { maxSteps := 1000000 }) (disch := omega) only [go_sem, ↓reduceIte, Nat.reduceEqDiff, Nat.reduceAdd, Int.reduceToNat, reduceCtorEq, Nat.reduceLeDiff, Nat.reduceSub, Nat.reduceDiv, Nat.reduceMod, Nat.reduceMul, g3, List.take_succ_cons, List.take_zero, List.drop_succ_cons, List.drop_zero]
        refine ⟨⟨1445, _, _, _, rfl, rfl, rfl, rfl, g⟩, DrF_run G 3 ?_⟩
        simp (config := { maxSteps := 1000000 }) (disch := omega) only [go_sem, ↓reduceIte, Nat.reduceEqDiff, Nat.reduceAdd, Int.reduceToNat, reduceCtorEq, Nat.reduceLeDiff, Nat.reduceSub, Nat.reduceDiv, Nat.reduceMod, Nat.reduceMul, St.put, List.take_succ_cons, List.take_zero, List.drop_succ_cons, List.drop_zero]
        exact DrF_end rfl
  rw [if_neg hk] at h
  by_cases hk3 : kind = 3
  · rw [if_pos hk3] at h
    subst hk3
    simp only [Rd.run] at h
    refine D_block (D_seq2 G ?_)
    simp (config := { maxSteps := 1000000 }) (disch := omega) only [go_sem, ↓reduceIte, Nat.reduceEqDiff, Nat.reduceAdd, Int.reduceToNat, reduceCtorEq, Nat.reduceLeDiff, Nat.reduceSub, Nat.reduceDiv, Nat.reduceMod, Nat.reduceMul]
    refine D_cond (b := false) rfl ?_
    rw [if_neg (by simp)]
    refine D_seq2 G ?_
    simp (config := { maxSteps := 1000000 }) (disch := omega) only [go_sem, ↓reduceIte, Nat.reduceEqDiff, Nat.reduceAdd, Int.reduceToNat, reduceCtorEq, Nat.reduceLeDiff, Nat.reduceSub, Nat.reduceDiv, Nat.reduceMod, Nat.reduceMul]
    refine D_cond (b := true) rfl ?_
    rw [if_pos rfl]
    cases h3 : rdL 200 s e2 with
    | none =>
      have g : DiesC P fid 1445 [.ref 0 0, .int .i64 200] [.row false [.str s, .int .i64 (e2 : Int)]] := nL_dies G N hs b2.2 h3
      refine D_seq1 (D_ghost (st1 := ⟨_, _, _, _⟩) rfl (D_opsC G 3 (.int .i64 0) rfl ?_))
      simp (config := { maxSteps := 1000000 }) (disch := omega) only [go_sem, ↓reduceIte, Nat.reduceEqDiff, Nat.reduceAdd, Int.reduceToNat, reduceCtorEq, Nat.reduceLeDiff, Nat.reduceSub, Nat.reduceDiv, Nat.reduceMod, Nat.reduceMul, List.take_succ_cons, List.take_zero, List.drop_succ_cons, List.drop_zero]
      refine ⟨⟨1445, _, _, _, rfl, rfl, rfl, rfl, g⟩, DrF_run G 3 ?_⟩
      simp (config := { maxSteps := 1000000 }) (disch := omega) only [go_sem, ↓reduceIte, Nat.reduceEqDiff, Nat.reduceAdd, Int.reduceToNat, reduceCtorEq, Nat.reduceLeDiff, Nat.reduceSub, Nat.reduceDiv, Nat.reduceMod, Nat.reduceMul, St.put, List.take_succ_cons, List.take_zero, List.drop_succ_cons, List.drop_zero]
      exact DrF_end rfl
    | some p3 =>
    obtain ⟨f, e3⟩ := p3
    rw [h3] at h
    simp only at h
    have g3 := nL_run hs h3
    have b3 := rdL_le h3
    simp only [Int.cast_ofNat_Int] at g3
    refine D_seq2 G ?_
    simp (config := { maxSteps := 1000000 }) (disch := omega) only [go_sem, ↓reduceIte, Nat.reduceEqDiff, Nat.reduceAdd, Int.reduceToNat, reduceCtorEq, Nat.reduceLeDiff, Nat.reduceSub, Nat.reduceDiv, Nat.reduceMod, Nat.reduceMul, g3]
    refine ⟨rfl, D_ghost (st1 := ⟨_, _, _, _⟩) rfl ?_⟩
    cases h4 : rdL 8 s e3 with
    | none =>
      have g : DiesC P fid 1445 [.ref 0 0, .int .i64 8] [.row false [.str s, .int .i64 (e3 : Int)]] := nL_dies G N hs b3.2 h4
      refine D_seq1 (D_seq1 (D_ops (DO_take G 1 ?_)))
      simp (config := { maxSteps := 1000000 }) (disch := omega) only [go_sem, ↓reduceIte, Nat.reduceEqDiff, Nat.reduceAdd, Int.reduceToNat, reduceCtorEq, Nat.reduceLeDiff, Nat.reduceSub, Nat.reduceDiv, Nat.reduceMod, Nat.reduceMul, List.take_succ_cons, List.take_zero, List.drop_succ_cons, List.drop_zero]
      exact DO_call rfl rfl rfl g trivial
    | some p4 =>
    obtain ⟨n, e4⟩ := p4
    rw [h4] at h
    simp only at h
    have g4 := nL_run hs h4
    have b4 := rdL_le h4
    simp only [Int.cast_ofNat_Int] at g4
    rw [show min n 8 = n by omega, txts_bind] at h
    cases h5 : (tTxts n [] Rd.ret).run s e4 with
    | none =>
      refine D_seq1 (D_seq2 G ?_)
      simp (config := { maxSteps := 1000000 }) (disch := omega) only [go_sem, ↓reduceIte, Nat.reduceEqDiff, Nat.reduceAdd, Int.reduceToNat, reduceCtorEq, Nat.reduceLeDiff, Nat.reduceSub, Nat.reduceDiv, Nat.reduceMod, Nat.reduceMul, g4]
      refine D_block (D_ghost (st1 := rwS s id f n [] e4 0) rfl (D_loop G (fun k st => ∃ (acc : List Txt) (j : Nat), j ≤ s.length ∧ (tTxts k acc Rd.ret).run s j = none ∧ acc.length + k = n ∧ st = rwS s id f n acc j acc.length) ?_ (n := n) ⟨[], e4, b4.2, h5, by simp, by simp⟩))
      rintro k st ⟨acc, j, h0, h1, h2, rfl⟩
      cases k with
      | zero => simp [tTxts, Rd.run] at h1
      | succ k =>
        simp only [tTxts, Rd.run] at h1
        cases k1 : rdT s j with
        | none => exact .inl (rw_dies G N hs b4.1 (by omega) (by omega) h0 k1)
        | some p =>
        obtain ⟨t, e6⟩ := p
        rw [k1] at h1
        simp only at h1
        refine .inr (Ev_mono (rw_step hs b4.1 (by omega) h0 (by omega) k1) ?_)
        rintro y st ⟨rfl, rfl⟩
        exact ⟨rfl, k, by omega, _, _, (rdT_sound k1).2.2.1, h1, by simp; omega, by simp⟩
    | some p5 =>
      obtain ⟨l, e5⟩ := p5
      rw [h5] at h
      simp only [Rd.run] at h
      refine D_seq2 G ?_
      simp (config := { maxSteps := 1000000 }) (disch := omega) only [go_sem, ↓reduceIte, Nat.reduceEqDiff, Nat.reduceAdd, Int.reduceToNat, reduceCtorEq, Nat.reduceLeDiff, Nat.reduceSub, Nat.reduceDiv, Nat.reduceMod, Nat.reduceMul, g4]
      refine Ev_inv (fun k st => ∃ (acc : List Txt) (j : Nat), j ≤ s.length ∧ (tTxts k acc Rd.ret).run s j = some (l, e5) ∧ acc.length + k = n ∧ st = rwS s id f n acc j acc.length) ?_ (i := n) ⟨[], e4, b4.2, h5, by simp, rfl⟩
      rintro k st ⟨acc, j, h0, h1, h2, rfl⟩
      cases k with
      | succ k =>
        simp only [tTxts, Rd.run] at h1
        cases k1 : rdT s j with
        | none => rw [k1] at h1; cases h1
        | some p =>
        obtain ⟨t, e6⟩ := p
        rw [k1] at h1
        simp only at h1
        refine Ev_mono (rw_step hs b4.1 (by omega) h0 (by omega) k1) ?_
        rintro y st ⟨rfl, rfl⟩
        exact .inl ⟨rfl, k, by omega, _, _, (rdT_sound k1).2.2.1, h1, by simp; omega, by simp⟩
      | zero =>
        simp only [tTxts, Rd.run, Option.some.injEq, Prod.mk.injEq] at h1
        obtain ⟨rfl, rfl⟩ := h1
        unfold rwS
        simp (config := { maxSteps := 1000000 }) (disch := omega) only [go_sem, ↓reduceIte, Nat.reduceEqDiff, Nat.reduceAdd, Int.reduceToNat, reduceCtorEq, Nat.reduceLeDiff, Nat.reduceSub, Nat.reduceDiv, Nat.reduceMod, Nat.reduceMul, d1643_b0]
        cases k1 : rdL 200 s j with
        | none =>
          have g : DiesC P fid 1445 [.ref 0 0, .int .i64 200] [.row false [.str s, .int .i64 (j : Int)]] := nL_dies G N hs h0 k1
          cases acc with
          | nil =>
            refine D_ghost (st1 := ⟨_, _, _, _⟩) rfl (D_ops (DO_take G 1 ?_))
            simp (config := { maxSteps := 1000000 }) (disch := omega) only [go_sem, ↓reduceIte, Nat.reduceEqDiff, Nat.reduceAdd, Int.reduceToNat, reduceCtorEq, Nat.reduceLeDiff, Nat.reduceSub, Nat.reduceDiv, Nat.reduceMod, Nat.reduceMul, List.take_succ_cons, List.take_zero, List.drop_succ_cons, List.drop_zero]
            exact DO_call rfl rfl rfl g trivial
          | cons z t =>
            refine D_ghost (st1 := ⟨_, _, _, _⟩) rfl (D_ops (DO_take G 1 ?_))
            simp (config := { maxSteps := 1000000 }) (disch := omega) only [go_sem, ↓reduceIte, Nat.reduceEqDiff, Nat.reduceAdd, Int.reduceToNat, reduceCtorEq, Nat.reduceLeDiff, Nat.reduceSub, Nat.reduceDiv, Nat.reduceMod, Nat.reduceMul, List.take_succ_cons, List.take_zero, List.drop_succ_cons, List.drop_zero]
            exact DO_call rfl rfl rfl g trivial
        | some p =>
          obtain ⟨r, e6⟩ := p
          rw [k1] at h
          simp only at h
          have g5 := nL_run hs k1
          simp only [Int.cast_ofNat_Int] at g5
          cases k2 : rdL 200 s e6 with
          | none =>
            have g : DiesC P fid 1445 [.ref 0 0, .int .i64 200] [.row false [.str s, .int .i64 (e6 : Int)]] := nL_dies G N hs (rdL_le k1).2 k2
            cases acc with
            | nil =>
              refine D_ghost (st1 := ⟨_, _, _, _⟩) rfl (D_ops (DO_take G 3 ?_))
              simp (config := { maxSteps := 1000000 }) (disch := omega) only [go_sem, ↓reduceIte, Nat.reduceEqDiff, Nat.reduceAdd, Int.reduceToNat, reduceCtorEq, Nat.reduceLeDiff, Nat.reduceSub, Nat.reduceDiv, Nat.reduceMod, Nat.reduceMul, wC, g5, List.take_succ_cons, List.take_zero, List.drop_succ_cons, List.drop_zero]
              exact DO_call rfl rfl rfl g trivial
            | cons z t =>
              refine D_ghost (st1 := ⟨_, _, _, _⟩) rfl (D_ops (DO_take G 3 ?_))
              simp only [wC]
              generalize z :: t = acc at *
              simp (config := { maxSteps := 1000000 }) (disch := omega) only [go_sem, ↓reduceIte, Nat.reduceEqDiff, Nat.reduceAdd, Int.reduceToNat, reduceCtorEq, Nat.reduceLeDiff, Nat.reduceSub, Nat.reduceDiv, Nat.reduceMod, Nat.reduceMul, g5, List.take_succ_cons, List.take_zero, List.drop_succ_cons, List.drop_zero]
              exact DO_call rfl rfl rfl g trivial
          | some p => rw [k2] at h; cases h
  · rw [if_neg hk3] at h
    simp [Rd.run] at h
end
end Go.Proofs.Ytcfhocnbpplecaa
