/- frame.reply throws where there is no reply; scan.Whole of it. -/
import Derived.Test.YtcfhocnbpplecaaXh
namespace Go.Proofs.Ytcfhocnbpplecaa
set_option linter.unusedSimpArgs false
set_option linter.unusedVariables false
set_option maxHeartbeats 4000000
set_option maxRecDepth 100000
section
variable {P : Program}
theorem rh_dies (G : Good P fid tab) (N : NeedIs P) {s : Txt} (hs : s.length ≤ 1000000) {a d : Int} {f : Bool} {n : Nat} {acc : List Hit} (hn : n ≤ 100) (ha : acc.length ≤ 100) {j i : Nat} (hi : i < n) (hj : j ≤ s.length) (h : rdL 200 s j = none ∨ ∃ v e, rdL 200 s j = some (v, e) ∧ rdL 200 s e = none) : DiesS P fid d1434_b0 (rhS s a d f n acc j i) := by
  unfold d1434_b0 rhS
  refine D_after (D_seq2 G ?_)
  simp (config := { maxSteps := 1000000 }) (disch := omega) only [go_sem, ↓reduceIte, Nat.reduceEqDiff, Nat.reduceAdd, Int.reduceToNat, reduceCtorEq, Nat.reduceLeDiff, Nat.reduceSub, Nat.reduceDiv, Nat.reduceMod, Nat.reduceMul]
  refine D_seq2 G ?_
  simp (config := { maxSteps := 1000000 }) (disch := omega) only [go_sem, ↓reduceIte, Nat.reduceEqDiff, Nat.reduceAdd, Int.reduceToNat, reduceCtorEq, Nat.reduceLeDiff, Nat.reduceSub, Nat.reduceDiv, Nat.reduceMod, Nat.reduceMul]
  refine D_seq1 (D_block ?_)
  have fst : rdL 200 s j = none → DiesC P fid 1445 [.ref 0 0, .int .i64 200] [.row false [.str s, .int .i64 (j : Int)]] := fun h => nL_dies G N hs hj h
  rcases h with h | ⟨v, e, h1, h2⟩
  · have g := fst h
    cases acc with
    | nil =>
      refine D_ghost (st1 := ⟨_, _, _, _⟩) rfl ?_
      refine D_opsC G 4 (.int .i64 0) rfl ?_
      simp only [hC]
      simp (config := { maxSteps := 1000000 }) (disch := omega) only [go_sem, ↓reduceIte, Nat.reduceEqDiff, Nat.reduceAdd, Int.reduceToNat, reduceCtorEq, Nat.reduceLeDiff, Nat.reduceSub, Nat.reduceDiv, Nat.reduceMod, Nat.reduceMul, List.take_succ_cons, List.take_zero, List.drop_succ_cons, List.drop_zero]
      refine ⟨⟨1445, _, _, _, rfl, rfl, rfl, rfl, g⟩, DrF_run G 1 ?_⟩
      simp (config := { maxSteps := 1000000 }) (disch := omega) only [go_sem, ↓reduceIte, Nat.reduceEqDiff, Nat.reduceAdd, Int.reduceToNat, reduceCtorEq, Nat.reduceLeDiff, Nat.reduceSub, Nat.reduceDiv, Nat.reduceMod, Nat.reduceMul, St.put, List.take_succ_cons, List.take_zero, List.drop_succ_cons, List.drop_zero]
      refine DrF_die (.int .i64 0) ⟨1445, _, _, _, rfl, rfl, rfl, rfl, g⟩ (DrF_run G 6 ?_)
      simp (config := { maxSteps := 1000000 }) (disch := omega) only [go_sem, ↓reduceIte, Nat.reduceEqDiff, Nat.reduceAdd, Int.reduceToNat, reduceCtorEq, Nat.reduceLeDiff, Nat.reduceSub, Nat.reduceDiv, Nat.reduceMod, Nat.reduceMul, St.put, List.take_succ_cons, List.take_zero, List.drop_succ_cons, List.drop_zero]
      exact DrF_end rfl
    | cons z t =>
      refine D_ghost (st1 := ⟨_, _, _, _⟩) rfl ?_
      refine D_opsC G 4 (.int .i64 0) rfl ?_
      simp only [hC]
      generalize z :: t = acc at *
      simp (config := { maxSteps := 1000000 }) (disch := omega) only [go_sem, ↓reduceIte, Nat.reduceEqDiff, Nat.reduceAdd, Int.reduceToNat, reduceCtorEq, Nat.reduceLeDiff, Nat.reduceSub, Nat.reduceDiv, Nat.reduceMod, Nat.reduceMul, List.take_succ_cons, List.take_zero, List.drop_succ_cons, List.drop_zero]
      refine ⟨⟨1445, _, _, _, rfl, rfl, rfl, rfl, g⟩, DrF_run G 1 ?_⟩
      simp (config := { maxSteps := 1000000 }) (disch := omega) only [go_sem, ↓reduceIte, Nat.reduceEqDiff, Nat.reduceAdd, Int.reduceToNat, reduceCtorEq, Nat.reduceLeDiff, Nat.reduceSub, Nat.reduceDiv, Nat.reduceMod, Nat.reduceMul, St.put, List.take_succ_cons, List.take_zero, List.drop_succ_cons, List.drop_zero]
      refine DrF_die (.int .i64 0) ⟨1445, _, _, _, rfl, rfl, rfl, rfl, g⟩ (DrF_run G 6 ?_)
      simp (config := { maxSteps := 1000000 }) (disch := omega) only [go_sem, ↓reduceIte, Nat.reduceEqDiff, Nat.reduceAdd, Int.reduceToNat, reduceCtorEq, Nat.reduceLeDiff, Nat.reduceSub, Nat.reduceDiv, Nat.reduceMod, Nat.reduceMul, St.put, List.take_succ_cons, List.take_zero, List.drop_succ_cons, List.drop_zero]
      exact DrF_end rfl
  · have g1 := nL_run hs h1
    have b1 := rdL_le h1
    have g : DiesC P fid 1445 [.ref 0 0, .int .i64 200] [.row false [.str s, .int .i64 (e : Int)]] := nL_dies G N hs b1.2 h2
    simp only [Int.cast_ofNat_Int] at g1
    cases acc with
    | nil =>
      refine D_ghost (st1 := ⟨_, _, _, _⟩) rfl ?_
      refine D_opsC G 6 (.int .i64 0) rfl ?_
      simp only [hC]
      simp (config := { maxSteps := 1000000 }) (disch := omega) only [go_sem, ↓reduceIte, Nat.reduceEqDiff, Nat.reduceAdd, Int.reduceToNat, reduceCtorEq, Nat.reduceLeDiff, Nat.reduceSub, Nat.reduceDiv, Nat.reduceMod, Nat.reduceMul, g1, List.take_succ_cons, List.take_zero, List.drop_succ_cons, List.drop_zero]
      refine ⟨⟨1445, _, _, _, rfl, rfl, rfl, rfl, g⟩, DrF_run G 6 ?_⟩
      simp (config := { maxSteps := 1000000 }) (disch := omega) only [go_sem, ↓reduceIte, Nat.reduceEqDiff, Nat.reduceAdd, Int.reduceToNat, reduceCtorEq, Nat.reduceLeDiff, Nat.reduceSub, Nat.reduceDiv, Nat.reduceMod, Nat.reduceMul, St.put, List.take_succ_cons, List.take_zero, List.drop_succ_cons, List.drop_zero]
      exact DrF_end rfl
    | cons z t =>
      refine D_ghost (st1 := ⟨_, _, _, _⟩) rfl ?_
      refine D_opsC G 6 (.int .i64 0) rfl ?_
      simp only [hC]
      generalize z :: t = acc at *
      simp (config := { maxSteps := 1000000 }) (disch := omega) only [go_sem, ↓reduceIte, Nat.reduceEqDiff, Nat.reduceAdd, Int.reduceToNat, reduceCtorEq, Nat.reduceLeDiff, Nat.reduceSub, Nat.reduceDiv, Nat.reduceMod, Nat.reduceMul, g1, List.take_succ_cons, List.take_zero, List.drop_succ_cons, List.drop_zero]
      refine ⟨⟨1445, _, _, _, rfl, rfl, rfl, rfl, g⟩, DrF_run G 6 ?_⟩
      simp (config := { maxSteps := 1000000 }) (disch := omega) only [go_sem, ↓reduceIte, Nat.reduceEqDiff, Nat.reduceAdd, Int.reduceToNat, reduceCtorEq, Nat.reduceLeDiff, Nat.reduceSub, Nat.reduceDiv, Nat.reduceMod, Nat.reduceMul, St.put, List.take_succ_cons, List.take_zero, List.drop_succ_cons, List.drop_zero]
      exact DrF_end rfl
theorem reply_dies (G : Good P fid tab) (N : NeedIs P) {s : Txt} (hs : s.length ≤ 1000000) (h : tRep.run s 0 = none) : DiesC P fid 1434 [.ref 0 0] [.row false [.str s, .int .i64 0]] := by
  refine D_fn G t1434 ?_
  simp only [d1434, bindParams]
  refine D_seq2 G ?_
  simp (config := { maxSteps := 1000000 }) (disch := omega) only [go_sem, ↓reduceIte, Nat.reduceEqDiff, Nat.reduceAdd, Int.reduceToNat, reduceCtorEq, Nat.reduceLeDiff, Nat.reduceSub, Nat.reduceDiv, Nat.reduceMod, Nat.reduceMul]
  unfold tRep at h
  simp only [Rd.run] at h
  cases h1 : rdL 2147483647 s 0 with
  | none =>
    have g : DiesC P fid 1445 [.ref 0 0, .int .i64 2147483647] [.row false [.str s, .int .i64 0]] := nL_dies G N hs (Nat.zero_le _) h1
    refine D_seq1 (D_ops (DO_take G 1 ?_))
    simp (config := { maxSteps := 1000000 }) (disch := omega) only [go_sem, ↓reduceIte, Nat.reduceEqDiff, Nat.reduceAdd, Int.reduceToNat, reduceCtorEq, Nat.reduceLeDiff, Nat.reduceSub, Nat.reduceDiv, Nat.reduceMod, Nat.reduceMul, List.take_succ_cons, List.take_zero, List.drop_succ_cons, List.drop_zero]
    exact DO_call rfl rfl rfl g trivial
  | some p1 =>
  obtain ⟨id, e1⟩ := p1
  rw [h1] at h
  simp only at h
  have g1 := nL_run hs h1
  have b1 := rdL_le h1
  rw [show ((0 : Nat) : Int) = 0 from rfl] at g1
  cases h2 : rdL 1000 s e1 with
  | none =>
    have g : DiesC P fid 1445 [.ref 0 0, .int .i64 1000] [.row false [.str s, .int .i64 (e1 : Int)]] := nL_dies G N hs b1.2 h2
    simp only [Int.cast_ofNat_Int] at g1
    refine D_seq1 (D_ops (DO_take G 3 ?_))
    simp (config := { maxSteps := 1000000 }) (disch := omega) only [go_sem, ↓reduceIte, Nat.reduceEqDiff, Nat.reduceAdd, Int.reduceToNat, reduceCtorEq, Nat.reduceLeDiff, Nat.reduceSub, Nat.reduceDiv, Nat.reduceMod, Nat.reduceMul, g1, List.take_succ_cons, List.take_zero, List.drop_succ_cons, List.drop_zero]
    exact DO_call rfl rfl rfl g trivial
  | some p2 =>
  obtain ⟨code, e2⟩ := p2
  rw [h2] at h
  simp only at h
  have g2 := nL_run hs h2
  have b2 := rdL_le h2
  simp only [Int.cast_ofNat_Int] at g1 g2
  by_cases hc : code = 0
  case neg => rw [if_neg hc] at h; simp [Rd.run] at h
  subst hc
  rw [if_pos rfl] at h
  simp only [Rd.run] at h
  refine D_seq2 G ?_
  simp (config := { maxSteps := 1000000 }) (disch := omega) only [go_sem, ↓reduceIte, Nat.reduceEqDiff, Nat.reduceAdd, Int.reduceToNat, reduceCtorEq, Nat.reduceLeDiff, Nat.reduceSub, Nat.reduceDiv, Nat.reduceMod, Nat.reduceMul, g1, g2]
  refine D_ghost (st1 := ⟨_, _, _, _⟩) rfl (D_seq2 G ?_)
  simp (config := { maxSteps := 1000000 }) (disch := omega) only [go_sem, ↓reduceIte, Nat.reduceEqDiff, Nat.reduceAdd, Int.reduceToNat, reduceCtorEq, Nat.reduceLeDiff, Nat.reduceSub, Nat.reduceDiv, Nat.reduceMod, Nat.reduceMul]
  cases h3 : rdL 1 s e2 with
  | none =>
    have g : DiesC P fid 1445 [.ref 0 0, .int .i64 1] [.row false [.str s, .int .i64 (e2 : Int)]] := nL_dies G N hs b2.2 h3
    refine D_seq1 (D_ops (DO_take G 1 ?_))
    simp (config := { maxSteps := 1000000 }) (disch := omega) only [go_sem, ↓reduceIte, Nat.reduceEqDiff, Nat.reduceAdd, Int.reduceToNat, reduceCtorEq, Nat.reduceLeDiff, Nat.reduceSub, Nat.reduceDiv, Nat.reduceMod, Nat.reduceMul, List.take_succ_cons, List.take_zero, List.drop_succ_cons, List.drop_zero]
    exact DO_call rfl rfl rfl g trivial
  | some p3 =>
  obtain ⟨f, e3⟩ := p3
  rw [h3] at h
  simp only at h
  have g3 := nL_run hs h3
  have b3 := rdL_le h3
  simp only [Int.cast_ofNat_Int] at g3
  cases h4 : rdL 400 s e3 with
  | none =>
    have g : DiesC P fid 1445 [.ref 0 0, .int .i64 400] [.row false [.str s, .int .i64 (e3 : Int)]] := nL_dies G N hs b3.2 h4
    refine D_seq1 (D_ops (DO_take G 4 ?_))
    simp (config := { maxSteps := 1000000 }) (disch := omega) only [go_sem, ↓reduceIte, Nat.reduceEqDiff, Nat.reduceAdd, Int.reduceToNat, reduceCtorEq, Nat.reduceLeDiff, Nat.reduceSub, Nat.reduceDiv, Nat.reduceMod, Nat.reduceMul, g3, List.take_succ_cons, List.take_zero, List.drop_succ_cons, List.drop_zero]
    exact DO_call rfl rfl rfl g trivial
  | some p4 =>
  obtain ⟨d, e4⟩ := p4
  rw [h4] at h
  simp only at h
  have g4 := nL_run hs h4
  have b4 := rdL_le h4
  simp only [Int.cast_ofNat_Int] at g4
  refine D_seq2 G ?_
  simp (config := { maxSteps := 1000000 }) (disch := omega) only [go_sem, ↓reduceIte, Nat.reduceEqDiff, Nat.reduceAdd, Int.reduceToNat, reduceCtorEq, Nat.reduceLeDiff, Nat.reduceSub, Nat.reduceDiv, Nat.reduceMod, Nat.reduceMul, g3, g4]
  refine D_ghost (st1 := ⟨_, _, _, _⟩) rfl (D_seq1 ?_)
  cases h5 : rdL 100 s e4 with
  | none =>
    have g : DiesC P fid 1445 [.ref 0 0, .int .i64 100] [.row false [.str s, .int .i64 (e4 : Int)]] := nL_dies G N hs b4.2 h5
    refine D_seq1 (D_ops (DO_take G 1 ?_))
    simp (config := { maxSteps := 1000000 }) (disch := omega) only [go_sem, ↓reduceIte, Nat.reduceEqDiff, Nat.reduceAdd, Int.reduceToNat, reduceCtorEq, Nat.reduceLeDiff, Nat.reduceSub, Nat.reduceDiv, Nat.reduceMod, Nat.reduceMul, List.take_succ_cons, List.take_zero, List.drop_succ_cons, List.drop_zero]
    exact DO_call rfl rfl rfl g trivial
  | some p5 =>
  obtain ⟨n, e5⟩ := p5
  rw [h5] at h
  simp only at h
  have g5 := nL_run hs h5
  have b5 := rdL_le h5
  simp only [Int.cast_ofNat_Int] at g5
  have ef : decide ((f : Int) = 1) = decide (f = 1) := by rw [decide_eq_decide]; omega
  rw [show min n 101 = n by omega] at h
  refine D_seq2 G ?_
  simp (config := { maxSteps := 1000000 }) (disch := omega) only [go_sem, ↓reduceIte, Nat.reduceEqDiff, Nat.reduceAdd, Int.reduceToNat, reduceCtorEq, Nat.reduceLeDiff, Nat.reduceSub, Nat.reduceDiv, Nat.reduceMod, Nat.reduceMul, g5]
  refine D_block (D_ghost (st1 := rhS s id d (decide (f = 1)) n [] e5 0) (by rw [← ef]; rfl) (D_loop G (fun k st => ∃ (acc : List Hit) (j : Nat), j ≤ s.length ∧ (tHits k acc fun l => Rd.ret (⟨id, (0 : Nat), decide (f = 1), d, l⟩ : Rep)).run s j = none ∧ acc.length + k = n ∧ st = rhS s id d (decide (f = 1)) n acc j acc.length) ?_ (n := n) ⟨[], e5, b5.2, h, by simp, by simp⟩))
  rintro k st ⟨acc, j, h0, h1, h2, rfl⟩
  cases k with
  | zero => simp [tHits, Rd.run] at h1
  | succ k =>
    simp only [tHits, Rd.run] at h1
    cases k1 : rdL 200 s j with
    | none => exact .inl (rh_dies G N hs b5.1 (by omega) (by omega) h0 (.inl k1))
    | some p =>
    obtain ⟨v, e6⟩ := p
    rw [k1] at h1
    simp only at h1
    cases k2 : rdL 200 s e6 with
    | none => exact .inl (rh_dies G N hs b5.1 (by omega) (by omega) h0 (.inr ⟨v, e6, k1, k2⟩))
    | some p =>
    obtain ⟨w, e7⟩ := p
    rw [k2] at h1
    simp only at h1
    refine .inr (Ev_mono (rh_step hs b5.1 (by omega) (by omega) k1 k2) ?_)
    rintro y st ⟨rfl, rfl⟩
    exact ⟨rfl, k, by omega, _, _, (rdL_le k2).2, h1, by simp; omega, by simp⟩
end
end Go.Proofs.Ytcfhocnbpplecaa
