/- frame.request: a request out of bytes. -/
import Derived.Test.YtcfhocnbpplecaaXr
namespace Go.Proofs.Ytcfhocnbpplecaa
set_option linter.unusedSimpArgs false
set_option linter.unusedVariables false
set_option maxHeartbeats 4000000
set_option maxRecDepth 100000
def wC : List Txt → AV
  | [] => .nils
  | h :: l => .vec 1 (strs (h :: l))
theorem wC_snoc (l : List Txt) (x : Txt) : wC (l ++ [x]) = .vec 1 (strs (l ++ [x])) := by cases l <;> rfl
theorem strs_app1 (l : List Txt) (x : Txt) : strs (l ++ [x]) = strs l ++ [.str x] := by simp [strs]
def rwS (s : Txt) (a f : Int) (n : Nat) (acc : List Txt) (j i : Nat) : St := ⟨[(0, .ref 0 0), (2, .ref 1 0), (3, .ref 2 0), (31, .int .i64 (n : Int)), (32, .int .i64 (i : Int))], [.row false [.str s, .int .i64 (j : Int)], .row false [.int .i64 0, .int .i64 0, .int .i64 0, .int .i64 0, .int .i64 0, .nils, .int .i64 0, .int .i64 0], .row false [.int .i64 a, .int .i64 3, .int .i64 3, .int .i64 f, .int .i64 0, wC acc, .int .i64 0, .int .i64 0]], 1, [(0, 3, [0, 2, 3, 31, 32], [(0, 0), (2, 1), (3, 2)])]⟩
theorem rw_step {s : Txt} (hs : s.length ≤ 1000000) {a f : Int} {n : Nat} {acc : List Txt} (hn : n ≤ 8) (ha : acc.length ≤ 8) {j i e : Nat} {t : Txt} (hj : j ≤ s.length) (hi : i < n) (h1 : rdT s j = some (t, e)) : Ev tab d1643_b0 (rwS s a f n acc j i) (fun x st => x = .normal ∧ st = rwS s a f n (acc ++ [t]) e (i + 1)) := by
  have g1 := stext_run hs hj h1
  unfold rwS
  rw [wC_snoc, strs_app1]
  cases acc with
  | nil =>
    simp only [wC, strs_nil, List.nil_append]
    simp (config := { maxSteps := 1000000 }) (disch := omega) only [go_sem, ↓reduceIte, Nat.reduceEqDiff, Nat.reduceAdd, Int.reduceToNat, reduceCtorEq, Nat.reduceLeDiff, Nat.reduceSub, Nat.reduceDiv, Nat.reduceMod, Nat.reduceMul, d1643_b0, g1]
    rfl
  | cons z t =>
    simp only [wC]
    generalize z :: t = acc at *
    simp (config := { maxSteps := 1000000 }) (disch := omega) only [go_sem, ↓reduceIte, Nat.reduceEqDiff, Nat.reduceAdd, Int.reduceToNat, reduceCtorEq, Nat.reduceLeDiff, Nat.reduceSub, Nat.reduceDiv, Nat.reduceMod, Nat.reduceMul, d1643_b0, g1]
    rfl
theorem request_run {s : Txt} (hs : s.length ≤ 1000000) {x : Req} {e : Nat} (h : tReq.run s 0 = some (x, e)) : runP tab 1643 [.ref 0 0] [.row false [.str s, .int .i64 0]] = some (.agg (reqV x), [.row false [.str s, .int .i64 (e : Int)]]) := by
  refine runP_fn t1643 rfl ?_
  unfold tReq at h
  simp only [Rd.run] at h
  cases h1 : rdL 2147483647 s 0 with
  | none => rw [h1] at h; cases h
  | some p1 =>
  obtain ⟨id, e1⟩ := p1
  rw [h1] at h
  simp only at h
  cases h2 : rdL 4 s e1 with
  | none => rw [h2] at h; cases h
  | some p2 =>
  obtain ⟨kind, e2⟩ := p2
  rw [h2] at h
  simp only at h
  have g1 := nL_run hs h1
  have g2 := nL_run hs h2
  have b1 := rdL_le h1
  have b2 := rdL_le h2
  simp only [Int.cast_ofNat_Int] at g1 g2
  by_cases hk : kind = 1 ∨ kind = 2
  · rw [if_pos hk] at h
    simp only [Rd.run] at h
    cases h3 : rdL 200 s e2 with
    | none => rw [h3] at h; cases h
    | some p3 =>
    obtain ⟨f, e3⟩ := p3
    rw [h3] at h
    simp only at h
    cases h4 : rdL 200 s e3 with
    | none => rw [h4] at h; cases h
    | some p4 =>
    obtain ⟨t, e4⟩ := p4
    rw [h4] at h
    simp only [Option.some.injEq, Prod.mk.injEq] at h
    obtain ⟨rfl, rfl⟩ := h
    have g3 := nL_run hs h3
    have g4 := nL_run hs h4
    simp only [Int.cast_ofNat_Int] at g3 g4
    rcases hk with rfl | rfl
    · simp (config := { maxSteps := 1000000 }) (disch := omega) only [go_sem, ↓reduceIte, Nat.reduceEqDiff, Nat.reduceAdd, Int.reduceToNat, reduceCtorEq, Nat.reduceLeDiff, Nat.reduceSub, Nat.reduceDiv, Nat.reduceMod, Nat.reduceMul, d1643, g1, g2, g3, g4, reqV, strs_nil]
      try rfl
    · simp (config := { maxSteps := 1000000 }) (disch := omega) only [go_sem, ↓reduceIte, Nat.reduceEqDiff, Nat.reduceAdd, Int.reduceToNat, reduceCtorEq, Nat.reduceLeDiff, Nat.reduceSub, Nat.reduceDiv, Nat.reduceMod, Nat.reduceMul, d1643, g1, g2, g3, g4, reqV, strs_nil]
      try rfl
  rw [if_neg hk] at h
  by_cases hk3 : kind = 3
  · rw [if_pos hk3] at h
    subst hk3
    simp only [Rd.run] at h
    cases h3 : rdL 200 s e2 with
    | none => rw [h3] at h; cases h
    | some p3 =>
    obtain ⟨f, e3⟩ := p3
    rw [h3] at h
    simp only at h
    cases h4 : rdL 8 s e3 with
    | none => rw [h4] at h; cases h
    | some p4 =>
    obtain ⟨n, e4⟩ := p4
    rw [h4] at h
    simp only at h
    have g3 := nL_run hs h3
    have g4 := nL_run hs h4
    have b3 := rdL_le h3
    have b4 := rdL_le h4
    simp only [Int.cast_ofNat_Int] at g3 g4
    simp (config := { maxSteps := 1000000 }) (disch := omega) only [go_sem, ↓reduceIte, Nat.reduceEqDiff, Nat.reduceAdd, Int.reduceToNat, reduceCtorEq, Nat.reduceLeDiff, Nat.reduceSub, Nat.reduceDiv, Nat.reduceMod, Nat.reduceMul, d1643, g1, g2, g3, g4]
    refine ⟨rfl, ?_⟩
    rw [show min n 8 = n by omega] at h
    refine Ev_inv (fun k st => ∃ (acc : List Txt) (j : Nat), j ≤ s.length ∧ (tTxts k acc fun l => Rd.num 200 fun r => Rd.num 200 fun m => Rd.ret (⟨id, (3 : Nat), (3 : Nat), f, 0, l, r, m⟩ : Req)).run s j = some (x, e) ∧ acc.length + k = n ∧ st = rwS s id f n acc j acc.length) ?_ (i := n) ⟨[], e4, b4.2, h, by simp, by simp [rwS, wC]⟩
    rintro k st ⟨acc, j, hj, h1, h2, rfl⟩
    cases k with
    | succ k =>
      simp only [tTxts, Rd.run] at h1
      cases k1 : rdT s j with
      | none => rw [k1] at h1; cases h1
      | some p =>
      obtain ⟨t, e6⟩ := p
      rw [k1] at h1
      simp only at h1
      refine Ev_mono (rw_step hs b4.1 (by omega) hj (by omega) k1) ?_
      rintro y st ⟨rfl, rfl⟩
      exact .inl ⟨rfl, k, by omega, _, _, (rdT_sound k1).2.2.1, h1, by simp; omega, by simp⟩
    | zero =>
      simp only [tTxts, Rd.run] at h1
      cases k1 : rdL 200 s j with
      | none => rw [k1] at h1; cases h1
      | some p =>
      obtain ⟨r, e6⟩ := p
      rw [k1] at h1
      simp only at h1
      cases k2 : rdL 200 s e6 with
      | none => rw [k2] at h1; cases h1
      | some p =>
      obtain ⟨m, e7⟩ := p
      rw [k2] at h1
      simp only [Option.some.injEq, Prod.mk.injEq] at h1
      obtain ⟨rfl, rfl⟩ := h1
      have g5 := nL_run hs k1
      have g6 := nL_run hs k2
      simp only [Int.cast_ofNat_Int] at g5 g6
      unfold rwS
      cases acc with
      | nil =>
        simp only [List.length_nil] at h2
        simp (config := { maxSteps := 1000000 }) (disch := omega) only [go_sem, ↓reduceIte, Nat.reduceEqDiff, Nat.reduceAdd, Int.reduceToNat, reduceCtorEq, Nat.reduceLeDiff, Nat.reduceSub, Nat.reduceDiv, Nat.reduceMod, Nat.reduceMul, d1643_b0, wC, reqV, strs_nil, g5, g6, Int.cast_ofNat_Int]
      | cons z t =>
        simp only [wC]
        generalize z :: t = acc at *
        simp (config := { maxSteps := 1000000 }) (disch := omega) only [go_sem, ↓reduceIte, Nat.reduceEqDiff, Nat.reduceAdd, Int.reduceToNat, reduceCtorEq, Nat.reduceLeDiff, Nat.reduceSub, Nat.reduceDiv, Nat.reduceMod, Nat.reduceMul, d1643_b0, reqV, g5, g6, Int.cast_ofNat_Int]
  · rw [if_neg hk3] at h
    simp only [Rd.run, Option.some.injEq, Prod.mk.injEq] at h
    obtain ⟨rfl, rfl⟩ := h
    simp (config := { maxSteps := 1000000 }) (disch := omega) only [go_sem, ↓reduceIte, Nat.reduceEqDiff, Nat.reduceAdd, Int.reduceToNat, reduceCtorEq, Nat.reduceLeDiff, Nat.reduceSub, Nat.reduceDiv, Nat.reduceMod, Nat.reduceMul, d1643, g1, g2, reqV, strs_nil]
end Go.Proofs.Ytcfhocnbpplecaa
