/- The document's GetRequest. -/
import Derived.Test.YtcfhocnbpplecaaXu
namespace Go.Proofs.Ytcfhocnbpplecaa
set_option linter.unusedSimpArgs false
set_option linter.unusedVariables false
set_option maxHeartbeats 4000000
set_option maxRecDepth 100000
def cwS (s : Txt) (a f : Int) (n : Nat) (acc : List Txt) (j : Nat) (z : Bool) (i : Nat) : St := ⟨[(0, .str s), (2, .ref 0 0), (4, .ref 1 0), (7, .ref 2 0), (8, .int .i64 (n : Int)), (9, .int .i64 (i : Int))], [.row false [.int .i64 0, .int .i64 0, .int .i64 0, .int .i64 0, .int .i64 0, .nils, .int .i64 0, .int .i64 0], .row false [.str s, .int .i64 (j : Int), .bool z], .row false [.int .i64 a, .int .i64 3, .int .i64 3, .int .i64 f, .int .i64 0, wC acc, .int .i64 0, .int .i64 0]], 0, [(0, 3, [0, 2, 4, 7, 8, 9], [(2, 0), (4, 1), (7, 2)])]⟩
theorem cw_step {s : Txt} (hs : s.length ≤ 1000000) {a f : Int} {z : Bool} {n : Nat} {acc : List Txt} (hn : n ≤ 2147483647) (ha : acc.length ≤ 8) {j i : Nat} (hj : j ≤ s.length) (hi : i < n) (hi2 : i < 8) : Ev tab d1634_b0 (cwS s a f n acc j z i) (fun x st => x = .normal ∧ st = cwS s a f n (acc ++ [(rdCT s j).1]) (rdCT s j).2.1 (z || (rdCT s j).2.2) (i + 1)) := by
  have g1 := ctext_run hs hj (bad := z)
  generalize rdCT s j = p at *
  obtain ⟨v, e, y⟩ := p
  simp only at *
  generalize (z || y) = z1 at *
  unfold cwS
  rw [wC_snoc, strs_app1]
  cases acc with
  | nil =>
    simp only [wC, strs_nil, List.nil_append]
    simp (config := { maxSteps := 1000000 }) (disch := omega) only [go_sem, ↓reduceIte, Nat.reduceEqDiff, Nat.reduceAdd, Int.reduceToNat, reduceCtorEq, Nat.reduceLeDiff, Nat.reduceSub, Nat.reduceDiv, Nat.reduceMod, Nat.reduceMul, d1634_b0, g1]
  | cons w t =>
    simp only [wC]
    generalize w :: t = acc at *
    simp (config := { maxSteps := 1000000 }) (disch := omega) only [go_sem, ↓reduceIte, Nat.reduceEqDiff, Nat.reduceAdd, Int.reduceToNat, reduceCtorEq, Nat.reduceLeDiff, Nat.reduceSub, Nat.reduceDiv, Nat.reduceMod, Nat.reduceMul, d1634_b0, g1]
theorem rgetQ_run {s : Txt} (hs : s.length ≤ 1000000) : runP tab 1634 [.str s] [] = some (.tup (getQA s), []) := by
  unfold getQA
  rw [← formQ.doc]
  refine runP_fn t1634 rfl ?_
  have g1 := cnum_run hs (j := 0) (Nat.zero_le _) (bad := false)
  have b1 := rdC_le (s := s) (j := 0) (Nat.zero_le _)
  cases h1 : rdC s 0 with
  | mk id p =>
  obtain ⟨e1, y1⟩ := p
  rw [h1] at g1 b1
  simp only [Bool.false_or] at g1 b1
  rw [show ((0 : Nat) : Int) = 0 from rfl] at g1
  have g2 := cnum_run hs b1.2 (bad := y1)
  have b2 := rdC_le b1.2
  cases h2 : rdC s e1 with
  | mk kind p =>
  obtain ⟨e2, y2⟩ := p
  rw [h2] at g2 b2
  simp only at g2 b2
  generalize hz2 : (y1 || y2) = z2 at *
  have g3 := cnum_run hs b2.2 (bad := z2)
  have b3 := rdC_le b2.2
  cases h3 : rdC s e2 with
  | mk f p =>
  obtain ⟨e3, y3⟩ := p
  rw [h3] at g3 b3
  simp only at g3 b3
  generalize hz3 : (z2 || y3) = z3 at *
  have g4 := cnum_run hs b3.2 (bad := z3)
  have b4 := rdC_le b3.2
  cases h4 : rdC s e3 with
  | mk t p =>
  obtain ⟨e4, y4⟩ := p
  rw [h4] at g4 b4
  simp only at g4 b4
  generalize hz4 : (z3 || y4) = z4 at *
  by_cases hk : kind = 1 ∨ kind = 2
  · have hkey : tReq.doc s 0 false = (⟨id, kind, kind, f, t, [], 0, 0⟩, e4, z4) := by
      unfold tReq
      simp only [Rd.doc, h1, h2, h3, h4, Bool.false_or, if_pos hk, hz2, hz3, hz4]
    rw [docG_of hkey]
    have gp := rputQ_run (r := ⟨id, kind, kind, f, t, [], 0, 0⟩) ⟨by simp, by simp⟩
    simp only [putQA, reqS, strs_nil] at gp
    rcases hk with rfl | rfl
    · simp only [Int.cast_ofNat_Int, Int.natCast_one] at gp ⊢
      rcases Bool.eq_false_or_eq_true (okQ ⟨id, 1, 1, f, t, [], 0, 0⟩) with ho | ho
      · rw [ho, if_pos rfl] at gp
        by_cases hq : encQ ⟨id, 1, 1, f, t, [], 0, 0⟩ = s
        · rw [hq] at gp
          cases z4
          · rw [if_pos ⟨rfl, ho, hq⟩]
            simp (config := { maxSteps := 1000000 }) (disch := omega) only [go_sem, ↓reduceIte, Nat.reduceEqDiff, Nat.reduceAdd, Int.reduceToNat, reduceCtorEq, Nat.reduceLeDiff, Nat.reduceSub, Nat.reduceDiv, Nat.reduceMod, Nat.reduceMul, d1634, g1, g2, g3, g4, reqV, zReq, strs_nil, gp]
          · rw [if_neg (fun h => by cases h.1)]
            simp (config := { maxSteps := 1000000 }) (disch := omega) only [go_sem, ↓reduceIte, Nat.reduceEqDiff, Nat.reduceAdd, Int.reduceToNat, reduceCtorEq, Nat.reduceLeDiff, Nat.reduceSub, Nat.reduceDiv, Nat.reduceMod, Nat.reduceMul, d1634, g1, g2, g3, g4, reqV, zReq, strs_nil, gp]
        · rw [if_neg (fun h => hq h.2.2)]
          have hb : (encQ ⟨id, 1, 1, f, t, [], 0, 0⟩ == s) = false := by simpa using hq
          cases z4 <;> simp (config := { maxSteps := 1000000 }) (disch := omega) only [go_sem, ↓reduceIte, Nat.reduceEqDiff, Nat.reduceAdd, Int.reduceToNat, reduceCtorEq, Nat.reduceLeDiff, Nat.reduceSub, Nat.reduceDiv, Nat.reduceMod, Nat.reduceMul, d1634, g1, g2, g3, g4, reqV, zReq, strs_nil, gp, hb]
      · rw [ho, if_neg (by simp)] at gp
        rw [if_neg (fun h => by rw [ho] at h; cases h.2.1)]
        cases z4 <;> simp (config := { maxSteps := 1000000 }) (disch := omega) only [go_sem, ↓reduceIte, Nat.reduceEqDiff, Nat.reduceAdd, Int.reduceToNat, reduceCtorEq, Nat.reduceLeDiff, Nat.reduceSub, Nat.reduceDiv, Nat.reduceMod, Nat.reduceMul, d1634, g1, g2, g3, g4, reqV, zReq, strs_nil, gp]
    · simp only [Int.cast_ofNat_Int] at gp ⊢
      rcases Bool.eq_false_or_eq_true (okQ ⟨id, 2, 2, f, t, [], 0, 0⟩) with ho | ho
      · rw [ho, if_pos rfl] at gp
        by_cases hq : encQ ⟨id, 2, 2, f, t, [], 0, 0⟩ = s
        · rw [hq] at gp
          cases z4
          · rw [if_pos ⟨rfl, ho, hq⟩]
            simp (config := { maxSteps := 1000000 }) (disch := omega) only [go_sem, ↓reduceIte, Nat.reduceEqDiff, Nat.reduceAdd, Int.reduceToNat, reduceCtorEq, Nat.reduceLeDiff, Nat.reduceSub, Nat.reduceDiv, Nat.reduceMod, Nat.reduceMul, d1634, g1, g2, g3, g4, reqV, zReq, strs_nil, gp]
          · rw [if_neg (fun h => by cases h.1)]
            simp (config := { maxSteps := 1000000 }) (disch := omega) only [go_sem, ↓reduceIte, Nat.reduceEqDiff, Nat.reduceAdd, Int.reduceToNat, reduceCtorEq, Nat.reduceLeDiff, Nat.reduceSub, Nat.reduceDiv, Nat.reduceMod, Nat.reduceMul, d1634, g1, g2, g3, g4, reqV, zReq, strs_nil, gp]
        · rw [if_neg (fun h => hq h.2.2)]
          have hb : (encQ ⟨id, 2, 2, f, t, [], 0, 0⟩ == s) = false := by simpa using hq
          cases z4 <;> simp (config := { maxSteps := 1000000 }) (disch := omega) only [go_sem, ↓reduceIte, Nat.reduceEqDiff, Nat.reduceAdd, Int.reduceToNat, reduceCtorEq, Nat.reduceLeDiff, Nat.reduceSub, Nat.reduceDiv, Nat.reduceMod, Nat.reduceMul, d1634, g1, g2, g3, g4, reqV, zReq, strs_nil, gp, hb]
      · rw [ho, if_neg (by simp)] at gp
        rw [if_neg (fun h => by rw [ho] at h; cases h.2.1)]
        cases z4 <;> simp (config := { maxSteps := 1000000 }) (disch := omega) only [go_sem, ↓reduceIte, Nat.reduceEqDiff, Nat.reduceAdd, Int.reduceToNat, reduceCtorEq, Nat.reduceLeDiff, Nat.reduceSub, Nat.reduceDiv, Nat.reduceMod, Nat.reduceMul, d1634, g1, g2, g3, g4, reqV, zReq, strs_nil, gp]
  by_cases hk3 : kind = 3
  · subst hk3
    simp (config := { maxSteps := 1000000 }) (disch := omega) only [go_sem, ↓reduceIte, Nat.reduceEqDiff, Nat.reduceAdd, Int.reduceToNat, reduceCtorEq, Nat.reduceLeDiff, Nat.reduceSub, Nat.reduceDiv, Nat.reduceMod, Nat.reduceMul, d1634, g1, g2, g3, g4]
    generalize hR : (tTxts (min t 8) [] fun l => Rd.num 200 fun r => Rd.num 200 fun m => Rd.ret (⟨id, (3 : Nat), (3 : Nat), f, 0, l, r, m⟩ : Req)).doc s e4 z4 = R
    have hkey : tReq.doc s 0 false = R := by
      unfold tReq
      simp only [Rd.doc, h1, h2, h3, h4, Bool.false_or, if_neg hk, if_true, hz2, hz3, hz4]
      exact hR
    refine Ev_inv (fun k st => ∃ (acc : List Txt) (j : Nat) (z : Bool), j ≤ s.length ∧ (∀ w ∈ acc, w.length ≤ 4000) ∧ (tTxts k acc fun l => Rd.num 200 fun r => Rd.num 200 fun m => Rd.ret (⟨id, (3 : Nat), (3 : Nat), f, 0, l, r, m⟩ : Req)).doc s j z = R ∧ acc.length + k = min t 8 ∧ st = cwS s id f t acc j z acc.length) ?_ (i := min t 8) ⟨[], e4, z4, b4.2, by simp, hR, by simp, by simp [cwS, wC]⟩
    rintro k st ⟨acc, j, y, hj0, hwd, h1, h2, rfl⟩
    cases k with
    | succ k =>
      simp only [tTxts, Rd.doc] at h1
      refine Ev_mono (cw_step hs b4.1 (by omega) hj0 (by omega) (by omega)) ?_
      rintro x st ⟨rfl, rfl⟩
      refine .inl ⟨rfl, k, by omega, _, _, _, (rdCT_le hj0).2, ?_, h1, by simp; omega, by simp⟩
      intro w hw
      rcases List.mem_append.1 hw with hw | hw
      · exact hwd w hw
      · rw [List.mem_singleton.1 hw]; exact (rdCT_le hj0).1
    | zero =>
      simp only [tTxts, Rd.doc] at h1
      rw [docG_of (hkey.trans h1.symm)]
      have g5 := cnum_run hs hj0 (bad := y)
      have b5 := rdC_le hj0
      have g6 := cnum_run hs b5.2 (bad := y || (rdC s j).2.2)
      have b6 := rdC_le b5.2
      have hx : acc.length = t ∨ acc.length < t ∧ acc.length = 8 := by omega
      have gp := rputQ_run (r := ⟨id, (3 : Nat), (3 : Nat), f, 0, acc, (rdC s j).1, (rdC s (rdC s j).2.1).1⟩) ⟨by simp only; omega, fun w hw => by have := hwd w hw; omega⟩
      simp only [putQA, reqS, Int.cast_ofNat_Int] at gp ⊢
      generalize ((y || (rdC s j).2.2) || (rdC s (rdC s j).2.1).2.2) = y9 at *
      unfold cwS
      cases acc with
      | nil =>
        simp only [List.length_nil] at h2
        have hn0 : t = 0 := by omega
        subst hn0
        clear hx
        simp only [wC, strs_nil] at gp ⊢
        rcases Bool.eq_false_or_eq_true (okQ ⟨id, 3, 3, f, 0, [], (rdC s j).1, (rdC s (rdC s j).2.1).1⟩) with ho | ho
        · rw [ho, if_pos rfl] at gp
          by_cases hq : encQ ⟨id, 3, 3, f, 0, [], (rdC s j).1, (rdC s (rdC s j).2.1).1⟩ = s
          · rw [hq] at gp
            cases y9
            · rw [if_pos ⟨rfl, ho, hq⟩]
              simp (config := { maxSteps := 1000000 }) (disch := omega) only [go_sem, ↓reduceIte, Nat.reduceEqDiff, Nat.reduceAdd, Int.reduceToNat, reduceCtorEq, Nat.reduceLeDiff, Nat.reduceSub, Nat.reduceDiv, Nat.reduceMod, Nat.reduceMul, d1634_b0, reqV, zReq, strs_nil, g5, g6, gp]
            · rw [if_neg (fun h => by cases h.1)]
              simp (config := { maxSteps := 1000000 }) (disch := omega) only [go_sem, ↓reduceIte, Nat.reduceEqDiff, Nat.reduceAdd, Int.reduceToNat, reduceCtorEq, Nat.reduceLeDiff, Nat.reduceSub, Nat.reduceDiv, Nat.reduceMod, Nat.reduceMul, d1634_b0, reqV, zReq, strs_nil, g5, g6, gp]
          · rw [if_neg (fun h => hq h.2.2)]
            have hb : (encQ ⟨id, 3, 3, f, 0, [], (rdC s j).1, (rdC s (rdC s j).2.1).1⟩ == s) = false := by simpa using hq
            cases y9 <;> simp (config := { maxSteps := 1000000 }) (disch := omega) only [go_sem, ↓reduceIte, Nat.reduceEqDiff, Nat.reduceAdd, Int.reduceToNat, reduceCtorEq, Nat.reduceLeDiff, Nat.reduceSub, Nat.reduceDiv, Nat.reduceMod, Nat.reduceMul, d1634_b0, reqV, zReq, strs_nil, g5, g6, gp, hb]
        · rw [ho, if_neg (by simp)] at gp
          rw [if_neg (fun h => by rw [ho] at h; cases h.2.1)]
          cases y9 <;> simp (config := { maxSteps := 1000000 }) (disch := omega) only [go_sem, ↓reduceIte, Nat.reduceEqDiff, Nat.reduceAdd, Int.reduceToNat, reduceCtorEq, Nat.reduceLeDiff, Nat.reduceSub, Nat.reduceDiv, Nat.reduceMod, Nat.reduceMul, d1634_b0, reqV, zReq, strs_nil, g5, g6, gp]
      | cons w0 ws =>
        simp only [wC]
        generalize w0 :: ws = acc at *
        rcases Bool.eq_false_or_eq_true (okQ ⟨id, 3, 3, f, 0, acc, (rdC s j).1, (rdC s (rdC s j).2.1).1⟩) with ho | ho
        · rw [ho, if_pos rfl] at gp
          by_cases hq : encQ ⟨id, 3, 3, f, 0, acc, (rdC s j).1, (rdC s (rdC s j).2.1).1⟩ = s
          · rw [hq] at gp
            cases y9
            · rw [if_pos ⟨rfl, ho, hq⟩]
              rcases hx with hx | hx <;> simp (config := { maxSteps := 1000000 }) (disch := omega) only [go_sem, ↓reduceIte, Nat.reduceEqDiff, Nat.reduceAdd, Int.reduceToNat, reduceCtorEq, Nat.reduceLeDiff, Nat.reduceSub, Nat.reduceDiv, Nat.reduceMod, Nat.reduceMul, d1634_b0, reqV, zReq, strs_nil, g5, g6, gp]
            · rw [if_neg (fun h => by cases h.1)]
              rcases hx with hx | hx <;> simp (config := { maxSteps := 1000000 }) (disch := omega) only [go_sem, ↓reduceIte, Nat.reduceEqDiff, Nat.reduceAdd, Int.reduceToNat, reduceCtorEq, Nat.reduceLeDiff, Nat.reduceSub, Nat.reduceDiv, Nat.reduceMod, Nat.reduceMul, d1634_b0, reqV, zReq, strs_nil, g5, g6, gp]
          · rw [if_neg (fun h => hq h.2.2)]
            have hb : (encQ ⟨id, 3, 3, f, 0, acc, (rdC s j).1, (rdC s (rdC s j).2.1).1⟩ == s) = false := by simpa using hq
            rcases hx with hx | hx <;> cases y9 <;> simp (config := { maxSteps := 1000000 }) (disch := omega) only [go_sem, ↓reduceIte, Nat.reduceEqDiff, Nat.reduceAdd, Int.reduceToNat, reduceCtorEq, Nat.reduceLeDiff, Nat.reduceSub, Nat.reduceDiv, Nat.reduceMod, Nat.reduceMul, d1634_b0, reqV, zReq, strs_nil, g5, g6, gp, hb]
        · rw [ho, if_neg (by simp)] at gp
          rw [if_neg (fun h => by rw [ho] at h; cases h.2.1)]
          rcases hx with hx | hx <;> cases y9 <;> simp (config := { maxSteps := 1000000 }) (disch := omega) only [go_sem, ↓reduceIte, Nat.reduceEqDiff, Nat.reduceAdd, Int.reduceToNat, reduceCtorEq, Nat.reduceLeDiff, Nat.reduceSub, Nat.reduceDiv, Nat.reduceMod, Nat.reduceMul, d1634_b0, reqV, zReq, strs_nil, g5, g6, gp]
  · have hkey : tReq.doc s 0 false = (⟨id, kind, 0, 0, 0, [], 0, 0⟩, e2, z2) := by
      unfold tReq
      simp only [Rd.doc, h1, h2, Bool.false_or, if_neg hk, if_neg hk3, hz2]
    rw [docG_of hkey]
    have gp := rputQ_run (r := ⟨id, kind, 0, 0, 0, [], 0, 0⟩) ⟨by simp, by simp⟩
    simp only [putQA, reqS, strs_nil] at gp
    by_cases hk0 : kind = 0
    · subst hk0
      simp only [Int.natCast_zero] at gp ⊢
      rcases Bool.eq_false_or_eq_true (okQ ⟨id, 0, 0, 0, 0, [], 0, 0⟩) with ho | ho
      · rw [ho, if_pos rfl] at gp
        by_cases hq : encQ ⟨id, 0, 0, 0, 0, [], 0, 0⟩ = s
        · rw [hq] at gp
          cases z2
          · rw [if_pos ⟨rfl, ho, hq⟩]
            simp (config := { maxSteps := 1000000 }) (disch := omega) only [go_sem, ↓reduceIte, Nat.reduceEqDiff, Nat.reduceAdd, Int.reduceToNat, reduceCtorEq, Nat.reduceLeDiff, Nat.reduceSub, Nat.reduceDiv, Nat.reduceMod, Nat.reduceMul, d1634, g1, g2, reqV, zReq, strs_nil, gp]
          · rw [if_neg (fun h => by cases h.1)]
            simp (config := { maxSteps := 1000000 }) (disch := omega) only [go_sem, ↓reduceIte, Nat.reduceEqDiff, Nat.reduceAdd, Int.reduceToNat, reduceCtorEq, Nat.reduceLeDiff, Nat.reduceSub, Nat.reduceDiv, Nat.reduceMod, Nat.reduceMul, d1634, g1, g2, reqV, zReq, strs_nil, gp]
        · rw [if_neg (fun h => hq h.2.2)]
          have hb : (encQ ⟨id, 0, 0, 0, 0, [], 0, 0⟩ == s) = false := by simpa using hq
          cases z2 <;> simp (config := { maxSteps := 1000000 }) (disch := omega) only [go_sem, ↓reduceIte, Nat.reduceEqDiff, Nat.reduceAdd, Int.reduceToNat, reduceCtorEq, Nat.reduceLeDiff, Nat.reduceSub, Nat.reduceDiv, Nat.reduceMod, Nat.reduceMul, d1634, g1, g2, reqV, zReq, strs_nil, gp, hb]
      · rw [ho, if_neg (by simp)] at gp
        rw [if_neg (fun h => by rw [ho] at h; cases h.2.1)]
        cases z2 <;> simp (config := { maxSteps := 1000000 }) (disch := omega) only [go_sem, ↓reduceIte, Nat.reduceEqDiff, Nat.reduceAdd, Int.reduceToNat, reduceCtorEq, Nat.reduceLeDiff, Nat.reduceSub, Nat.reduceDiv, Nat.reduceMod, Nat.reduceMul, d1634, g1, g2, reqV, zReq, strs_nil, gp]
    · have hk5 : 4 ≤ kind := by omega
      rcases Bool.eq_false_or_eq_true (okQ ⟨id, kind, 0, 0, 0, [], 0, 0⟩) with ho | ho
      · rw [ho, if_pos rfl] at gp
        by_cases hq : encQ ⟨id, kind, 0, 0, 0, [], 0, 0⟩ = s
        · rw [hq] at gp
          cases z2
          · rw [if_pos ⟨rfl, ho, hq⟩]
            simp (config := { maxSteps := 1000000 }) (disch := omega) only [go_sem, ↓reduceIte, Nat.reduceEqDiff, Nat.reduceAdd, Int.reduceToNat, reduceCtorEq, Nat.reduceLeDiff, Nat.reduceSub, Nat.reduceDiv, Nat.reduceMod, Nat.reduceMul, d1634, g1, g2, reqV, zReq, strs_nil, gp]
          · rw [if_neg (fun h => by cases h.1)]
            simp (config := { maxSteps := 1000000 }) (disch := omega) only [go_sem, ↓reduceIte, Nat.reduceEqDiff, Nat.reduceAdd, Int.reduceToNat, reduceCtorEq, Nat.reduceLeDiff, Nat.reduceSub, Nat.reduceDiv, Nat.reduceMod, Nat.reduceMul, d1634, g1, g2, reqV, zReq, strs_nil, gp]
        · rw [if_neg (fun h => hq h.2.2)]
          have hb : (encQ ⟨id, kind, 0, 0, 0, [], 0, 0⟩ == s) = false := by simpa using hq
          cases z2 <;> simp (config := { maxSteps := 1000000 }) (disch := omega) only [go_sem, ↓reduceIte, Nat.reduceEqDiff, Nat.reduceAdd, Int.reduceToNat, reduceCtorEq, Nat.reduceLeDiff, Nat.reduceSub, Nat.reduceDiv, Nat.reduceMod, Nat.reduceMul, d1634, g1, g2, reqV, zReq, strs_nil, gp, hb]
      · rw [ho, if_neg (by simp)] at gp
        rw [if_neg (fun h => by rw [ho] at h; cases h.2.1)]
        cases z2 <;> simp (config := { maxSteps := 1000000 }) (disch := omega) only [go_sem, ↓reduceIte, Nat.reduceEqDiff, Nat.reduceAdd, Int.reduceToNat, reduceCtorEq, Nat.reduceLeDiff, Nat.reduceSub, Nat.reduceDiv, Nat.reduceMod, Nat.reduceMul, d1634, g1, g2, reqV, zReq, strs_nil, gp]
end Go.Proofs.Ytcfhocnbpplecaa
