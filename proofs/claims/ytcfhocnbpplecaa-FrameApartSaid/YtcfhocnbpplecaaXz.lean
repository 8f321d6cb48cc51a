/- Layer 22's laws: FrameSame. -/
import Derived.Test.YtcfhocnbpplecaaXy
namespace Go.Proofs.Ytcfhocnbpplecaa
set_option linter.unusedSimpArgs false
set_option linter.unusedVariables false
set_option maxHeartbeats 4000000
set_option maxRecDepth 100000
theorem putQA_two (x : Req) : ∃ (p : Txt) (q : Int), putQA x = [.str p, .int .i64 q] := by
  unfold putQA; split
  · exact ⟨_, _, rfl⟩
  · exact ⟨_, _, rfl⟩
theorem putRA_two (x : Rep) : ∃ (p : Txt) (q : Int), putRA x = [.str p, .int .i64 q] := by
  unfold putRA; split
  · exact ⟨_, _, rfl⟩
  · exact ⟨_, _, rfl⟩
theorem alG_okW {s : Txt} {y : Req} (h : alG tReq okQ s = some y) : okW y.words := by
  rw [alG_alW] at h
  cases h2 : alW tReq s with
  | none => rw [h2] at h; cases h
  | some z =>
    rw [h2] at h
    simp only at h
    split at h
    · injection h with h; subst h
      exact alW_okW h2
    · cases h
theorem sameQ_of (s : Txt) : ∃ (y y' : Req) (e i q : Int) (p : Txt), getQA s = [.agg (reqV y), .int .i64 e] ∧ okW y.words ∧ putQA y = [.str p, .int .i64 q] ∧ getQA (s ++ [0]) = [.agg (reqV y'), .int .i64 i] ∧ y'.words.length ≤ 1000000 ∧ (e = 220 ∨ e = 0 ∧ q = 0 ∧ p = s ∧ i = 220) := by
  cases h : alG tReq okQ s with
  | none =>
    obtain ⟨p, q, hp⟩ := putQA_two zReq
    cases h' : alG tReq okQ (s ++ [0]) with
    | none => exact ⟨zReq, zReq, 220, 220, q, p, by rw [getQA, h], ⟨by simp [zReq], by simp [zReq]⟩, hp, by rw [getQA, h'], by simp [zReq], .inl rfl⟩
    | some y' => exact ⟨zReq, y', 220, 0, q, p, by rw [getQA, h], ⟨by simp [zReq], by simp [zReq]⟩, hp, by rw [getQA, h'], (alG_okW h').1, .inl rfl⟩
  | some y =>
    obtain ⟨h1, h2⟩ := formQ.iff.1 h
    have h3 := formQ.more h (r := [0]) (by simp)
    exact ⟨y, zReq, 0, 220, 0, s, by rw [getQA, h], alG_okW h, by rw [putQA, if_pos h1, ← h2], by rw [getQA, h3], by simp [zReq], .inr ⟨rfl, rfl, rfl, rfl⟩⟩
theorem alG_hits {s : Txt} {y : Rep} (h : alG tRep okR s = some y) : y.hits.length ≤ 1000000 := by
  have h2 := (of_decide_eq_true (formR.iff.1 h).1 : RepOk y).2.2.2.1
  omega
theorem sameR_of (s : Txt) : ∃ (y y' : Rep) (e i q : Int) (p : Txt), getRA s = [.agg (repV y), .int .i64 e] ∧ y.hits.length ≤ 1000000 ∧ putRA y = [.str p, .int .i64 q] ∧ getRA (s ++ [0]) = [.agg (repV y'), .int .i64 i] ∧ y'.hits.length ≤ 1000000 ∧ (e = 220 ∨ e = 0 ∧ q = 0 ∧ p = s ∧ i = 220) := by
  cases h : alG tRep okR s with
  | none =>
    obtain ⟨p, q, hp⟩ := putRA_two zR
    cases h' : alG tRep okR (s ++ [0]) with
    | none => exact ⟨zR, zR, 220, 220, q, p, by rw [getRA, h], by simp [zR], hp, by rw [getRA, h'], by simp [zR], .inl rfl⟩
    | some y' => exact ⟨zR, y', 220, 0, q, p, by rw [getRA, h], by simp [zR], hp, by rw [getRA, h'], alG_hits h', .inl rfl⟩
  | some y =>
    obtain ⟨h1, h2⟩ := formR.iff.1 h
    have h3 := formR.more h (r := [0]) (by simp)
    exact ⟨y, zR, 0, 220, 0, s, by rw [getRA, h], alG_hits h, by rw [putRA, if_pos h1, ← h2], by rw [getRA, h3], by simp [zR], .inr ⟨rfl, rfl, rfl, rfl⟩⟩
theorem same_law {s : Txt} (hs : s.length ≤ 9223372036854775807) : runP tabM 1629 [.str s] [] = some (.bool true, []) := by
  refine runP_fn (show tabM 1629 = _ from t1629) rfl ?_
  by_cases c2 : s.length ≤ 500
  case neg => simp (config := { maxSteps := 1000000 }) (disch := omega) only [go_sem, ↓reduceIte, Nat.reduceEqDiff, Nat.reduceAdd, Int.reduceToNat, reduceCtorEq, Nat.reduceLeDiff, Nat.reduceSub, Nat.reduceDiv, Nat.reduceMod, Nat.reduceMul, d1629]
  obtain ⟨y, y', e, i, q, p, a1, a2, a3, a4, a5, a6⟩ := sameQ_of s
  obtain ⟨r, r', e2, i2, q2, p2, b1, b2, b3, b4, b5, b6⟩ := sameR_of s
  have g1 := getQM (s := s) (by omega)
  have g2 := up (putQ_run (r := y) a2)
  have g3 := getRM (s := s) (by omega)
  have g4 := up (putR_run (r := r) b2)
  have g5 := getQM (s := s ++ [0]) (by simp; omega)
  have g6 := getRM (s := s ++ [0]) (by simp; omega)
  have g7 := framed_run
  have a2l := a2.1
  rw [a1] at g1; rw [a3] at g2; rw [b1] at g3; rw [b3] at g4; rw [a4] at g5; rw [b4] at g6
  simp only [reqS, reqV, repS, repV] at g1 g2 g3 g4 g5 g6
  rcases a6 with rfl | ⟨rfl, rfl, rfl, rfl⟩ <;> rcases b6 with rfl | ⟨rfl, rfl, rfl, rfl⟩ <;>
    simp (config := { maxSteps := 1000000 }) (disch := omega) only [go_sem, ↓reduceIte, Nat.reduceEqDiff, Nat.reduceAdd, Int.reduceToNat, reduceCtorEq, Nat.reduceLeDiff, Nat.reduceSub, Nat.reduceDiv, Nat.reduceMod, Nat.reduceMul, d1629, g1, g2, g3, g4, g5, g6, g7]
end Go.Proofs.Ytcfhocnbpplecaa
