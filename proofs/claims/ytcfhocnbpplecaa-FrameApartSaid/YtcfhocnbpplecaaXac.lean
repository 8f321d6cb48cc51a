/- Layer 22's laws: FrameApart. -/
import Derived.Test.YtcfhocnbpplecaaXaa
namespace Go.Proofs.Ytcfhocnbpplecaa
set_option linter.unusedSimpArgs false
set_option linter.unusedVariables false
set_option maxHeartbeats 4000000
set_option maxRecDepth 100000
theorem Form.apart {α : Type} [DecidableEq α] {t : Rd α} {ok : α → Bool} {enc : α → Txt} (F : Form t ok enc) {a b : α} (ha : ok a = true) (hb : ok b = true) : ((enc b).take (enc a).length == enc a) = (a == b) := by
  rw [Bool.eq_iff_iff]
  simp only [beq_iff_eq]
  constructor
  · intro h
    have := F.pre ha hb (r := (enc b).drop (enc a).length) (by
      conv => lhs; rw [← List.take_append_drop (enc a).length (enc b), h])
    exact this.symm
  · rintro rfl
    exact List.take_length
theorem apartQ (a b : Req) : ∃ (s t : Txt) (e f : Int), putQA a = [.str s, .int .i64 e] ∧ putQA b = [.str t, .int .i64 f] ∧ s.length ≤ 1000 ∧ t.length ≤ 1000 ∧ (e = 1 ∨ e = 0 ∧ f = 1 ∨ e = 0 ∧ f = 0 ∧ (t.take s.length == s) = (a == b)) := by
  cases ha : okQ a with
  | false =>
    cases hb : okQ b with
    | false => exact ⟨[], [], 1, 1, by rw [putQA, ha]; rfl, by rw [putQA, hb]; rfl, by simp, by simp, .inl rfl⟩
    | true => exact ⟨[], encQ b, 1, 0, by rw [putQA, ha]; rfl, by rw [putQA, if_pos hb], by simp, encQ_len hb, .inl rfl⟩
  | true =>
    cases hb : okQ b with
    | false => exact ⟨encQ a, [], 0, 1, by rw [putQA, if_pos ha], by rw [putQA, hb]; rfl, encQ_len ha, by simp, .inr (.inl ⟨rfl, rfl⟩)⟩
    | true => exact ⟨encQ a, encQ b, 0, 0, by rw [putQA, if_pos ha], by rw [putQA, if_pos hb], encQ_len ha, encQ_len hb, .inr (.inr ⟨rfl, rfl, formQ.apart ha hb⟩)⟩
theorem apartR (a b : Rep) : ∃ (s t : Txt) (e f : Int), putRA a = [.str s, .int .i64 e] ∧ putRA b = [.str t, .int .i64 f] ∧ s.length ≤ 2000 ∧ t.length ≤ 2000 ∧ (e = 1 ∨ e = 0 ∧ f = 1 ∨ e = 0 ∧ f = 0 ∧ (t.take s.length == s) = (a == b)) := by
  cases ha : okR a with
  | false =>
    cases hb : okR b with
    | false => exact ⟨[], [], 1, 1, by rw [putRA, ha]; rfl, by rw [putRA, hb]; rfl, by simp, by simp, .inl rfl⟩
    | true => exact ⟨[], encR b, 1, 0, by rw [putRA, ha]; rfl, by rw [putRA, if_pos hb], by simp, encR_len hb, .inl rfl⟩
  | true =>
    cases hb : okR b with
    | false => exact ⟨encR a, [], 0, 1, by rw [putRA, if_pos ha], by rw [putRA, hb]; rfl, encR_len ha, by simp, .inr (.inl ⟨rfl, rfl⟩)⟩
    | true => exact ⟨encR a, encR b, 0, 0, by rw [putRA, if_pos ha], by rw [putRA, if_pos hb], encR_len ha, encR_len hb, .inr (.inr ⟨rfl, rfl, formR.apart ha hb⟩)⟩
end Go.Proofs.Ytcfhocnbpplecaa

namespace Go.Proofs.Ytcfhocnbpplecaa
set_option linter.unusedSimpArgs false
set_option linter.unusedVariables false
set_option maxHeartbeats 4000000
set_option maxRecDepth 100000
theorem five {s t : Txt} {e f : Int} {q : Bool} (h : e = 1 ∨ e = 0 ∧ f = 1 ∨ e = 0 ∧ f = 0 ∧ (t.take s.length == s) = q) : e = 1 ∨ e = 0 ∧ f = 1 ∨ e = 0 ∧ f = 0 ∧ (t.length : Int) < s.length ∨ e = 0 ∧ f = 0 ∧ (s.length : Int) ≤ t.length ∧ q = true ∧ t.take s.length = s ∨ e = 0 ∧ f = 0 ∧ (s.length : Int) ≤ t.length ∧ q = false ∧ (t.take s.length == s) = false := by
  rcases h with h | h | ⟨h, g, k⟩
  · exact .inl h
  · exact .inr (.inl h)
  · by_cases l : (t.length : Int) < s.length
    · exact .inr (.inr (.inl ⟨h, g, l⟩))
    · replace l : (s.length : Int) ≤ t.length := by omega
      cases q with
      | true => exact .inr (.inr (.inr (.inl ⟨h, g, l, rfl, by simpa using k⟩)))
      | false => exact .inr (.inr (.inr (.inr ⟨h, g, l, rfl, k⟩)))
theorem apart_law {a b : Req} (ha : a.fits) (hb : b.fits) {x y : Rep} (hx : x.fits) (hy : y.fits) : runP tabM 1630 [.agg (reqS a), .agg (reqS b), .agg (repS x), .agg (repS y)] [] = some (.bool true, []) := by
  refine runP_fn (show tabM 1630 = _ from t1630) rfl ?_
  have hal := ha.2.2.2.2.2.2.2
  have hbl := hb.2.2.2.2.2.2.2
  have hxl := hx.2.2.2.1
  have hyl := hy.2.2.2.1
  obtain ⟨z, hz, hbz⟩ := big_run hal.1 hal.2
  obtain ⟨z', hz', hbz'⟩ := big_run hbl.1 hbl.2
  have g0 := up hz
  have g0' := up hz'
  simp only [qryS] at g0 g0'
  cases z with
  | true =>
    simp only [reqS, repS]
    simp (config := { maxSteps := 1000000 }) (disch := omega) only [go_sem, ↓reduceIte, Nat.reduceEqDiff, Nat.reduceAdd, Int.reduceToNat, reduceCtorEq, Nat.reduceLeDiff, Nat.reduceSub, Nat.reduceDiv, Nat.reduceMod, Nat.reduceMul, d1630, g0]
  | false =>
  cases z' with
  | true =>
    simp only [reqS, repS]
    simp (config := { maxSteps := 1000000 }) (disch := omega) only [go_sem, ↓reduceIte, Nat.reduceEqDiff, Nat.reduceAdd, Int.reduceToNat, reduceCtorEq, Nat.reduceLeDiff, Nat.reduceSub, Nat.reduceDiv, Nat.reduceMod, Nat.reduceMul, d1630, g0, g0']
  | false =>
  obtain ⟨w1, w2⟩ := hbz rfl
  obtain ⟨w3, w4⟩ := hbz' rfl
  by_cases c2 : x.hits.length ≤ 150
  case neg =>
    simp only [reqS, repS]
    simp (config := { maxSteps := 1000000 }) (disch := omega) only [go_sem, ↓reduceIte, Nat.reduceEqDiff, Nat.reduceAdd, Int.reduceToNat, reduceCtorEq, Nat.reduceLeDiff, Nat.reduceSub, Nat.reduceDiv, Nat.reduceMod, Nat.reduceMul, d1630, g0, g0']
  by_cases c3 : y.hits.length ≤ 150
  case neg =>
    simp only [reqS, repS]
    simp (config := { maxSteps := 1000000 }) (disch := omega) only [go_sem, ↓reduceIte, Nat.reduceEqDiff, Nat.reduceAdd, Int.reduceToNat, reduceCtorEq, Nat.reduceLeDiff, Nat.reduceSub, Nat.reduceDiv, Nat.reduceMod, Nat.reduceMul, d1630, g0, g0']
  obtain ⟨s, t, e, f, a1, a2, a3, a4, a5⟩ := apartQ a b
  obtain ⟨u, v, e', f', b1, b2, b3, b4, b5⟩ := apartR x y
  have g1 := up (putQ_run (r := a) ⟨by omega, fun w h => by have := w2 w h; omega⟩)
  have g2 := up (putQ_run (r := b) ⟨by omega, fun w h => by have := w4 w h; omega⟩)
  have g3 := up (putR_run (r := x) (by omega))
  have g4 := up (putR_run (r := y) (by omega))
  have g5 := up (samer_run (a := a) (b := b) (by omega) (by omega))
  have g6 := up (samerep_run (a := x) (b := y) (by omega) (by omega))
  have g7 := framed_run
  rw [a1] at g1; rw [a2] at g2; rw [b1] at g3; rw [b2] at g4
  generalize (a == b) = q1 at *
  generalize (x == y) = q2 at *
  simp only [reqS, repS] at g1 g2 g3 g4 g5 g6 ⊢
  rcases five a5 with rfl | ⟨rfl, rfl⟩ | ⟨rfl, rfl, l1⟩ | ⟨rfl, rfl, l1, rfl, a6⟩ | ⟨rfl, rfl, l1, rfl, a6⟩ <;> rcases five b5 with rfl | ⟨rfl, rfl⟩ | ⟨rfl, rfl, l2⟩ | ⟨rfl, rfl, l2, rfl, b6⟩ | ⟨rfl, rfl, l2, rfl, b6⟩ <;>
    simp (config := { maxSteps := 1000000 }) (disch := omega) only [go_sem, ↓reduceIte, Nat.reduceEqDiff, Nat.reduceAdd, Int.reduceToNat, reduceCtorEq, Nat.reduceLeDiff, Nat.reduceSub, Nat.reduceDiv, Nat.reduceMod, Nat.reduceMul, d1630, g0, g0', g1, g2, g3, g4, g5, g6, g7, *]
end Go.Proofs.Ytcfhocnbpplecaa
