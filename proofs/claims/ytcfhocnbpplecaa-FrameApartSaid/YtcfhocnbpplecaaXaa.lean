/- Layer 22's laws: FrameBack. -/
import Derived.Test.YtcfhocnbpplecaaXz
namespace Go.Proofs.Ytcfhocnbpplecaa
set_option linter.unusedSimpArgs false
set_option linter.unusedVariables false
set_option maxHeartbeats 4000000
set_option maxRecDepth 100000
theorem two_len {a b : Int} (ha : 0 ≤ a ∧ a ≤ 2147483647) (hb : 0 ≤ b ∧ b ≤ 2147483647) : (encI [a, b]).length ≤ 10 := (two_lay ha hb).2.2
theorem encQ_len {x : Req} (h : okQ x = true) : (encQ x).length ≤ 1000 := by
  obtain ⟨c0, hk⟩ : ReqOk x := of_decide_eq_true h
  unfold encQ
  have h1 := two_len (a := x.id) (b := x.kind) c0 (by rcases hk with h | h | h <;> have := h.1 <;> omega)
  rcases hk with h | h | h
  · obtain ⟨q1, q2, q3, q4, q5, q6, q7⟩ := h
    have h2 := two_len (a := x.frm) (b := x.to) (by omega) (by omega)
    rw [if_pos q1, List.length_append]; omega
  · obtain ⟨q1, q2, q3, q4, q5, q6, q7, q8⟩ := h
    have h2 := two_len (a := x.frm) (b := x.words.length) (by omega) (by omega)
    have h3 := two_len (a := x.radius) (b := x.most) (by omega) (by omega)
    have h4 := encTs_len q8
    rw [if_neg (by omega), if_pos q1, List.length_append, List.length_append, List.length_append]; omega
  · obtain ⟨q1, _⟩ := h
    rw [if_neg (by omega), if_neg (by omega), List.append_nil]; omega
theorem encR_len {x : Rep} (h : okR x = true) : (encR x).length ≤ 2000 := by
  obtain ⟨c0, c1, c2, c3, c4, c5, c6, c7⟩ : RepOk x := of_decide_eq_true h
  unfold encR
  have h1 := two_len (a := x.id) (b := x.code) c0 (by omega)
  have h2 := (three_lay (a := (fN x.found : Nat)) (b := x.d) (c := x.hits.length) (by unfold fN; split <;> omega) (by omega) (by omega)).2.2
  have h3 := encH_len c7
  split
  · rw [List.length_append, List.length_append]; omega
  · rw [List.append_nil]; omega
theorem idA_enc {n : Int} (h : 0 ≤ n ∧ n ≤ 2147483647) {s r : Txt} (hs : s = encN n.toNat ++ r) : idA s = [.int .i64 n, .bool true] := by
  have := rdN_enc (a := []) (r := r) (n := n.toNat) (by omega)
  simp only [List.nil_append, List.length_nil] at this
  unfold idA
  rw [hs, this]
  simp only
  rw [show ((n.toNat : Nat) : Int) = n by omega]
theorem backQ (x : Req) : ∃ (a : Txt) (e f n : Int) (b : Bool) (y : Req), putQA x = [.str a, .int .i64 e] ∧ a.length ≤ 1000 ∧ getQA a = [.agg (reqV y), .int .i64 f] ∧ y.words.length ≤ 1000000 ∧ idA a = [.int .i64 n, .bool b] ∧ (e = 1 ∨ e = 0 ∧ f = 0 ∧ y = x ∧ b = true ∧ n = x.id) := by
  cases h : okQ x with
  | false =>
    obtain ⟨y, _, e, _, _, _, a1, a2, _⟩ := sameQ_of []
    exact ⟨[], 1, e, 0, false, y, by rw [putQA, h]; rfl, by simp, a1, a2.1, by rw [idA, show rdN [] 0 = none from by decide], .inl rfl⟩
  | true =>
    have hg := formQ.iff.2 ⟨h, rfl⟩
    refine ⟨encQ x, 0, 0, x.id, true, x, by rw [putQA, if_pos h], encQ_len h, by rw [getQA, hg], (alG_okW hg).1, ?_, .inr ⟨rfl, rfl, rfl, rfl, rfl⟩⟩
    obtain ⟨r, hr⟩ : ∃ r, encQ x = encN x.id.toNat ++ r := by
      unfold encQ
      rw [encI_cons, List.append_assoc]
      exact ⟨_, rfl⟩
    exact idA_enc (of_decide_eq_true h : ReqOk x).1 hr
theorem backR (x : Rep) : ∃ (a : Txt) (e f n : Int) (b : Bool) (y : Rep), putRA x = [.str a, .int .i64 e] ∧ a.length ≤ 2000 ∧ getRA a = [.agg (repV y), .int .i64 f] ∧ y.hits.length ≤ 1000000 ∧ idA a = [.int .i64 n, .bool b] ∧ (e = 1 ∨ e = 0 ∧ f = 0 ∧ y = x ∧ b = true ∧ n = x.id) := by
  cases h : okR x with
  | false =>
    obtain ⟨y, _, e, _, _, _, a1, a2, _⟩ := sameR_of []
    exact ⟨[], 1, e, 0, false, y, by rw [putRA, h]; rfl, by simp, a1, a2, by rw [idA, show rdN [] 0 = none from by decide], .inl rfl⟩
  | true =>
    have hg := formR.iff.2 ⟨h, rfl⟩
    refine ⟨encR x, 0, 0, x.id, true, x, by rw [putRA, if_pos h], encR_len h, by rw [getRA, hg], alG_hits hg, ?_, .inr ⟨rfl, rfl, rfl, rfl, rfl⟩⟩
    obtain ⟨r, hr⟩ : ∃ r, encR x = encN x.id.toNat ++ r := by
      unfold encR
      rw [encI_cons, List.append_assoc]
      exact ⟨_, rfl⟩
    exact idA_enc (of_decide_eq_true h : RepOk x).1 hr
theorem back_law {x : Req} (hx : x.fits) {y : Rep} (hy : y.fits) : runP tabM 1628 [.agg (reqS x), .agg (repS y)] [] = some (.bool true, []) := by
  refine runP_fn (show tabM 1628 = _ from t1628) rfl ?_
  have hl := hx.2.2.2.2.2.2.2
  have hyl := hy.2.2.2.1
  obtain ⟨b0, hb, hbig⟩ := big_run hl.1 hl.2
  have g0 := up hb
  simp only [qryS] at g0
  cases b0 with
  | true =>
    simp only [reqS, repS]
    simp (config := { maxSteps := 1000000 }) (disch := omega) only [go_sem, ↓reduceIte, Nat.reduceEqDiff, Nat.reduceAdd, Int.reduceToNat, reduceCtorEq, Nat.reduceLeDiff, Nat.reduceSub, Nat.reduceDiv, Nat.reduceMod, Nat.reduceMul, d1628, g0]
  | false =>
  obtain ⟨w1, w2⟩ := hbig rfl
  have hw : okW x.words := ⟨by omega, fun w h => by have := w2 w h; omega⟩
  by_cases c2 : y.hits.length ≤ 150
  case neg =>
    simp only [reqS, repS]
    simp (config := { maxSteps := 1000000 }) (disch := omega) only [go_sem, ↓reduceIte, Nat.reduceEqDiff, Nat.reduceAdd, Int.reduceToNat, reduceCtorEq, Nat.reduceLeDiff, Nat.reduceSub, Nat.reduceDiv, Nat.reduceMod, Nat.reduceMul, d1628, g0]
  obtain ⟨a, e, f, n, b, z, a1, a2, a3, a4, a5, a6⟩ := backQ x
  obtain ⟨a', e', f', n', b', z', b1, b2, b3, b4, b5, b6⟩ := backR y
  have g1 := up (putQ_run (r := x) hw)
  have g2 := getQM (s := a) (by omega)
  have g3 := up (id_run (s := a) (by omega))
  have g4 := up (putR_run (r := y) (by omega))
  have g5 := getRM (s := a') (by omega)
  have g6 := up (id_run (s := a') (by omega))
  have g7 := framed_run
  have g8 := up (samer_run (a := x) (b := x) (by omega) (by omega))
  have g9 := up (samerep_run (a := y) (b := y) (by omega) (by omega))
  rw [show (x == x) = true from beq_self_eq_true x] at g8
  rw [show (y == y) = true from beq_self_eq_true y] at g9
  rw [a1] at g1; rw [a3] at g2; rw [a5] at g3; rw [b1] at g4; rw [b3] at g5; rw [b5] at g6
  simp only [reqS, reqV, repS, repV] at g1 g2 g3 g4 g5 g6 g8 g9 ⊢
  rcases a6 with rfl | ⟨rfl, rfl, rfl, rfl, rfl⟩ <;> rcases b6 with rfl | ⟨rfl, rfl, rfl, rfl, rfl⟩ <;>
    simp (config := { maxSteps := 1000000 }) (disch := omega) only [go_sem, ↓reduceIte, Nat.reduceEqDiff, Nat.reduceAdd, Int.reduceToNat, reduceCtorEq, Nat.reduceLeDiff, Nat.reduceSub, Nat.reduceDiv, Nat.reduceMod, Nat.reduceMul, d1628, g0, g1, g2, g3, g4, g5, g6, g7, g8, g9]
end Go.Proofs.Ytcfhocnbpplecaa
