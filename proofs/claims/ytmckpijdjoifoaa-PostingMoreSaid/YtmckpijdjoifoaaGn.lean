/- Graphs by definition: what is normal. -/
import Derived.Test.YtmckpijdjoifoaaGb
import Derived.Test.YtmckpijdjoifoaaHu
import Derived.Test.YtmckpijdjoifoaaHx
namespace Go.Proofs.Ytmckpijdjoifoaa
set_option linter.unusedSimpArgs false
set_option linter.unusedVariables false
set_option maxHeartbeats 4000000
set_option maxRecDepth 100000
def wi (W : Wds) (i : Nat) : List Txt := (W.getD i none).getD []
theorem gck_nil {n : Int} {W : Wds} (hg : okG ⟨n, [], W⟩) : runP tab 1214 [.agg [.int .i64 n, .sl 1 [], .sl 1 (wcs W)]] [] = some (.bool (okB ⟨n, [], W⟩), []) := by
  refine runP_fn t1214 rfl ?_
  have hw := hg.w
  have hr : ∀ i, i < W.length → (wi W i).length ≤ 20 := hg.r
  have ht : ∀ i, i < W.length → ∀ s ∈ wi W i, s.length ≤ 50 := hg.t
  have eo : okB ⟨n, [], W⟩ = (decide ((1 ≤ n ∧ n ≤ 200) ∧ (W.length : Int) = n) && ((List.range W.length).all fun i => wrdB (wi W i))) := by
    unfold okB
    simp only [List.length_nil, Nat.zero_le, true_and, List.all_nil, Bool.true_and]; rfl
  rw [eo]
  by_cases c1 : 1 ≤ n
  case neg =>
    rw [decide_eq_false (by omega), Bool.false_and]
    simp (config := { maxSteps := 1000000 }) (disch := omega) only [go_sem, ↓reduceIte, Nat.reduceEqDiff, Nat.reduceAdd, d1214]
  by_cases c2 : n ≤ 200
  case neg =>
    rw [decide_eq_false (by omega), Bool.false_and]
    simp (config := { maxSteps := 1000000 }) (disch := omega) only [go_sem, ↓reduceIte, Nat.reduceEqDiff, Nat.reduceAdd, d1214]
  by_cases c4 : (W.length : Int) = n
  case neg =>
    rw [decide_eq_false (by omega), Bool.false_and]
    simp (config := { maxSteps := 1000000 }) (disch := omega) only [go_sem, ↓reduceIte, Nat.reduceEqDiff, Nat.reduceAdd, Nat.reduceLeDiff, d1214, c4]
  rw [decide_eq_true ⟨⟨c1, c2⟩, c4⟩, Bool.true_and]
  simp (config := { maxSteps := 1000000 }) (disch := omega) only [go_sem, ↓reduceIte, Nat.reduceEqDiff, Nat.reduceAdd, Nat.reduceLeDiff, d1214, c4]
  refine Ev_loop0 (fun i => ⟨[(1, .ref 0 0), (30, .sl 1 []), (31, .int .i64 0), (32, .int .i64 (i : Int))], [.row false [.int .i64 n, .sl 1 [], .sl 1 (wcs W)]], 0, [(0, 1, [1, 30, 31, 32], [(1, 0)])]⟩) 0 (by simp) (fun i hi => absurd hi (Nat.not_lt_zero _)) ?_
  simp (config := { maxSteps := 1000000 }) (disch := omega) only [go_sem, ↓reduceIte, Nat.reduceEqDiff, Nat.reduceAdd, reduceCtorEq, d1214_b0]
  have hrow := fun (i : Nat) (hi : i < W.length) => (show rdc ((wcs W).drop i) none = some (wc (W.getD i none)) ∧ runP tab 1221 [.sl 1 (strs (wi W i)), .clo 1222 [] []] [] = some (.bool ((wi W i).all wordB), []) ∧ (wi W i).length ≤ 20 from
    ⟨wcs_at hi, all_run (by have := hr i hi; omega) (fun s hs => by have := ht i hi s hs; omega), hr i hi⟩)
  rcases first_ix' (fun i => wrdB (wi W i) = true) W.length with hw' | ⟨m, m1, m2, m3⟩
  · have eb : ((List.range W.length).all fun i => wrdB (wi W i)) = true := by
      rw [List.all_eq_true]
      intro i hi
      exact hw' i (by simpa using hi)
    rw [eb]
    refine Ev_loop0 (fun i => ⟨[(50, .sl 1 (wcs W)), (51, .int .i64 n), (52, .int .i64 (i : Int))], [.row false [.int .i64 n, .sl 1 [], .sl 1 (wcs W)]], 0, [(1, 1, [50, 51, 52], []), (0, 1, [1, 30, 31, 32], [(1, 0)])]⟩) W.length (by simp [c4]) (fun i hi => ?_) ?_
    · obtain ⟨e, ga, hl⟩ := hrow i hi
      have q := hw' i hi
      simp only [wrdB, Bool.and_eq_true, decide_eq_true_eq] at q
      rw [q.2] at ga
      have ew : wi W i = (W.getD i none).getD [] := rfl
      rw [ew] at ga q hl
      cases hx : W.getD i none with
      | none =>
        rw [hx] at e ga q
        simp only [Option.getD_none, strs, List.map_nil] at ga
        simp (config := { maxSteps := 1000000 }) (disch := omega) only [go_sem, ↓reduceIte, Nat.reduceEqDiff, d1214_b1, e, wc, ga]
      | some l =>
        rw [hx] at e ga q hl
        simp only [Option.getD_some] at ga q hl
        obtain ⟨q1, q2⟩ := q
        simp (config := { maxSteps := 1000000 }) (disch := omega) only [go_sem, ↓reduceIte, Nat.reduceEqDiff, d1214_b1, e, wc, strs_length, ga]
    · simp (config := { maxSteps := 1000000 }) (disch := omega) only [go_sem, ↓reduceIte, Nat.reduceEqDiff, reduceCtorEq, d1214_b1]
  · have eb : ((List.range W.length).all fun i => wrdB (wi W i)) = false := by
      rw [List.all_eq_false]
      exact ⟨m, by simpa using m1, m3⟩
    rw [eb]
    refine Ev_loop0 (fun i => ⟨[(50, .sl 1 (wcs W)), (51, .int .i64 n), (52, .int .i64 (i : Int))], [.row false [.int .i64 n, .sl 1 [], .sl 1 (wcs W)]], 0, [(1, 1, [50, 51, 52], []), (0, 1, [1, 30, 31, 32], [(1, 0)])]⟩) m (by simp [c4]) (fun i hi => ?_) ?_
    · obtain ⟨e, ga, hl⟩ := hrow i (by omega)
      have q := m2 i hi
      simp only [wrdB, Bool.and_eq_true, decide_eq_true_eq] at q
      rw [q.2] at ga
      have ew : wi W i = (W.getD i none).getD [] := rfl
      rw [ew] at ga q hl
      cases hx : W.getD i none with
      | none =>
        rw [hx] at e ga q
        simp only [Option.getD_none, strs, List.map_nil] at ga
        simp (config := { maxSteps := 1000000 }) (disch := omega) only [go_sem, ↓reduceIte, Nat.reduceEqDiff, d1214_b1, e, wc, ga]
      | some l =>
        rw [hx] at e ga q hl
        simp only [Option.getD_some] at ga q hl
        obtain ⟨q1, q2⟩ := q
        simp (config := { maxSteps := 1000000 }) (disch := omega) only [go_sem, ↓reduceIte, Nat.reduceEqDiff, d1214_b1, e, wc, strs_length, ga]
    · obtain ⟨e, ga, hl⟩ := hrow m m1
      have ew : wi W m = (W.getD m none).getD [] := rfl
      rw [ew] at ga m3 hl
      cases hx : W.getD m none with
      | none => rw [hx] at m3; exact absurd rfl m3
      | some l =>
        rw [hx] at e ga m3 hl
        simp only [Option.getD_some] at ga m3 hl
        by_cases h8 : l.length ≤ 8
        · have ha : l.all wordB = false := by
            cases h : l.all wordB with
            | false => rfl
            | true => exact absurd (by simp [wrdB, h, h8]) m3
          rw [ha] at ga
          simp (config := { maxSteps := 1000000 }) (disch := omega) only [go_sem, ↓reduceIte, Nat.reduceEqDiff, reduceCtorEq, d1214_b1, e, wc, strs_length, ga]
        · simp (config := { maxSteps := 1000000 }) (disch := omega) only [go_sem, ↓reduceIte, Nat.reduceEqDiff, reduceCtorEq, d1214_b1, e, wc, strs_length]
end Go.Proofs.Ytmckpijdjoifoaa

namespace Go.Proofs.Ytmckpijdjoifoaa
set_option linter.unusedSimpArgs false
set_option linter.unusedVariables false
set_option maxHeartbeats 4000000
set_option maxRecDepth 100000
theorem word2_run {s : Txt} (hs : s.length ≤ 1000000) : runP tab 1270 [.str s] [] = some (.bool (wordB s), []) := by
  refine runP_fn t1270 rfl ?_
  simp (config := { maxSteps := 1000000 }) (disch := omega) only [go_sem, ↓reduceIte, reduceCtorEq, d1270]
  unfold wordB
  have hst := fun (i : Nat) (hi : i < s.length) (q : 97 ≤ (s.getD i 0).toNat ∧ (s.getD i 0).toNat ≤ 122) => (show Ev tab d1270_b0 ⟨[(0, .str s), (3, .int .i64 (i : Int))], [], 0, [(0, 0, [0, 3], [])]⟩ (fun x st => x = .normal ∧ st = ⟨[(0, .str s), (3, .int .i64 ((i + 1 : Nat) : Int))], [], 0, [(0, 0, [0, 3], [])]⟩) from by
    have e := txt_at hi
    obtain ⟨q1, q2⟩ := q
    simp (config := { maxSteps := 1000000 }) (disch := omega) only [go_sem, ↓reduceIte, Nat.reduceEqDiff, reduceCtorEq, d1270_b0, e])
  rcases letters_at s with ⟨h, e⟩ | ⟨m, m1, m2, m3, e⟩
  · rw [e, Bool.and_true]
    refine Ev_loop0 (fun i => ⟨[(0, .str s), (3, .int .i64 (i : Int))], [], 0, [(0, 0, [0, 3], [])]⟩) s.length rfl (fun i hi => hst i hi (h i hi)) ?_
    by_cases c1 : 1 ≤ s.length
    · by_cases c2 : s.length ≤ 12
      · rw [decide_eq_true ⟨c1, c2⟩]
        simp (config := { maxSteps := 1000000 }) (disch := omega) only [go_sem, ↓reduceIte, Nat.reduceEqDiff, reduceCtorEq, d1270_b0]
      · rw [decide_eq_false (by omega)]
        simp (config := { maxSteps := 1000000 }) (disch := omega) only [go_sem, ↓reduceIte, Nat.reduceEqDiff, reduceCtorEq, d1270_b0]
    · rw [decide_eq_false (by omega)]
      simp (config := { maxSteps := 1000000 }) (disch := omega) only [go_sem, ↓reduceIte, Nat.reduceEqDiff, reduceCtorEq, d1270_b0]
  · rw [e, Bool.and_false]
    refine Ev_loop0 (fun i => ⟨[(0, .str s), (3, .int .i64 (i : Int))], [], 0, [(0, 0, [0, 3], [])]⟩) m rfl (fun i hi => hst i (by omega) (m2 i hi)) ?_
    have e := txt_at m1
    by_cases h0 : 97 ≤ (s.getD m 0).toNat
    · have h3 : ¬ (s.getD m 0).toNat ≤ 122 := fun h => m3 ⟨h0, h⟩
      simp (config := { maxSteps := 1000000 }) (disch := omega) only [go_sem, ↓reduceIte, Nat.reduceEqDiff, reduceCtorEq, d1270_b0, e]
    · simp (config := { maxSteps := 1000000 }) (disch := omega) only [go_sem, ↓reduceIte, Nat.reduceEqDiff, reduceCtorEq, d1270_b0, e]
end Go.Proofs.Ytmckpijdjoifoaa

namespace Go.Proofs.Ytmckpijdjoifoaa
set_option linter.unusedSimpArgs false
set_option linter.unusedVariables false
set_option maxHeartbeats 4000000
set_option maxRecDepth 100000
theorem bl_lt : ∀ x y : Txt, Op.bytesLess x y = ltS x y
  | [], [] => rfl
  | [], _ :: _ => rfl
  | _ :: _, [] => rfl
  | a :: x, b :: y => by
    have ih := bl_lt x y
    have l1 := @UInt8.lt_iff_toNat_lt a b
    have l2 := @UInt8.lt_iff_toNat_lt b a
    by_cases h1 : a < b
    · have e : Go.Lib.compareBytes (a :: x) (b :: y) = -1 := by simp [Go.Lib.compareBytes, h1]
      simp [ltS, e, Op.bytesLess, h1]
    · by_cases h2 : b < a
      · have e : Go.Lib.compareBytes (a :: x) (b :: y) = 1 := by simp [Go.Lib.compareBytes, h1, h2]
        have n : (a == b) = false := by rw [beq_eq_false_iff_ne]; rintro rfl; exact h1 h2
        simp [ltS, e, Op.bytesLess, h1, n]
      · have e : a = b := UInt8.toNat_inj.1 (by rw [l1] at h1; rw [l2] at h2; omega)
        subst e
        have e : Go.Lib.compareBytes (a :: x) (a :: y) = Go.Lib.compareBytes x y := by simp [Go.Lib.compareBytes, h1]
        simp only [ltS] at ih ⊢
        rw [e, ← ih]
        simp [Op.bytesLess, h1]
end Go.Proofs.Ytmckpijdjoifoaa
