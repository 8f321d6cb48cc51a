/- Words, queries alike. -/
import Derived.Test.YtcfhocnbpplecaaXn
namespace Go.Proofs.Ytcfhocnbpplecaa
set_option linter.unusedSimpArgs false
set_option linter.unusedVariables false
set_option maxHeartbeats 4000000
set_option maxRecDepth 100000
theorem list_at {α : Type} [BEq α] [LawfulBEq α] (d : α) (a b : List α) (hl : a.length = b.length) : (∀ i, i < a.length → (a.getD i d == b.getD i d) = true) ∧ (a == b) = true ∨ ∃ n, n < a.length ∧ (∀ i, i < n → (a.getD i d == b.getD i d) = true) ∧ (a.getD n d == b.getD n d) = false ∧ (a == b) = false := by
  induction a generalizing b with
  | nil => cases b with | nil => exact .inl ⟨by simp, rfl⟩ | cons y b => simp at hl
  | cons x a ih => cases b with
    | nil => simp at hl
    | cons y b =>
      cases hxy : x == y with
      | true =>
        rcases ih b (by simpa using hl) with ⟨h1, h2⟩ | ⟨n, h1, h2, h3, h4⟩
        · refine .inl ⟨fun i hi => ?_, ?_⟩
          · cases i with | zero => simpa using hxy | succ i => simpa using h1 i (by simpa using hi)
          · have e : x = y := by simpa using hxy
            have e2 : a = b := by simpa using h2
            simp [e, e2]
        · refine .inr ⟨n + 1, by simpa using h1, fun i hi => ?_, by simpa using h3, ?_⟩
          · cases i with | zero => simpa using hxy | succ i => simpa using h2 i (by omega)
          · have e2 : ¬ a = b := by simpa using h4
            rw [← Bool.not_eq_true, beq_iff_eq]
            intro h; injection h with _ h; exact e2 h
      | false =>
        refine .inr ⟨0, by simp, by omega, by simpa using hxy, ?_⟩
        rw [← Bool.not_eq_true, beq_iff_eq]
        intro h; injection h with h _; rw [h] at hxy; simp at hxy
theorem txt_at {s : Txt} {i : Nat} (h : i < s.length) : s[i]? = some (s.getD i 0) := by
  rw [List.getD_eq_getElem?_getD, List.getElem?_eq_getElem h]; rfl
theorem letters_at (s : Txt) : (∀ i, i < s.length → 97 ≤ (s.getD i 0).toNat ∧ (s.getD i 0).toNat ≤ 122) ∧ s.all letter = true ∨ ∃ m, m < s.length ∧ (∀ i, i < m → 97 ≤ (s.getD i 0).toNat ∧ (s.getD i 0).toNat ≤ 122) ∧ ¬ (97 ≤ (s.getD m 0).toNat ∧ (s.getD m 0).toNat ≤ 122) ∧ s.all letter = false := by
  rcases first_ix (fun i => 97 ≤ (s.getD i 0).toNat ∧ (s.getD i 0).toNat ≤ 122) s.length with h | ⟨m, h1, h2, h3⟩
  · refine .inl ⟨h, ?_⟩
    rw [List.all_eq_true]
    intro x hx
    obtain ⟨i, hi, rfl⟩ := mem_getD (d := 0) hx
    simpa [letter] using h i hi
  · refine .inr ⟨m, h1, h2, h3, ?_⟩
    rw [List.all_eq_false]
    exact ⟨_, getD_mem (d := 0) h1, by simpa [letter] using h3⟩
theorem word_run {s : Txt} (hs : s.length ≤ 1000000) : runP tab 1222 [.str s] [] = some (.bool (wordB s), []) := by
  refine runP_fn t1222 rfl ?_
  unfold wordB
  by_cases h1 : 1 ≤ s.length
  case neg =>
    rw [decide_eq_false (by omega), Bool.false_and]
    simp (config := { maxSteps := 1000000 }) (disch := omega) only [go_sem, ↓reduceIte, Nat.reduceEqDiff, Nat.reduceAdd, Int.reduceToNat, reduceCtorEq, Nat.reduceLeDiff, Nat.reduceSub, Nat.reduceDiv, Nat.reduceMod, Nat.reduceMul, d1222]
  by_cases h2 : s.length ≤ 12
  case neg =>
    rw [decide_eq_false (by omega), Bool.false_and]
    simp (config := { maxSteps := 1000000 }) (disch := omega) only [go_sem, ↓reduceIte, Nat.reduceEqDiff, Nat.reduceAdd, Int.reduceToNat, reduceCtorEq, Nat.reduceLeDiff, Nat.reduceSub, Nat.reduceDiv, Nat.reduceMod, Nat.reduceMul, d1222]
  rw [decide_eq_true ⟨h1, h2⟩, Bool.true_and]
  simp (config := { maxSteps := 1000000 }) (disch := omega) only [go_sem, ↓reduceIte, Nat.reduceEqDiff, Nat.reduceAdd, Int.reduceToNat, reduceCtorEq, Nat.reduceLeDiff, Nat.reduceSub, Nat.reduceDiv, Nat.reduceMod, Nat.reduceMul, d1222]
  rcases letters_at s with ⟨h, e⟩ | ⟨m, m1, m2, m3, e⟩
  · rw [e]
    refine Ev_loop0 (fun i => ⟨[(0, .str s), (13, .int .i64 s.length), (14, .int .i64 (i : Int))], [], 0, [(0, 0, [0, 13, 14], [])]⟩) s.length rfl (fun i hi => ?_) ?_
    · have q := h i hi
      have e := txt_at hi
      simp (config := { maxSteps := 1000000 }) (disch := omega) only [go_sem, ↓reduceIte, Nat.reduceEqDiff, Nat.reduceAdd, Int.reduceToNat, reduceCtorEq, Nat.reduceLeDiff, Nat.reduceSub, Nat.reduceDiv, Nat.reduceMod, Nat.reduceMul, d1222_b0, e]
    · simp (config := { maxSteps := 1000000 }) (disch := omega) only [go_sem, ↓reduceIte, Nat.reduceEqDiff, Nat.reduceAdd, Int.reduceToNat, reduceCtorEq, Nat.reduceLeDiff, Nat.reduceSub, Nat.reduceDiv, Nat.reduceMod, Nat.reduceMul, d1222_b0]
  · rw [e]
    refine Ev_loop0 (fun i => ⟨[(0, .str s), (13, .int .i64 s.length), (14, .int .i64 (i : Int))], [], 0, [(0, 0, [0, 13, 14], [])]⟩) m rfl (fun i hi => ?_) ?_
    · have q := m2 i hi
      have e := txt_at (s := s) (i := i) (by omega)
      simp (config := { maxSteps := 1000000 }) (disch := omega) only [go_sem, ↓reduceIte, Nat.reduceEqDiff, Nat.reduceAdd, Int.reduceToNat, reduceCtorEq, Nat.reduceLeDiff, Nat.reduceSub, Nat.reduceDiv, Nat.reduceMod, Nat.reduceMul, d1222_b0, e]
    · have e := txt_at m1
      by_cases h0 : 97 ≤ (s.getD m 0).toNat
      · have h3 : ¬ (s.getD m 0).toNat ≤ 122 := fun h => m3 ⟨h0, h⟩
        simp (config := { maxSteps := 1000000 }) (disch := omega) only [go_sem, ↓reduceIte, Nat.reduceEqDiff, Nat.reduceAdd, Int.reduceToNat, reduceCtorEq, Nat.reduceLeDiff, Nat.reduceSub, Nat.reduceDiv, Nat.reduceMod, Nat.reduceMul, d1222_b0, e]
      · simp (config := { maxSteps := 1000000 }) (disch := omega) only [go_sem, ↓reduceIte, Nat.reduceEqDiff, Nat.reduceAdd, Int.reduceToNat, reduceCtorEq, Nat.reduceLeDiff, Nat.reduceSub, Nat.reduceDiv, Nat.reduceMod, Nat.reduceMul, d1222_b0, e]
theorem word2_run {s : Txt} (hs : s.length ≤ 1000000) : runP tab 1270 [.str s] [] = some (.bool (wordB s), []) := by
  refine runP_fn t1270 rfl ?_
  simp (config := { maxSteps := 1000000 }) (disch := omega) only [go_sem, ↓reduceIte, Nat.reduceEqDiff, Nat.reduceAdd, Int.reduceToNat, reduceCtorEq, Nat.reduceLeDiff, Nat.reduceSub, Nat.reduceDiv, Nat.reduceMod, Nat.reduceMul, d1270]
  unfold wordB
  have hst := fun (i : Nat) (hi : i < s.length) (q : 97 ≤ (s.getD i 0).toNat ∧ (s.getD i 0).toNat ≤ 122) => (show Ev tab d1270_b0 ⟨[(0, .str s), (3, .int .i64 (i : Int))], [], 0, [(0, 0, [0, 3], [])]⟩ (fun x st => x = .normal ∧ st = ⟨[(0, .str s), (3, .int .i64 ((i + 1 : Nat) : Int))], [], 0, [(0, 0, [0, 3], [])]⟩) from by
    have e := txt_at hi
    obtain ⟨q1, q2⟩ := q
    simp (config := { maxSteps := 1000000 }) (disch := omega) only [go_sem, ↓reduceIte, Nat.reduceEqDiff, Nat.reduceAdd, Int.reduceToNat, reduceCtorEq, Nat.reduceLeDiff, Nat.reduceSub, Nat.reduceDiv, Nat.reduceMod, Nat.reduceMul, d1270_b0, e])
  rcases letters_at s with ⟨h, e⟩ | ⟨m, m1, m2, m3, e⟩
  · rw [e, Bool.and_true]
    refine Ev_loop0 (fun i => ⟨[(0, .str s), (3, .int .i64 (i : Int))], [], 0, [(0, 0, [0, 3], [])]⟩) s.length rfl (fun i hi => hst i hi (h i hi)) ?_
    by_cases c1 : 1 ≤ s.length
    · by_cases c2 : s.length ≤ 12
      · rw [decide_eq_true ⟨c1, c2⟩]
        simp (config := { maxSteps := 1000000 }) (disch := omega) only [go_sem, ↓reduceIte, Nat.reduceEqDiff, Nat.reduceAdd, Int.reduceToNat, reduceCtorEq, Nat.reduceLeDiff, Nat.reduceSub, Nat.reduceDiv, Nat.reduceMod, Nat.reduceMul, d1270_b0]
      · rw [decide_eq_false (by omega)]
        simp (config := { maxSteps := 1000000 }) (disch := omega) only [go_sem, ↓reduceIte, Nat.reduceEqDiff, Nat.reduceAdd, Int.reduceToNat, reduceCtorEq, Nat.reduceLeDiff, Nat.reduceSub, Nat.reduceDiv, Nat.reduceMod, Nat.reduceMul, d1270_b0]
    · rw [decide_eq_false (by omega)]
      simp (config := { maxSteps := 1000000 }) (disch := omega) only [go_sem, ↓reduceIte, Nat.reduceEqDiff, Nat.reduceAdd, Int.reduceToNat, reduceCtorEq, Nat.reduceLeDiff, Nat.reduceSub, Nat.reduceDiv, Nat.reduceMod, Nat.reduceMul, d1270_b0]
  · rw [e, Bool.and_false]
    refine Ev_loop0 (fun i => ⟨[(0, .str s), (3, .int .i64 (i : Int))], [], 0, [(0, 0, [0, 3], [])]⟩) m rfl (fun i hi => hst i (by omega) (m2 i hi)) ?_
    have e := txt_at m1
    by_cases h0 : 97 ≤ (s.getD m 0).toNat
    · have h3 : ¬ (s.getD m 0).toNat ≤ 122 := fun h => m3 ⟨h0, h⟩
      simp (config := { maxSteps := 1000000 }) (disch := omega) only [go_sem, ↓reduceIte, Nat.reduceEqDiff, Nat.reduceAdd, Int.reduceToNat, reduceCtorEq, Nat.reduceLeDiff, Nat.reduceSub, Nat.reduceDiv, Nat.reduceMod, Nat.reduceMul, d1270_b0, e]
    · simp (config := { maxSteps := 1000000 }) (disch := omega) only [go_sem, ↓reduceIte, Nat.reduceEqDiff, Nat.reduceAdd, Int.reduceToNat, reduceCtorEq, Nat.reduceLeDiff, Nat.reduceSub, Nat.reduceDiv, Nat.reduceMod, Nat.reduceMul, d1270_b0, e]
theorem texts_run {a b : List Txt} (ha : a.length ≤ 9223372036854775807) (hb : b.length ≤ 9223372036854775807) : runP tab 1105 [.sl 1 (strs a), .sl 1 (strs b)] [] = some (.bool (a == b), []) := by
  refine runP_fn t1105 rfl ?_
  by_cases hl : a.length = b.length
  · simp (config := { maxSteps := 1000000 }) (disch := omega) only [go_sem, ↓reduceIte, Nat.reduceEqDiff, Nat.reduceAdd, Int.reduceToNat, reduceCtorEq, Nat.reduceLeDiff, Nat.reduceSub, Nat.reduceDiv, Nat.reduceMod, Nat.reduceMul, d1105]
    rcases list_at [] a b hl with ⟨h1, h2⟩ | ⟨k, h0, h1, h2, h3⟩
    · refine Ev_loop0 (fun i => ⟨[(0, .sl 1 (strs a)), (1, .sl 1 (strs b)), (5, .int .i64 (i : Int))], [], 0, [(0, 0, [0, 1, 5], [])]⟩) a.length rfl (fun i hi => ?_) ?_
      · have := h1 i (by omega)
        simp (config := { maxSteps := 1000000 }) (disch := omega) only [go_sem, ↓reduceIte, Nat.reduceEqDiff, Nat.reduceAdd, Int.reduceToNat, reduceCtorEq, Nat.reduceLeDiff, Nat.reduceSub, Nat.reduceDiv, Nat.reduceMod, Nat.reduceMul, d1105_b0, strs_rdc, this]
      · simp (config := { maxSteps := 1000000 }) (disch := omega) only [go_sem, ↓reduceIte, Nat.reduceEqDiff, Nat.reduceAdd, Int.reduceToNat, reduceCtorEq, Nat.reduceLeDiff, Nat.reduceSub, Nat.reduceDiv, Nat.reduceMod, Nat.reduceMul, d1105_b0, h2]
    · refine Ev_loop0 (fun i => ⟨[(0, .sl 1 (strs a)), (1, .sl 1 (strs b)), (5, .int .i64 (i : Int))], [], 0, [(0, 0, [0, 1, 5], [])]⟩) k rfl (fun i hi => ?_) ?_
      · have := h1 i (by omega)
        simp (config := { maxSteps := 1000000 }) (disch := omega) only [go_sem, ↓reduceIte, Nat.reduceEqDiff, Nat.reduceAdd, Int.reduceToNat, reduceCtorEq, Nat.reduceLeDiff, Nat.reduceSub, Nat.reduceDiv, Nat.reduceMod, Nat.reduceMul, d1105_b0, strs_rdc, this]
      · simp (config := { maxSteps := 1000000 }) (disch := omega) only [go_sem, ↓reduceIte, Nat.reduceEqDiff, Nat.reduceAdd, Int.reduceToNat, reduceCtorEq, Nat.reduceLeDiff, Nat.reduceSub, Nat.reduceDiv, Nat.reduceMod, Nat.reduceMul, d1105_b0, strs_rdc, h2, h3]
  · have h : (a == b) = false := by rw [← Bool.not_eq_true, beq_iff_eq]; rintro rfl; exact hl rfl
    simp (config := { maxSteps := 1000000 }) (disch := omega) only [go_sem, ↓reduceIte, Nat.reduceEqDiff, Nat.reduceAdd, Int.reduceToNat, reduceCtorEq, Nat.reduceLeDiff, Nat.reduceSub, Nat.reduceDiv, Nat.reduceMod, Nat.reduceMul, d1105, h]
def qryS (r : Req) : List AV := [.int .i64 r.qk, .int .i64 r.frm, .int .i64 r.to, .sl 1 (strs r.words), .int .i64 r.radius, .int .i64 r.most]
def sameQ (a b : Req) : Bool := decide (a.qk = b.qk) && (decide (a.frm = b.frm) && (decide (a.to = b.to) && ((a.words == b.words) && (decide (a.radius = b.radius) && decide (a.most = b.most)))))
theorem sameq_run {a b : Req} (ha : a.words.length ≤ 9223372036854775807) (hb : b.words.length ≤ 9223372036854775807) : runP tab 1102 [.agg (qryS a), .agg (qryS b)] [] = some (.bool (sameQ a b), []) := by
  refine runP_fn t1102 rfl ?_
  simp only [sameQ]
  have ht := texts_run ha hb
  by_cases h1 : a.qk = b.qk
  case neg => simp (config := { maxSteps := 1000000 }) (disch := omega) only [go_sem, ↓reduceIte, Nat.reduceEqDiff, Nat.reduceAdd, Int.reduceToNat, reduceCtorEq, Nat.reduceLeDiff, Nat.reduceSub, Nat.reduceDiv, Nat.reduceMod, Nat.reduceMul, d1102, qryS, h1, Bool.false_and, decide_false]
  by_cases h2 : a.frm = b.frm
  case neg => simp (config := { maxSteps := 1000000 }) (disch := omega) only [go_sem, ↓reduceIte, Nat.reduceEqDiff, Nat.reduceAdd, Int.reduceToNat, reduceCtorEq, Nat.reduceLeDiff, Nat.reduceSub, Nat.reduceDiv, Nat.reduceMod, Nat.reduceMul, d1102, qryS, h1, h2, Bool.and_false, Bool.false_and, decide_false]
  by_cases h3 : a.to = b.to
  case neg => simp (config := { maxSteps := 1000000 }) (disch := omega) only [go_sem, ↓reduceIte, Nat.reduceEqDiff, Nat.reduceAdd, Int.reduceToNat, reduceCtorEq, Nat.reduceLeDiff, Nat.reduceSub, Nat.reduceDiv, Nat.reduceMod, Nat.reduceMul, d1102, qryS, h1, h2, h3, Bool.and_false, Bool.false_and, decide_false]
  cases h4 : a.words == b.words <;> rw [h4] at ht
  · simp (config := { maxSteps := 1000000 }) (disch := omega) only [go_sem, ↓reduceIte, Nat.reduceEqDiff, Nat.reduceAdd, Int.reduceToNat, reduceCtorEq, Nat.reduceLeDiff, Nat.reduceSub, Nat.reduceDiv, Nat.reduceMod, Nat.reduceMul, d1102, qryS, ht, h1, h2, h3, h4, Bool.and_false, Bool.false_and]
  · by_cases h5 : a.radius = b.radius <;>
      simp (config := { maxSteps := 1000000 }) (disch := omega) only [go_sem, ↓reduceIte, Nat.reduceEqDiff, Nat.reduceAdd, Int.reduceToNat, reduceCtorEq, Nat.reduceLeDiff, Nat.reduceSub, Nat.reduceDiv, Nat.reduceMod, Nat.reduceMul, d1102, qryS, ht, h1, h2, h3, h4, h5, Bool.and_false, Bool.false_and]
theorem same1_eq (a b : Req) : (decide (a.id = b.id) && (decide (a.kind = b.kind) && sameQ a b)) = (a == b) := by
  rw [Bool.eq_iff_iff]
  cases a; cases b
  simp only [sameQ, Bool.and_eq_true, decide_eq_true_eq, beq_iff_eq, Req.mk.injEq]
theorem samer_run {a b : Req} (ha : a.words.length ≤ 9223372036854775807) (hb : b.words.length ≤ 9223372036854775807) : runP tab 1095 [.agg (reqS a), .agg (reqS b)] [] = some (.bool (a == b), []) := by
  rw [← same1_eq]
  refine runP_fn t1095 rfl ?_
  have hq := sameq_run ha hb
  simp only [qryS] at hq
  by_cases h1 : a.id = b.id <;> by_cases h2 : a.kind = b.kind <;>
    simp (config := { maxSteps := 1000000 }) (disch := omega) only [go_sem, ↓reduceIte, Nat.reduceEqDiff, Nat.reduceAdd, Int.reduceToNat, reduceCtorEq, Nat.reduceLeDiff, Nat.reduceSub, Nat.reduceDiv, Nat.reduceMod, Nat.reduceMul, d1095, reqS, hq, h1, h2, Bool.and_false, Bool.false_and]
def sameL (a b : Req) : Bool := decide (a.qk = b.qk ∧ a.frm = b.frm ∧ a.to = b.to ∧ a.words.length = b.words.length ∧ a.radius = b.radius ∧ a.most = b.most)
theorem samel_run {a b : Req} (ha : a.words.length ≤ 1000000) (hb : b.words.length ≤ 1000000) : runP tab 1645 [.agg (qryS a), .agg (qryS b)] [] = some (.bool (sameL a b), []) := by
  refine runP_fn t1645 rfl ?_
  unfold sameL
  by_cases h1 : a.qk = b.qk
  case neg => rw [decide_eq_false (fun h => h1 h.1)]; simp (config := { maxSteps := 1000000 }) (disch := omega) only [go_sem, ↓reduceIte, Nat.reduceEqDiff, Nat.reduceAdd, Int.reduceToNat, reduceCtorEq, Nat.reduceLeDiff, Nat.reduceSub, Nat.reduceDiv, Nat.reduceMod, Nat.reduceMul, d1645, qryS]
  by_cases h2 : a.frm = b.frm
  case neg => rw [decide_eq_false (fun h => h2 h.2.1)]; simp (config := { maxSteps := 1000000 }) (disch := omega) only [go_sem, ↓reduceIte, Nat.reduceEqDiff, Nat.reduceAdd, Int.reduceToNat, reduceCtorEq, Nat.reduceLeDiff, Nat.reduceSub, Nat.reduceDiv, Nat.reduceMod, Nat.reduceMul, d1645, qryS]
  by_cases h3 : a.to = b.to
  case neg => rw [decide_eq_false (fun h => h3 h.2.2.1)]; simp (config := { maxSteps := 1000000 }) (disch := omega) only [go_sem, ↓reduceIte, Nat.reduceEqDiff, Nat.reduceAdd, Int.reduceToNat, reduceCtorEq, Nat.reduceLeDiff, Nat.reduceSub, Nat.reduceDiv, Nat.reduceMod, Nat.reduceMul, d1645, qryS]
  by_cases h4 : a.words.length = b.words.length
  case neg => rw [decide_eq_false (fun h => h4 h.2.2.2.1)]; simp (config := { maxSteps := 1000000 }) (disch := omega) only [go_sem, ↓reduceIte, Nat.reduceEqDiff, Nat.reduceAdd, Int.reduceToNat, reduceCtorEq, Nat.reduceLeDiff, Nat.reduceSub, Nat.reduceDiv, Nat.reduceMod, Nat.reduceMul, d1645, qryS]
  by_cases h5 : a.radius = b.radius
  case neg => rw [decide_eq_false (fun h => h5 h.2.2.2.2.1)]; simp (config := { maxSteps := 1000000 }) (disch := omega) only [go_sem, ↓reduceIte, Nat.reduceEqDiff, Nat.reduceAdd, Int.reduceToNat, reduceCtorEq, Nat.reduceLeDiff, Nat.reduceSub, Nat.reduceDiv, Nat.reduceMod, Nat.reduceMul, d1645, qryS]
  by_cases h6 : a.most = b.most
  case neg => rw [decide_eq_false (fun h => h6 h.2.2.2.2.2)]; simp (config := { maxSteps := 1000000 }) (disch := omega) only [go_sem, ↓reduceIte, Nat.reduceEqDiff, Nat.reduceAdd, Int.reduceToNat, reduceCtorEq, Nat.reduceLeDiff, Nat.reduceSub, Nat.reduceDiv, Nat.reduceMod, Nat.reduceMul, d1645, qryS]
  rw [decide_eq_true ⟨h1, h2, h3, h4, h5, h6⟩]
  simp (config := { maxSteps := 1000000 }) (disch := omega) only [go_sem, ↓reduceIte, Nat.reduceEqDiff, Nat.reduceAdd, Int.reduceToNat, reduceCtorEq, Nat.reduceLeDiff, Nat.reduceSub, Nat.reduceDiv, Nat.reduceMod, Nat.reduceMul, d1645, qryS]
def okW (l : List Txt) : Prop := l.length ≤ 1000000 ∧ ∀ w ∈ l, w.length ≤ 1000000
theorem word_ix (l : List Txt) : (l.all wordB = true ∧ ∀ i, i < l.length → wordB (l.getD i []) = true) ∨ ∃ m, m < l.length ∧ (∀ i, i < m → wordB (l.getD i []) = true) ∧ wordB (l.getD m []) = false ∧ l.all wordB = false := by
  rcases first_ix (fun i => wordB (l.getD i []) = true) l.length with h | ⟨m, h1, h2, h3⟩
  · refine .inl ⟨?_, h⟩
    rw [List.all_eq_true]
    intro x hx
    obtain ⟨i, hi, rfl⟩ := mem_getD (d := []) hx
    exact h i hi
  · have h3 : wordB (l.getD m []) = false := by simpa using h3
    refine .inr ⟨m, h1, h2, h3, ?_⟩
    rw [List.all_eq_false]
    exact ⟨_, getD_mem (d := []) h1, by rw [h3]; simp⟩
def wordsB (l : List Txt) : Bool := l.all wordB && decide (1 ≤ l.length ∧ l.length ≤ 8)
theorem words_run {l : List Txt} (h : okW l) : runP tab 1653 [.sl 1 (strs l)] [] = some (.bool (wordsB l), []) := by
  obtain ⟨hl, ht⟩ := h
  refine runP_fn t1653 rfl ?_
  unfold wordsB
  have stp : ∀ i, i < l.length → wordB (l.getD i []) = true → Ev tab d1653_b0 ⟨[(0, .sl 1 (strs l)), (5, .sl 1 (strs l)), (6, .int .i64 l.length), (7, .int .i64 (i : Int))], [], 0, [(0, 0, [0, 5, 6, 7], [])]⟩ (fun x st => x = .normal ∧ st = ⟨[(0, .sl 1 (strs l)), (5, .sl 1 (strs l)), (6, .int .i64 l.length), (7, .int .i64 ((i + 1 : Nat) : Int))], [], 0, [(0, 0, [0, 5, 6, 7], [])]⟩) := by
    intro i hi hw
    have g := word_run (s := l.getD i []) (ht _ (getD_mem (d := []) hi))
    rw [hw] at g
    simp (config := { maxSteps := 1000000 }) (disch := omega) only [go_sem, ↓reduceIte, Nat.reduceEqDiff, Nat.reduceAdd, Int.reduceToNat, reduceCtorEq, Nat.reduceLeDiff, Nat.reduceSub, Nat.reduceDiv, Nat.reduceMod, Nat.reduceMul, d1653_b0, strs_rdc, g]
  simp (config := { maxSteps := 1000000 }) (disch := omega) only [go_sem, ↓reduceIte, Nat.reduceEqDiff, Nat.reduceAdd, Int.reduceToNat, reduceCtorEq, Nat.reduceLeDiff, Nat.reduceSub, Nat.reduceDiv, Nat.reduceMod, Nat.reduceMul, d1653]
  rcases word_ix l with ⟨h1, h2⟩ | ⟨m, h1, h2, h3, h4⟩
  · rw [h1, Bool.true_and]
    refine Ev_loop0 (fun i => ⟨[(0, .sl 1 (strs l)), (5, .sl 1 (strs l)), (6, .int .i64 l.length), (7, .int .i64 (i : Int))], [], 0, [(0, 0, [0, 5, 6, 7], [])]⟩) l.length rfl (fun i hi => stp i hi (h2 i hi)) ?_
    by_cases c1 : 1 ≤ l.length
    · by_cases c2 : l.length ≤ 8
      · rw [decide_eq_true ⟨c1, c2⟩]; simp (config := { maxSteps := 1000000 }) (disch := omega) only [go_sem, ↓reduceIte, Nat.reduceEqDiff, Nat.reduceAdd, Int.reduceToNat, reduceCtorEq, Nat.reduceLeDiff, Nat.reduceSub, Nat.reduceDiv, Nat.reduceMod, Nat.reduceMul, d1653_b0]
      · rw [decide_eq_false (by omega)]; simp (config := { maxSteps := 1000000 }) (disch := omega) only [go_sem, ↓reduceIte, Nat.reduceEqDiff, Nat.reduceAdd, Int.reduceToNat, reduceCtorEq, Nat.reduceLeDiff, Nat.reduceSub, Nat.reduceDiv, Nat.reduceMod, Nat.reduceMul, d1653_b0]
    · rw [decide_eq_false (by omega)]; simp (config := { maxSteps := 1000000 }) (disch := omega) only [go_sem, ↓reduceIte, Nat.reduceEqDiff, Nat.reduceAdd, Int.reduceToNat, reduceCtorEq, Nat.reduceLeDiff, Nat.reduceSub, Nat.reduceDiv, Nat.reduceMod, Nat.reduceMul, d1653_b0]
  · rw [h4, Bool.false_and]
    refine Ev_loop0 (fun i => ⟨[(0, .sl 1 (strs l)), (5, .sl 1 (strs l)), (6, .int .i64 l.length), (7, .int .i64 (i : Int))], [], 0, [(0, 0, [0, 5, 6, 7], [])]⟩) m rfl (fun i hi => stp i (by omega) (h2 i hi)) ?_
    have g := word_run (s := l.getD m []) (ht _ (getD_mem (d := []) h1))
    rw [h3] at g
    simp (config := { maxSteps := 1000000 }) (disch := omega) only [go_sem, ↓reduceIte, Nat.reduceEqDiff, Nat.reduceAdd, Int.reduceToNat, reduceCtorEq, Nat.reduceLeDiff, Nat.reduceSub, Nat.reduceDiv, Nat.reduceMod, Nat.reduceMul, d1653_b0, strs_rdc, g]
theorem place_run (v n : Int) : runP tab 1652 [.int .i64 v, .int .i64 n] [] = some (.bool (decide (0 ≤ v ∧ v < n)), []) := by
  refine runP_fn t1652 rfl ?_
  by_cases h1 : 0 ≤ v <;> by_cases h2 : v < n <;> simp (config := { maxSteps := 1000000 }) (disch := omega) only [go_sem, ↓reduceIte, Nat.reduceEqDiff, Nat.reduceAdd, Int.reduceToNat, reduceCtorEq, Nat.reduceLeDiff, Nat.reduceSub, Nat.reduceDiv, Nat.reduceMod, Nat.reduceMul, d1652, h1, h2, and_self, and_true, true_and, and_false, false_and, decide_true, decide_false]
theorem rplace_run (v n : Int) : runP tab 1654 [.int .i64 v, .int .i64 n] [] = some (.bool (decide (0 ≤ v ∧ v < n)), []) := by
  refine runP_fn t1654 rfl ?_
  by_cases h1 : 0 ≤ v <;> by_cases h2 : v < n <;> simp (config := { maxSteps := 1000000 }) (disch := omega) only [go_sem, ↓reduceIte, Nat.reduceEqDiff, Nat.reduceAdd, Int.reduceToNat, reduceCtorEq, Nat.reduceLeDiff, Nat.reduceSub, Nat.reduceDiv, Nat.reduceMod, Nat.reduceMul, d1654, h1, h2, and_self, and_true, true_and, and_false, false_and, decide_true, decide_false]
end Go.Proofs.Ytcfhocnbpplecaa
