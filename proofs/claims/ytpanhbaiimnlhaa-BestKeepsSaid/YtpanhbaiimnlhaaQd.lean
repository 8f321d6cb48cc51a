/- Layer 10: a queue tells its row; the document's rows, hits alike. -/
import Derived.Test.YtpanhbaiimnlhaaQc
namespace Go.Proofs.Ytpanhbaiimnlhaa
set_option linter.unusedSimpArgs false
set_option linter.unusedVariables false
set_option maxHeartbeats 4000000
set_option maxRecDepth 100000
theorem snoc_last {α : Type} [Inhabited α] {S A : List α} {y : α} {M : Nat} (h : S = A ++ [y]) (hM : S.length = M + 1) : y = S.getD M default ∧ A = S.take M := by
  have hA : A.length = M := by rw [h] at hM; simpa using hM
  subst h
  subst hA
  constructor
  · simp [List.getD_eq_getElem?_getD]
  · simp
theorem aput_fit {m : Int} {d : Array Ed} {S : List Ed} (x : Ed) (h : QOk ltH d S) (hs : S.length < 60000) (hm : (S.length : Int) + 1 ≤ m) : ∃ d', QOk ltH d' (insO ltH S x) ∧ runP tab 1478 [.ref 0 0, htA x] [.row false [.vec 2 (prs d.toList), .int .i64 m]] = some (.tup [htA (0, 0), .bool false], [.row false [.vec 2 (prs d'.toList), .int .i64 m]]) := by
  have hl := h.len
  exact ⟨_, h.put ordrH x, qput_fit (by omega) (by omega)⟩
theorem aput_over {M : Nat} {d : Array Ed} {S : List Ed} (x : Ed) (h : QOk ltH d S) (hs : S.length < 60000) (hm : S.length = M) : ∃ d', QOk ltH d' ((insO ltH S x).take M) ∧ runP tab 1478 [.ref 0 0, htA x] [.row false [.vec 2 (prs d.toList), .int .i64 (M : Int)]] = some (.tup [htA ((insO ltH S x).getD M default), .bool true], [.row false [.vec 2 (prs d'.toList), .int .i64 (M : Int)]]) := by
  have hl := h.len
  have h1 := h.put ordrH x
  have hz := hpPut_size (lt := ltH) d x
  obtain ⟨h2, h3⟩ := h1.cut ordrH (by omega)
  obtain ⟨e1, e2⟩ := snoc_last h2 (M := M) (by rw [insO_len]; omega)
  refine ⟨hpRem ltH (hpPut ltH d x) (lst ltH (hpPut ltH d x) (hpPut ltH d x).size), ?_, ?_⟩
  · rw [e2] at h3; exact h3
  · rw [qput_over (by omega) (by omega), e1]
theorem atake_some {m : Int} {d : Array Ed} {x : Ed} {S : List Ed} (h : QOk ltH d (x :: S)) (hs : S.length < 60000) : ∃ d', QOk ltH d' S ∧ runP tab 1480 [.ref 0 0] [.row false [.vec 2 (prs d.toList), .int .i64 m]] = some (.tup [htA x, .bool true], [.row false [.vec 2 (prs d'.toList), .int .i64 m]]) := by
  have hl := h.len
  simp only [List.length_cons] at hl
  obtain ⟨h1, h2⟩ := h.take ordrH (by omega)
  injection h1 with e1 e2
  refine ⟨_, by rw [e2]; exact h2, ?_⟩
  rw [qtake_run (by omega) (by omega), e1]
theorem atake_none {m : Int} {d : Array Ed} (h : QOk ltH d []) : runP tab 1480 [.ref 0 0] [.row false [.vec 2 (prs d.toList), .int .i64 m]] = some (.tup [htA (0, 0), .bool false], [.row false [.vec 2 (prs d.toList), .int .i64 m]]) :=
  qtake_none (by have := h.len; simp at this; omega)
theorem aall_run {m : Int} {d : Array Ed} {S : List Ed} (h : QOk ltH d S) (hs : S.length ≤ 60000) : runP tab 1483 [.ip [.sl 2 (prs d.toList), .int .i64 m]] [] = some (.vec 2 (prs S), []) := by
  have := h.len
  rw [qall_run (by omega), ← h.so]
theorem alen_run {m : Int} {d : Array Ed} {S : List Ed} (h : QOk ltH d S) : runP tab 1482 [.ip [.sl 2 (prs d.toList), .int .i64 m]] [] = some (.int .i64 (S.length : Int), []) := by
  rw [h.len]; exact qlen_run rfl
theorem qok0 : QOk ltH (#[] : Array Ed) [] := QOk.nil
theorem ed_eq (x y : Ed) : aeqL [.int .i64 x.1, .int .i64 x.2] [.int .i64 y.1, .int .i64 y.2] = some (decide (x = y)) := by
  obtain ⟨a, b⟩ := x
  obtain ⟨c, d⟩ := y
  simp only [aeqL, aeq, if_true, Option.bind_some, Option.map_some, Bool.and_true, Option.some.injEq]
  by_cases h1 : a = c <;> by_cases h2 : b = d <;> simp [h1, h2]
theorem bests_run : runP tab 1477 [] [] = some (.bool true, []) := by
  refine runP_fn t1477 rfl ?_
  have g0 := qnew_ok (m := 2) (by omega)
  have gz := qnew_bad (m := 0) (by omega)
  obtain ⟨d1, q1, g1⟩ := aput_fit (m := 2) (1, 5) qok0 (by simp) (by simp)
  obtain ⟨d2, q2, g2⟩ := aput_fit (m := 2) (2, 3) q1 (by simp [insO, upO]) (by simp [insO, upO])
  have e2 : insO ltH (insO ltH [] (1, 5)) (2, 3) = [(2, 3), (1, 5)] := by decide
  rw [e2] at q2
  obtain ⟨d3, q3, g3⟩ := aput_over (M := 2) (3, 4) q2 (by simp) rfl
  have e3 : insO ltH [(2, 3), (1, 5)] (3, 4) = [(2, 3), (3, 4), (1, 5)] := by decide
  rw [e3] at q3 g3
  obtain ⟨d4, q4, g4⟩ := atake_some (m := 2) (x := (2, 3)) (S := [(3, 4)]) q3 (by simp)
  obtain ⟨d5, q5, g5⟩ := atake_some (m := 2) (x := (3, 4)) (S := []) q4 (by simp)
  have g6 := atake_none (m := 2) q5
  have e5 : [(2, 3), (3, 4), (1, 5)].getD 2 default = ((1, 5) : Ed) := rfl
  rw [e5] at g3
  simp only [htA, show prs (#[] : Array Ed).toList = [] from rfl, Int.cast_ofNat_Int] at g1 g2 g3 g4 g5 g6
  have c1 := ed_eq (1, 5) (1, 5)
  have c2 := ed_eq (2, 3) (2, 3)
  have c3 := ed_eq (3, 4) (3, 4)
  simp only [decide_true] at c1 c2 c3
  simp (config := { maxSteps := 1000000 }) (disch := omega) only [go_sem, ↓reduceIte, Nat.reduceEqDiff, Nat.reduceAdd, Int.reduceToNat, reduceCtorEq, Nat.reduceLeDiff, Nat.reduceSub, Nat.reduceDiv, Nat.reduceMod, Nat.reduceMul, d1477, g0, gz, g1, g2, g3, g4, g5, g6, c1, c2, c3, encA, digA]
theorem rown_run {l : List Ed} (hl : l.length ≤ 1000000) : runP tab 1484 [.sl 2 (prs l)] [] = some (.vec 2 (prs l), []) := by
  refine runP_fn t1484 rfl ?_
  simp (config := { maxSteps := 1000000 }) (disch := omega) only [go_sem, ↓reduceIte, Nat.reduceEqDiff, Nat.reduceAdd, Int.reduceToNat, reduceCtorEq, Nat.reduceLeDiff, Nat.reduceSub, Nat.reduceDiv, Nat.reduceMod, Nat.reduceMul, d1484]
theorem eds_at : ∀ (a b : List Ed), a.length = b.length → ((∀ i, i < a.length → a.getD i default = b.getD i default) ∧ (a == b) = true) ∨ ∃ k, k < a.length ∧ (∀ i, i < k → a.getD i default = b.getD i default) ∧ ¬ (a.getD k default = b.getD k default) ∧ (a == b) = false
  | [], [], _ => .inl ⟨by simp, rfl⟩
  | [], _ :: _, h => by simp at h
  | _ :: _, [], h => by simp at h
  | x :: a, y :: b, h => by
    by_cases hxy : x = y
    · subst hxy
      rcases eds_at a b (by simpa using h) with ⟨h1, h2⟩ | ⟨k, h1, h2, h3, h4⟩
      · refine .inl ⟨fun i hi => ?_, by simpa using h2⟩
        cases i with | zero => rfl | succ i => simpa using h1 i (by simpa using hi)
      · refine .inr ⟨k + 1, by simpa using h1, fun i hi => ?_, by simpa using h3, by simpa using h4⟩
        cases i with | zero => rfl | succ i => simpa using h2 i (by omega)
    · exact .inr ⟨0, by simp, by omega, by simpa using hxy, by simp [hxy]⟩
theorem rsame_run {a b : List Ed} (ha : a.length ≤ 1000000) (hb : b.length ≤ 1000000) : runP tab 1439 [.sl 2 (prs a), .sl 2 (prs b)] [] = some (.bool (a == b), []) := by
  refine runP_fn t1439 rfl ?_
  by_cases hl : a.length = b.length
  · simp (config := { maxSteps := 1000000 }) (disch := omega) only [go_sem, ↓reduceIte, Nat.reduceEqDiff, Nat.reduceAdd, Int.reduceToNat, reduceCtorEq, Nat.reduceLeDiff, Nat.reduceSub, Nat.reduceDiv, Nat.reduceMod, Nat.reduceMul, d1439]
    rcases eds_at a b hl with ⟨h1, h2⟩ | ⟨k, h0, h1, h2, h3⟩
    · rw [h2]
      refine Ev_loop0 (fun i => ⟨[(0, .sl 2 (prs a)), (1, .sl 2 (prs b)), (5, .int .i64 (i : Int))], [], 0, [(0, 0, [0, 1, 5], [])]⟩) a.length rfl (fun i hi => ?_) ?_
      · have h := h1 i hi
        have c := ed_eq (a.getD i default) (b.getD i default)
        rw [decide_eq_true h] at c
        simp (config := { maxSteps := 1000000 }) (disch := omega) only [go_sem, ↓reduceIte, Nat.reduceEqDiff, Nat.reduceAdd, Int.reduceToNat, reduceCtorEq, Nat.reduceLeDiff, Nat.reduceSub, Nat.reduceDiv, Nat.reduceMod, Nat.reduceMul, d1439_b0, prs_at, c, encA, digA]
      · simp (config := { maxSteps := 1000000 }) (disch := omega) only [go_sem, ↓reduceIte, Nat.reduceEqDiff, Nat.reduceAdd, Int.reduceToNat, reduceCtorEq, Nat.reduceLeDiff, Nat.reduceSub, Nat.reduceDiv, Nat.reduceMod, Nat.reduceMul, d1439_b0]
    · rw [h3]
      refine Ev_loop0 (fun i => ⟨[(0, .sl 2 (prs a)), (1, .sl 2 (prs b)), (5, .int .i64 (i : Int))], [], 0, [(0, 0, [0, 1, 5], [])]⟩) k rfl (fun i hi => ?_) ?_
      · have h := h1 i hi
        have c := ed_eq (a.getD i default) (b.getD i default)
        rw [decide_eq_true h] at c
        simp (config := { maxSteps := 1000000 }) (disch := omega) only [go_sem, ↓reduceIte, Nat.reduceEqDiff, Nat.reduceAdd, Int.reduceToNat, reduceCtorEq, Nat.reduceLeDiff, Nat.reduceSub, Nat.reduceDiv, Nat.reduceMod, Nat.reduceMul, d1439_b0, prs_at, c, encA, digA]
      · have c := ed_eq (a.getD k default) (b.getD k default)
        rw [decide_eq_false h2] at c
        simp (config := { maxSteps := 1000000 }) (disch := omega) only [go_sem, ↓reduceIte, Nat.reduceEqDiff, Nat.reduceAdd, Int.reduceToNat, reduceCtorEq, Nat.reduceLeDiff, Nat.reduceSub, Nat.reduceDiv, Nat.reduceMod, Nat.reduceMul, d1439_b0, prs_at, c, encA, digA]
  · have h : (a == b) = false := by rw [← Bool.not_eq_true, beq_iff_eq]; rintro rfl; exact hl rfl
    simp (config := { maxSteps := 1000000 }) (disch := omega) only [go_sem, ↓reduceIte, Nat.reduceEqDiff, Nat.reduceAdd, Int.reduceToNat, reduceCtorEq, Nat.reduceLeDiff, Nat.reduceSub, Nat.reduceDiv, Nat.reduceMod, Nat.reduceMul, d1439, h]
theorem rsame_nil {s t : Nat} {c d : List AV} (hc : c = []) (hd : d = []) : runP tab 1439 [.sl s c, .sl t d] [] = some (.bool true, []) := by
  subst hc hd
  refine runP_fn t1439 rfl ?_
  simp (config := { maxSteps := 1000000 }) (disch := omega) only [go_sem, ↓reduceIte, Nat.reduceEqDiff, Nat.reduceAdd, Int.reduceToNat, reduceCtorEq, Nat.reduceLeDiff, Nat.reduceSub, Nat.reduceDiv, Nat.reduceMod, Nat.reduceMul, d1439]
  refine Ev_stop ?_
  simp (config := { maxSteps := 1000000 }) (disch := omega) only [go_sem, ↓reduceIte, Nat.reduceEqDiff, Nat.reduceAdd, Int.reduceToNat, reduceCtorEq, Nat.reduceLeDiff, Nat.reduceSub, Nat.reduceDiv, Nat.reduceMod, Nat.reduceMul, d1439_b0]
def rfst (l : List Ed) (k : Int) : AV := if k < 1 ∨ l = [] then .vec 2 [] else .sl 2 (prs (fst1 l k))
def rfC (l : List Ed) (i : Nat) : AV := if i = 0 then .nils else .sl 2 (prs (sorted ltH (l.take i)))
theorem rfirst_run {l : List Ed} {k : Int} (hl : l.length ≤ 60000) : runP tab 1486 [.sl 2 (prs l), .int .i64 k] [] = some (rfst l k, []) := by
  refine runP_fn t1486 rfl ?_
  have hz := sorted_len (lt := ltH) l
  simp (config := { maxSteps := 1000000 }) (disch := omega) only [go_sem, ↓reduceIte, Nat.reduceEqDiff, Nat.reduceAdd, Int.reduceToNat, reduceCtorEq, Nat.reduceLeDiff, Nat.reduceSub, Nat.reduceDiv, Nat.reduceMod, Nat.reduceMul, d1486]
  refine Ev_loop0 (fun i => ⟨[(0, .sl 2 (prs l)), (1, .int .i64 k), (5, rfC l i), (6, .int .i64 (i : Int))], [], 0, [(0, 0, [0, 1, 5, 6], [])]⟩) l.length rfl (fun i hi => ?_) ?_
  · have e1 := takeS hi
    have hs : insO ltH (sorted ltH (l.take i)) (l.getD i default) = sorted ltH (l.take (i + 1)) := by
      rw [insO_sorted ordrH, e1]
      exact sorted_cong ordrH (List.perm_append_singleton _ _).symm
    have hzi : (sorted ltH (l.take i)).length = i := by rw [sorted_len, List.length_take]; omega
    have ec : rfC l (i + 1) = .sl 2 (prs (sorted ltH (l.take (i + 1)))) := by rw [rfC, if_neg (by omega)]
    rw [ec, ← hs]
    by_cases i0 : i = 0
    · subst i0
      have g := rput_run (s := 1) (l := []) (x := l.getD 0 default) (.inr rfl) (by simp)
      have h0 : sorted ltH (l.take 0) = [] := by simp [sorted]
      rw [h0]
      simp only [htA, prs_nil] at g
      have er : rdc (prs l) (some 2) = some (.agg [.int .i64 (l.getD 0 default).1, .int .i64 (l.getD 0 default).2]) := by
        have := prs_at hi
        rwa [List.drop_zero] at this
      simp (config := { maxSteps := 1000000 }) (disch := omega) only [go_sem, ↓reduceIte, Nat.reduceEqDiff, Nat.reduceAdd, Int.reduceToNat, reduceCtorEq, Nat.reduceLeDiff, Nat.reduceSub, Nat.reduceDiv, Nat.reduceMod, Nat.reduceMul, d1486_b0, rfC, er, g]
    · have g := rput_run (s := 2) (l := sorted ltH (l.take i)) (x := l.getD i default) (.inl rfl) (by omega)
      simp only [htA] at g
      have ec2 : rfC l i = .sl 2 (prs (sorted ltH (l.take i))) := by rw [rfC, if_neg i0]
      rw [ec2]
      simp (config := { maxSteps := 1000000 }) (disch := omega) only [go_sem, ↓reduceIte, Nat.reduceEqDiff, Nat.reduceAdd, Int.reduceToNat, reduceCtorEq, Nat.reduceLeDiff, Nat.reduceSub, Nat.reduceDiv, Nat.reduceMod, Nat.reduceMul, d1486_b0, prs_at, g]
  · by_cases hl0 : l = []
    · subst hl0
      have e : rfC [] ([] : List Ed).length = .nils := rfl
      rw [e, rfst, if_pos (Or.inr rfl)]
      by_cases h1 : k < 1
      · simp (config := { maxSteps := 1000000 }) (disch := omega) only [go_sem, ↓reduceIte, Nat.reduceEqDiff, Nat.reduceAdd, Int.reduceToNat, reduceCtorEq, Nat.reduceLeDiff, Nat.reduceSub, Nat.reduceDiv, Nat.reduceMod, Nat.reduceMul, d1486_b0, prs_nil]
      · have e2 : min k 0 = 0 := by omega
        simp (config := { maxSteps := 1000000 }) (disch := omega) only [go_sem, ↓reduceIte, Nat.reduceEqDiff, Nat.reduceAdd, Int.reduceToNat, reduceCtorEq, Nat.reduceLeDiff, Nat.reduceSub, Nat.reduceDiv, Nat.reduceMod, Nat.reduceMul, d1486_b0, prs_nil, e2]
    · have hpos : 0 < l.length := List.length_pos_iff.2 hl0
      have e : rfC l l.length = .sl 2 (prs (sorted ltH l)) := by rw [rfC, if_neg (by omega), List.take_length]
      rw [e, rfst]
      by_cases h1 : k < 1
      · rw [if_pos (Or.inl h1)]
        simp (config := { maxSteps := 1000000 }) (disch := omega) only [go_sem, ↓reduceIte, Nat.reduceEqDiff, Nat.reduceAdd, Int.reduceToNat, reduceCtorEq, Nat.reduceLeDiff, Nat.reduceSub, Nat.reduceDiv, Nat.reduceMod, Nat.reduceMul, d1486_b0]
      · rw [if_neg (by intro h; rcases h with h | h; exact h1 h; exact hl0 h)]
        unfold fst1
        have e2 : min k ((sorted ltH l).length : Int) = ((min k.toNat l.length : Nat) : Int) := by omega
        have e3 : min k.toNat l.length ≤ (sorted ltH l).length := by omega
        generalize min k.toNat l.length = p at *
        generalize sorted ltH l = s at *
        simp (config := { maxSteps := 1000000 }) (disch := omega) only [go_sem, ↓reduceIte, Nat.reduceEqDiff, Nat.reduceAdd, Int.reduceToNat, reduceCtorEq, Nat.reduceLeDiff, Nat.reduceSub, Nat.reduceDiv, Nat.reduceMod, Nat.reduceMul, d1486_b0, e2, prs_take_h]
end Go.Proofs.Ytpanhbaiimnlhaa
