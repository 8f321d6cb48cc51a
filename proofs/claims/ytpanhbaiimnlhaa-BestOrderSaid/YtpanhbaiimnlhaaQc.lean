/- Layer 10: Put, Take, All, First, and the document's. -/
import Derived.Test.YtpanhbaiimnlhaaQb
namespace Go.Proofs.Ytpanhbaiimnlhaa
set_option linter.unusedSimpArgs false
set_option linter.unusedVariables false
set_option maxHeartbeats 4000000
set_option maxRecDepth 100000
theorem qnew_bad {m : Int} (h : m < 1 ∨ 1000 < m) : runP tab 1476 [.int .i64 m] [] = some (.tup [.nilp, .int .i64 1], []) := by
  refine runP_fn t1476 rfl ?_
  by_cases h1 : m < 1
  · simp (config := { maxSteps := 1000000 }) (disch := omega) only [go_sem, ↓reduceIte, Nat.reduceEqDiff, Nat.reduceAdd, Int.reduceToNat, reduceCtorEq, Nat.reduceLeDiff, Nat.reduceSub, Nat.reduceDiv, Nat.reduceMod, Nat.reduceMul, d1476]
  · simp (config := { maxSteps := 1000000 }) (disch := omega) only [go_sem, ↓reduceIte, Nat.reduceEqDiff, Nat.reduceAdd, Int.reduceToNat, reduceCtorEq, Nat.reduceLeDiff, Nat.reduceSub, Nat.reduceDiv, Nat.reduceMod, Nat.reduceMul, d1476]
theorem qnew_ok {m : Int} (h : 1 ≤ m ∧ m ≤ 1000) : runP tab 1476 [.int .i64 m] [] = some (.tup [.box [.vec 2 [], .int .i64 m], .int .i64 0], []) := by
  refine runP_fn t1476 rfl ?_
  simp (config := { maxSteps := 1000000 }) (disch := omega) only [go_sem, ↓reduceIte, Nat.reduceEqDiff, Nat.reduceAdd, Int.reduceToNat, reduceCtorEq, Nat.reduceLeDiff, Nat.reduceSub, Nat.reduceDiv, Nat.reduceMod, Nat.reduceMul, d1476]
theorem qlen_run {m : Int} {d : Array Ed} {c : AV} (hc : c = .sl 2 (prs d.toList)) : runP tab 1482 [.ip [c, .int .i64 m]] [] = some (.int .i64 (d.size : Int), []) := by
  subst hc
  have := hlen_h (m := m) d.toList
  rwa [arr_len] at this
theorem qput_fit {m : Int} {d : Array Ed} {x : Ed} (hs : d.size < 1000000) (hm : (d.size : Int) + 1 ≤ m) : runP tab 1478 [.ref 0 0, htA x] [.row false [.vec 2 (prs d.toList), .int .i64 m]] = some (.tup [htA (0, 0), .bool false], [.row false [.vec 2 (prs (hpPut ltH d x).toList), .int .i64 m]]) := by
  refine runP_fn t1478 rfl ?_
  have g1 := hpush_run (m := m) (x := x) hs
  have g2 := qlen_run (m := m) (d := hpPut ltH d x) rfl
  have hz := hpPut_size (lt := ltH) d x
  rw [hz] at g2
  simp only [htA] at g1
  generalize hpPut ltH d x = q at *
  simp (config := { maxSteps := 1000000 }) (disch := omega) only [go_sem, ↓reduceIte, Nat.reduceEqDiff, Nat.reduceAdd, Int.reduceToNat, reduceCtorEq, Nat.reduceLeDiff, Nat.reduceSub, Nat.reduceDiv, Nat.reduceMod, Nat.reduceMul, d1478, htA, g1, g2]
theorem qput_over {m : Int} {d : Array Ed} {x : Ed} (hs : d.size < 60000) (hm : m < (d.size : Int) + 1) : runP tab 1478 [.ref 0 0, htA x] [.row false [.vec 2 (prs d.toList), .int .i64 m]] =
    some (.tup [htA (hpPut ltH d x)[lst ltH (hpPut ltH d x) (hpPut ltH d x).size]!, .bool true], [.row false [.vec 2 (prs (hpRem ltH (hpPut ltH d x) (lst ltH (hpPut ltH d x) (hpPut ltH d x).size)).toList), .int .i64 m]]) := by
  refine runP_fn t1478 rfl ?_
  have g1 := hpush_run (m := m) (d := d) (x := x) (by omega)
  have g2 := qlen_run (m := m) (d := hpPut ltH d x) rfl
  have hz := hpPut_size (lt := ltH) d x
  have hl := lst_lt (lt := ltH) (hpPut ltH d x) (hpPut ltH d x).size (by omega)
  have g3 := hlast_run (d := hpPut ltH d x) (by omega) (by omega)
  have g4 := hrem_run (m := m) (d := hpPut ltH d x) hl (by omega)
  rw [hz] at g2
  simp only [htA] at g1 g4
  generalize hpPut ltH d x = q at *
  generalize lst ltH q q.size = at0 at *
  simp (config := { maxSteps := 1000000 }) (disch := omega) only [go_sem, ↓reduceIte, Nat.reduceEqDiff, Nat.reduceAdd, Int.reduceToNat, reduceCtorEq, Nat.reduceLeDiff, Nat.reduceSub, Nat.reduceDiv, Nat.reduceMod, Nat.reduceMul, d1478, htA, g1, g2, g3, g4]
theorem qtake_none {m : Int} {d : Array Ed} (h0 : d.size = 0) : runP tab 1480 [.ref 0 0] [.row false [.vec 2 (prs d.toList), .int .i64 m]] = some (.tup [htA (0, 0), .bool false], [.row false [.vec 2 (prs d.toList), .int .i64 m]]) := by
  refine runP_fn t1480 rfl ?_
  have g2 := qlen_run (m := m) (d := d) rfl
  rw [h0] at g2
  simp (config := { maxSteps := 1000000 }) (disch := omega) only [go_sem, ↓reduceIte, Nat.reduceEqDiff, Nat.reduceAdd, Int.reduceToNat, reduceCtorEq, Nat.reduceLeDiff, Nat.reduceSub, Nat.reduceDiv, Nat.reduceMod, Nat.reduceMul, d1480, htA, g2]
theorem qtake_run {m : Int} {d : Array Ed} (h0 : 0 < d.size) (hs : d.size ≤ 1000000) : runP tab 1480 [.ref 0 0] [.row false [.vec 2 (prs d.toList), .int .i64 m]] = some (.tup [htA d[0]!, .bool true], [.row false [.vec 2 (prs (hpPop ltH d).toList), .int .i64 m]]) := by
  refine runP_fn t1480 rfl ?_
  have g2 := qlen_run (m := m) (d := d) rfl
  have g3 := hpopf_h (m := m) h0 hs
  simp (config := { maxSteps := 1000000 }) (disch := omega) only [go_sem, ↓reduceIte, Nat.reduceEqDiff, Nat.reduceAdd, Int.reduceToNat, reduceCtorEq, Nat.reduceLeDiff, Nat.reduceSub, Nat.reduceDiv, Nat.reduceMod, Nat.reduceMul, d1480, htA, g2, g3]
theorem qall_run {m : Int} {d : Array Ed} (hs : d.size ≤ 60000) : runP tab 1483 [.ip [.sl 2 (prs d.toList), .int .i64 m]] [] = some (.vec 2 (prs (sorted ltH d.toList)), []) := by
  refine runP_fn t1483 rfl ?_
  have g := hsorted_run (l := d.toList) (by rw [arr_len]; exact hs)
  simp (config := { maxSteps := 1000000 }) (disch := omega) only [go_sem, ↓reduceIte, Nat.reduceEqDiff, Nat.reduceAdd, Int.reduceToNat, reduceCtorEq, Nat.reduceLeDiff, Nat.reduceSub, Nat.reduceDiv, Nat.reduceMod, Nat.reduceMul, d1483, g]
theorem qput_nil {x : Ed} : runP tab 1478 [.nilp, htA x] [] = some (.tup [htA (0, 0), .bool false], []) := by
  refine runP_fn t1478 rfl ?_
  simp (config := { maxSteps := 1000000 }) (disch := omega) only [go_sem, ↓reduceIte, Nat.reduceEqDiff, Nat.reduceAdd, Int.reduceToNat, reduceCtorEq, Nat.reduceLeDiff, Nat.reduceSub, Nat.reduceDiv, Nat.reduceMod, Nat.reduceMul, d1478, htA]
theorem qlen_nil : runP tab 1482 [.nilp] [] = some (.int .i64 0, []) := by
  refine runP_fn t1482 rfl ?_
  simp (config := { maxSteps := 1000000 }) (disch := omega) only [go_sem, ↓reduceIte, Nat.reduceEqDiff, Nat.reduceAdd, Int.reduceToNat, reduceCtorEq, Nat.reduceLeDiff, Nat.reduceSub, Nat.reduceDiv, Nat.reduceMod, Nat.reduceMul, d1482]
theorem qtake_nil : runP tab 1480 [.nilp] [] = some (.tup [htA (0, 0), .bool false], []) := by
  refine runP_fn t1480 rfl ?_
  have g := qlen_nil
  simp (config := { maxSteps := 1000000 }) (disch := omega) only [go_sem, ↓reduceIte, Nat.reduceEqDiff, Nat.reduceAdd, Int.reduceToNat, reduceCtorEq, Nat.reduceLeDiff, Nat.reduceSub, Nat.reduceDiv, Nat.reduceMod, Nat.reduceMul, d1480, htA, g]
theorem qall_nil : runP tab 1483 [.nilp] [] = some (.vec 2 [], []) := by
  refine runP_fn t1483 rfl ?_
  simp (config := { maxSteps := 1000000 }) (disch := omega) only [go_sem, ↓reduceIte, Nat.reduceEqDiff, Nat.reduceAdd, Int.reduceToNat, reduceCtorEq, Nat.reduceLeDiff, Nat.reduceSub, Nat.reduceDiv, Nat.reduceMod, Nat.reduceMul, d1483]
def fst1 (l : List Ed) (k : Int) : List Ed := (sorted ltH l).take (min k.toNat l.length)
theorem qfirst_run {l : List Ed} {k : Int} (hl : l.length ≤ 60000) : runP tab 1485 [.sl 2 (prs l), .int .i64 k] [] = some (.vec 2 (prs (fst1 l k)), []) := by
  refine runP_fn t1485 rfl ?_
  have g := hsorted_run (l := l) hl
  have hz := sorted_len (lt := ltH) l
  simp (config := { maxSteps := 1000000 }) (disch := omega) only [go_sem, ↓reduceIte, Nat.reduceEqDiff, Nat.reduceAdd, Int.reduceToNat, reduceCtorEq, Nat.reduceLeDiff, Nat.reduceSub, Nat.reduceDiv, Nat.reduceMod, Nat.reduceMul, d1485]
  refine Ev_loop0 (fun i => ⟨[(0, .sl 2 (prs l)), (1, .int .i64 k), (5, .own 2 0), (8, .sl 2 (prs l)), (9, .int .i64 (l.length : Int)), (10, .int .i64 (i : Int))], [.row false (prs (l.take i))], 0, [(0, 1, [0, 1, 5, 8, 9, 10], [(5, 0)])]⟩) l.length (by simp [prs]) (fun i hi => ?_) ?_
  · have e1 := takeS hi
    have e2 : (l.take i).length = i := by rw [List.length_take]; omega
    simp (config := { maxSteps := 1000000 }) (disch := omega) only [go_sem, ↓reduceIte, Nat.reduceEqDiff, Nat.reduceAdd, Int.reduceToNat, reduceCtorEq, Nat.reduceLeDiff, Nat.reduceSub, Nat.reduceDiv, Nat.reduceMod, Nat.reduceMul, d1485_b0, prs_at, prs_snoc, e1, e2]
  · unfold fst1
    have e : max 0 (min k (l.length : Int)) = ((min k.toNat l.length : Nat) : Int) := by omega
    have e3 : min k.toNat l.length ≤ (sorted ltH l).length := by omega
    generalize min k.toNat l.length = p at *
    generalize sorted ltH l = s at *
    simp (config := { maxSteps := 1000000 }) (disch := omega) only [go_sem, ↓reduceIte, Nat.reduceEqDiff, Nat.reduceAdd, Int.reduceToNat, reduceCtorEq, Nat.reduceLeDiff, Nat.reduceSub, Nat.reduceDiv, Nat.reduceMod, Nat.reduceMul, d1485_b0, List.take_length, g, e, prs_take_h]
theorem ahead_run {a b : Ed} : runP tab 1487 [htA a, htA b] [] = some (.bool (ltH a b), []) := by
  refine runP_fn t1487 rfl ?_
  unfold ltH
  by_cases h1 : a.2 < b.2
  · rw [decide_eq_true (Or.inl h1)]
    simp (config := { maxSteps := 1000000 }) (disch := omega) only [go_sem, ↓reduceIte, Nat.reduceEqDiff, Nat.reduceAdd, Int.reduceToNat, reduceCtorEq, Nat.reduceLeDiff, Nat.reduceSub, Nat.reduceDiv, Nat.reduceMod, Nat.reduceMul, d1487, htA]
  · by_cases h2 : a.2 = b.2
    · by_cases h3 : a.1 < b.1
      · rw [decide_eq_true (Or.inr ⟨h2, h3⟩)]
        simp (config := { maxSteps := 1000000 }) (disch := omega) only [go_sem, ↓reduceIte, Nat.reduceEqDiff, Nat.reduceAdd, Int.reduceToNat, reduceCtorEq, Nat.reduceLeDiff, Nat.reduceSub, Nat.reduceDiv, Nat.reduceMod, Nat.reduceMul, d1487, htA]
      · rw [decide_eq_false (by omega)]
        simp (config := { maxSteps := 1000000 }) (disch := omega) only [go_sem, ↓reduceIte, Nat.reduceEqDiff, Nat.reduceAdd, Int.reduceToNat, reduceCtorEq, Nat.reduceLeDiff, Nat.reduceSub, Nat.reduceDiv, Nat.reduceMod, Nat.reduceMul, d1487, htA]
    · rw [decide_eq_false (by omega)]
      simp (config := { maxSteps := 1000000 }) (disch := omega) only [go_sem, ↓reduceIte, Nat.reduceEqDiff, Nat.reduceAdd, Int.reduceToNat, reduceCtorEq, Nat.reduceLeDiff, Nat.reduceSub, Nat.reduceDiv, Nat.reduceMod, Nat.reduceMul, d1487, htA]
theorem prs_nil : prs [] = [] := rfl
theorem rput_run {s : Nat} {l : List Ed} {x : Ed} (hsl : s = 2 ∨ l = []) (hl : l.length ≤ 60000) : runP tab 1491 [.sl s (prs l), htA x] [] = some (.sl 2 (prs (insO ltH l x)), []) := by
  refine runP_fn t1491 rfl ?_
  have hu := upO_le (lt := ltH) l x
  rcases hsl with rfl | rfl
  · simp (config := { maxSteps := 1000000 }) (disch := omega) only [go_sem, ↓reduceIte, Nat.reduceEqDiff, Nat.reduceAdd, Int.reduceToNat, reduceCtorEq, Nat.reduceLeDiff, Nat.reduceSub, Nat.reduceDiv, Nat.reduceMod, Nat.reduceMul, htA, d1491]
    refine Ev_loop0 (fun i => ⟨[(0, .sl 2 (prs l)), (3, .ref 0 0), (5, .int .i64 (i : Int))], [.row false [.int .i64 x.1, .int .i64 x.2]], 0, [(0, 1, [0, 3, 5], [(3, 0)])]⟩) (upO ltH l x) rfl (fun i hi => ?_) ?_
    · have h1 := upO_before (lt := ltH) hi
      have g := ahead_run (a := x) (b := l.getD i default)
      rw [h1] at g
      simp only [htA] at g
      simp (config := { maxSteps := 1000000 }) (disch := omega) only [go_sem, ↓reduceIte, Nat.reduceEqDiff, Nat.reduceAdd, Int.reduceToNat, reduceCtorEq, Nat.reduceLeDiff, Nat.reduceSub, Nat.reduceDiv, Nat.reduceMod, Nat.reduceMul, d1491_b0, prs_at, g]
    · unfold insO
      have e1 : (l.take (upO ltH l x)).length = upO ltH l x := by rw [List.length_take]; omega
      have e2 : (l.drop (upO ltH l x)).length = l.length - upO ltH l x := List.length_drop
      by_cases h : upO ltH l x < l.length
      · have h1 := upO_at h
        have g := ahead_run (a := x) (b := l.getD (upO ltH l x) default)
        rw [h1] at g
        simp only [htA] at g
        generalize upO ltH l x = p at *
        simp (config := { maxSteps := 1000000 }) (disch := omega) only [go_sem, ↓reduceIte, Nat.reduceEqDiff, Nat.reduceAdd, Int.reduceToNat, reduceCtorEq, Nat.reduceLeDiff, Nat.reduceSub, Nat.reduceDiv, Nat.reduceMod, Nat.reduceMul, d1491_b0, prs_at, g, prs_snoc, prs_take_h, prs_drop, prs_app, e1, e2, List.length_append]
        rw [List.append_assoc]; rfl
      · generalize upO ltH l x = p at *
        simp (config := { maxSteps := 1000000 }) (disch := omega) only [go_sem, ↓reduceIte, Nat.reduceEqDiff, Nat.reduceAdd, Int.reduceToNat, reduceCtorEq, Nat.reduceLeDiff, Nat.reduceSub, Nat.reduceDiv, Nat.reduceMod, Nat.reduceMul, d1491_b0, prs_snoc, prs_take_h, prs_drop, prs_app, e1, e2]
        first | (rw [List.append_assoc]; rfl) | skip
  · have e0 : insO ltH ([] : List Ed) x = [x] := rfl
    simp (config := { maxSteps := 1000000 }) (disch := omega) only [go_sem, ↓reduceIte, Nat.reduceEqDiff, Nat.reduceAdd, Int.reduceToNat, reduceCtorEq, Nat.reduceLeDiff, Nat.reduceSub, Nat.reduceDiv, Nat.reduceMod, Nat.reduceMul, htA, d1491, prs_nil]
    refine Ev_stop ?_
    rw [e0]
    simp (config := { maxSteps := 1000000 }) (disch := omega) only [go_sem, ↓reduceIte, Nat.reduceEqDiff, Nat.reduceAdd, Int.reduceToNat, reduceCtorEq, Nat.reduceLeDiff, Nat.reduceSub, Nat.reduceDiv, Nat.reduceMod, Nat.reduceMul, d1491_b0, prs_nil]
    first | rfl | skip
def rcell (L : List Ed) (c : AV) : Prop := (c = .nils ∧ L = []) ∨ c = .sl 2 (prs L)
theorem rfput_run {M : Nat} {L : List Ed} {c : AV} {x : Ed} (hc : rcell L c) (hl : L.length < 60000) (hM : L.length ≤ M) : ∃ r, runP tab 1479 [.ref 0 0, htA x] [.row false [c, .int .i64 (M : Int)]] = some r ∧
    ((L.length + 1 ≤ M ∧ r = (.tup [htA (0, 0), .bool false], [.row false [.sl 2 (prs (insO ltH L x)), .int .i64 (M : Int)]])) ∨ (M < L.length + 1 ∧ r = (.tup [htA ((insO ltH L x).getD M default), .bool true], [.row false [.sl 2 (prs ((insO ltH L x).take M)), .int .i64 (M : Int)]]))) := by
  have hz := insO_len (lt := ltH) L x
  have g1 : ∃ s, (fz [] c = some (.sl s (prs L)) ∧ (s = 2 ∨ L = [])) := by
    rcases hc with ⟨rfl, rfl⟩ | rfl
    · exact ⟨1, rfl, .inr rfl⟩
    · exact ⟨2, by simp [fz, prs_noid', noidL], .inl rfl⟩
  obtain ⟨s, _, hs⟩ := g1
  have hr : ∀ s, (s = 2 ∨ L = []) → runP tab 1491 [.sl s (prs L), htA x] [] = some (.sl 2 (prs (insO ltH L x)), []) := fun s hs => rput_run hs (by omega)
  have hat : ∀ p, p < (insO ltH L x).length → rdc (prs ((insO ltH L x).drop p)) (some 2) = some (.agg [.int .i64 ((insO ltH L x).getD p default).1, .int .i64 ((insO ltH L x).getD p default).2]) := fun p hp => prs_at hp
  generalize insO ltH L x = L' at *
  by_cases h : L.length + 1 ≤ M
  · refine ⟨_, ?_, .inl ⟨h, rfl⟩⟩
    refine runP_fn t1479 rfl ?_
    rcases hc with ⟨rfl, rfl⟩ | rfl
    · simp only [List.length_nil, Nat.zero_add] at h hM hz
      have g := hr 1 (.inr rfl)
      simp only [htA, show prs ([] : List Ed) = [] from rfl] at g
      simp (config := { maxSteps := 1000000 }) (disch := omega) only [go_sem, ↓reduceIte, Nat.reduceEqDiff, Nat.reduceAdd, Int.reduceToNat, reduceCtorEq, Nat.reduceLeDiff, Nat.reduceSub, Nat.reduceDiv, Nat.reduceMod, Nat.reduceMul, d1479, htA, g, hz]
    · have g := hr 2 (.inl rfl)
      simp only [htA] at g
      simp (config := { maxSteps := 1000000 }) (disch := omega) only [go_sem, ↓reduceIte, Nat.reduceEqDiff, Nat.reduceAdd, Int.reduceToNat, reduceCtorEq, Nat.reduceLeDiff, Nat.reduceSub, Nat.reduceDiv, Nat.reduceMod, Nat.reduceMul, d1479, htA, g, hz]
  · refine ⟨_, ?_, .inr ⟨by omega, rfl⟩⟩
    refine runP_fn t1479 rfl ?_
    have hat := hat M (by omega)
    rcases hc with ⟨rfl, rfl⟩ | rfl
    · simp only [List.length_nil, Nat.zero_add] at h hM hz
      have g := hr 1 (.inr rfl)
      simp only [htA, show prs ([] : List Ed) = [] from rfl] at g
      simp (config := { maxSteps := 1000000 }) (disch := omega) only [go_sem, ↓reduceIte, Nat.reduceEqDiff, Nat.reduceAdd, Int.reduceToNat, reduceCtorEq, Nat.reduceLeDiff, Nat.reduceSub, Nat.reduceDiv, Nat.reduceMod, Nat.reduceMul, d1479, htA, g, hz, prs_drop, prs_take_h, hat]
    · have g := hr 2 (.inl rfl)
      simp only [htA] at g
      simp (config := { maxSteps := 1000000 }) (disch := omega) only [go_sem, ↓reduceIte, Nat.reduceEqDiff, Nat.reduceAdd, Int.reduceToNat, reduceCtorEq, Nat.reduceLeDiff, Nat.reduceSub, Nat.reduceDiv, Nat.reduceMod, Nat.reduceMul, d1479, htA, g, hz, prs_drop, prs_take_h, hat]
theorem rftake_none {m : Int} {c : AV} (hc : rcell [] c) : runP tab 1481 [.ref 0 0] [.row false [c, .int .i64 m]] = some (.tup [htA (0, 0), .bool false], [.row false [c, .int .i64 m]]) := by
  refine runP_fn t1481 rfl ?_
  rcases hc with ⟨rfl, _⟩ | rfl <;> simp (config := { maxSteps := 1000000 }) (disch := omega) only [go_sem, ↓reduceIte, Nat.reduceEqDiff, Nat.reduceAdd, Int.reduceToNat, reduceCtorEq, Nat.reduceLeDiff, Nat.reduceSub, Nat.reduceDiv, Nat.reduceMod, Nat.reduceMul, d1481, htA, show prs ([] : List Ed) = [] from rfl]
theorem rftake_run {m : Int} {x : Ed} {L : List Ed} (hl : L.length ≤ 60000) : runP tab 1481 [.ref 0 0] [.row false [.sl 2 (prs (x :: L)), .int .i64 m]] = some (.tup [htA x, .bool true], [.row false [.sl 2 (prs L), .int .i64 m]]) := by
  refine runP_fn t1481 rfl ?_
  have h2 : rdc (prs (x :: L)) (some 2) = some (.agg [.int .i64 x.1, .int .i64 x.2]) := by
    have := prs_at (l := x :: L) (i := 0) (by simp)
    rwa [List.drop_zero] at this
  have h3 : (prs (x :: L)).drop 2 = prs L := rfl
  have h4 : (prs L).take (L.length * 2) = prs L := List.take_of_length_le (by rw [prs_len]; exact Nat.le_refl _)
  have h5 : (x :: L).length = L.length + 1 := rfl
  have h6 : ¬ ((L.length : Int) + 1 = 0) := by omega
  simp (config := { maxSteps := 1000000 }) (disch := omega) only [go_sem, ↓reduceIte, Nat.reduceEqDiff, Nat.reduceAdd, Int.reduceToNat, reduceCtorEq, Nat.reduceLeDiff, Nat.reduceSub, Nat.reduceDiv, Nat.reduceMod, Nat.reduceMul, d1481, htA, h2, h3, h4, h5, h6, Nat.add_sub_cancel]
end Go.Proofs.Ytpanhbaiimnlhaa
