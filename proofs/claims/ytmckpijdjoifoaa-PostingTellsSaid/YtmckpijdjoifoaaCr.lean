/- Postings: the document's Check. -/
import Derived.Test.YtmckpijdjoifoaaCp
namespace Go.Proofs.Ytmckpijdjoifoaa
set_option linter.unusedSimpArgs false
set_option linter.unusedVariables false
set_option maxHeartbeats 4000000
set_option maxRecDepth 100000
theorem qc_pl {n : Int} {P : List Po} (hP : okP P) {i : Nat} (hi : i < P.length) {k : Nat} (hk : k < (P.getD i default).2.length) (q : plOk n (P.getD i default).2 k) : Ev tab d1601_b1 ⟨[(0, .sl 2 (poS P)), (1, .int .i64 n), (5, .int .i64 (i : Int)), (6, .int .i64 (k : Int))], [], 0, [(1, 0, [0, 1, 5, 6], []), (0, 0, [0, 1, 5], [])]⟩ (fun x st => x = .normal ∧ st = ⟨[(0, .sl 2 (poS P)), (1, .int .i64 n), (5, .int .i64 (i : Int)), (6, .int .i64 ((k + 1 : Nat) : Int))], [], 0, [(1, 0, [0, 1, 5, 6], []), (0, 0, [0, 1, 5], [])]⟩) := by
  obtain ⟨⟨q1, q2⟩, q3⟩ := q
  have hn := hP.n
  have hr := hP.r _ (getD_mem' hi)
  have L := poS_len P
  have Ld : P.length * 2 / 2 = P.length := by omega
  have e2 := poS_at2 hi
  have Lp := ints_length (P.getD i default).2
  have f1 := ints_rdc0 hk
  by_cases h0 : 0 < k
  · have q3 := q3 h0
    have z : ((k : Int) - 1).toNat = k - 1 := by omega
    have f2 := ints_rdc0 (l := (P.getD i default).2) (i := k - 1) (by omega)
    simp (config := { maxSteps := 1000000 }) (disch := omega) only [go_sem, ↓reduceIte, Nat.reduceEqDiff, reduceCtorEq, d1601_b1, L, Ld, e2, Lp, f1, f2, z]
  · simp (config := { maxSteps := 1000000 }) (disch := omega) only [go_sem, ↓reduceIte, Nat.reduceEqDiff, reduceCtorEq, d1601_b1, L, Ld, e2, Lp, f1]
theorem qc_row {n : Int} {P : List Po} (hP : okP P) (hw : ∀ p ∈ P, p.1.length ≤ 1000000) {i : Nat} (hi : i < P.length) (q : poOk n P i) : Ev tab d1601_b0 ⟨[(0, .sl 2 (poS P)), (1, .int .i64 n), (5, .int .i64 (i : Int))], [], 0, [(0, 0, [0, 1, 5], [])]⟩ (fun x st => x = .normal ∧ st = ⟨[(0, .sl 2 (poS P)), (1, .int .i64 n), (5, .int .i64 ((i + 1 : Nat) : Int))], [], 0, [(0, 0, [0, 1, 5], [])]⟩) := by
  obtain ⟨⟨q1, q2⟩, q3, q4⟩ := q
  have hn := hP.n
  have hr := hP.r _ (getD_mem' hi)
  have L := poS_len P
  have Ld : P.length * 2 / 2 = P.length := by omega
  have e1 := poS_at1 hi
  have e2 := poS_at2 hi
  have Lp := ints_length (P.getD i default).2
  have g1 := word2_run (hw _ (getD_mem' hi))
  rw [q1] at g1
  by_cases h0 : 0 < i
  · have q2 := q2 h0
    have z : ((i : Int) - 1).toNat = i - 1 := by omega
    have e3 := poS_at1 (P := P) (i := i - 1) (by omega)
    simp (config := { maxSteps := 1000000 }) (disch := omega) only [go_sem, ↓reduceIte, Nat.reduceEqDiff, reduceCtorEq, d1601_b0, L, Ld, e1, e2, e3, Lp, g1, z, bl_lt, q2]
    refine Ev_loop0 (fun k => ⟨[(0, .sl 2 (poS P)), (1, .int .i64 n), (5, .int .i64 (i : Int)), (6, .int .i64 (k : Int))], [], 0, [(1, 0, [0, 1, 5, 6], []), (0, 0, [0, 1, 5], [])]⟩) (P.getD i default).2.length rfl (fun k hk => qc_pl hP hi hk (q3 k hk)) ?_
    simp (config := { maxSteps := 1000000 }) (disch := omega) only [go_sem, ↓reduceIte, Nat.reduceEqDiff, reduceCtorEq, d1601_b1, L, Ld, e2, Lp]
  · simp (config := { maxSteps := 1000000 }) (disch := omega) only [go_sem, ↓reduceIte, Nat.reduceEqDiff, reduceCtorEq, d1601_b0, L, Ld, e1, e2, Lp, g1]
    refine Ev_loop0 (fun k => ⟨[(0, .sl 2 (poS P)), (1, .int .i64 n), (5, .int .i64 (i : Int)), (6, .int .i64 (k : Int))], [], 0, [(1, 0, [0, 1, 5, 6], []), (0, 0, [0, 1, 5], [])]⟩) (P.getD i default).2.length rfl (fun k hk => qc_pl hP hi hk (q3 k hk)) ?_
    simp (config := { maxSteps := 1000000 }) (disch := omega) only [go_sem, ↓reduceIte, Nat.reduceEqDiff, reduceCtorEq, d1601_b1, L, Ld, e2, Lp]
theorem qcheck_run {n : Int} {P : List Po} (hn : I64 n) (hP : okP P) (hw : ∀ p ∈ P, p.1.length ≤ 1000000) : runP tab 1601 [.sl 2 (poS P), .int .i64 n] [] = some (.bool (decide (okC n P)), []) := by
  refine runP_fn t1601 rfl ?_
  have L := poS_len P
  have Ld : P.length * 2 / 2 = P.length := by omega
  have hn := hP.n
  by_cases c1 : 1 ≤ n
  case neg =>
    rw [decide_eq_false (fun h : okC n P => c1 h.1.1)]
    simp (config := { maxSteps := 1000000 }) (disch := omega) only [go_sem, ↓reduceIte, Nat.reduceEqDiff, reduceCtorEq, d1601]
  by_cases c2 : n ≤ 200
  case neg =>
    rw [decide_eq_false (fun h : okC n P => c2 h.1.2)]
    simp (config := { maxSteps := 1000000 }) (disch := omega) only [go_sem, ↓reduceIte, Nat.reduceEqDiff, reduceCtorEq, d1601]
  simp (config := { maxSteps := 1000000 }) (disch := omega) only [go_sem, ↓reduceIte, Nat.reduceEqDiff, reduceCtorEq, d1601]
  rcases first_ix' (poOk n P) P.length with h | ⟨m, m1, m2, m3⟩
  · rw [decide_eq_true (show okC n P from ⟨⟨c1, c2⟩, h⟩)]
    refine Ev_loop0 (fun i => ⟨[(0, .sl 2 (poS P)), (1, .int .i64 n), (5, .int .i64 (i : Int))], [], 0, [(0, 0, [0, 1, 5], [])]⟩) P.length rfl (fun i hi => qc_row hP hw hi (h i hi)) ?_
    simp (config := { maxSteps := 1000000 }) (disch := omega) only [go_sem, ↓reduceIte, Nat.reduceEqDiff, reduceCtorEq, d1601_b0, L, Ld]
  · rw [decide_eq_false (fun h : okC n P => m3 (h.2 m m1))]
    refine Ev_loop0 (fun i => ⟨[(0, .sl 2 (poS P)), (1, .int .i64 n), (5, .int .i64 (i : Int))], [], 0, [(0, 0, [0, 1, 5], [])]⟩) m rfl (fun i hi => qc_row hP hw (by omega) (m2 i hi)) ?_
    have hr := hP.r _ (getD_mem' m1)
    have e1 := poS_at1 m1
    have e2 := poS_at2 m1
    have Lp := ints_length (P.getD m default).2
    have g1 := word2_run (hw _ (getD_mem' m1))
    cases k1 : wordB (P.getD m default).1 with
    | false =>
      rw [k1] at g1
      simp (config := { maxSteps := 1000000 }) (disch := omega) only [go_sem, ↓reduceIte, Nat.reduceEqDiff, reduceCtorEq, d1601_b0, L, Ld, e1, g1]
    | true =>
      rw [k1] at g1
      have key : (0 < m → ltS (P.getD (m - 1) default).1 (P.getD m default).1 = true) → (P.getD m default).2.length = 0 ∨ ∃ k, k < (P.getD m default).2.length ∧ (∀ i, i < k → plOk n (P.getD m default).2 i) ∧ ¬ plOk n (P.getD m default).2 k := by
        intro hb
        by_cases hl : (P.getD m default).2.length = 0
        · exact .inl hl
        · rcases first_ix' (plOk n (P.getD m default).2) (P.getD m default).2.length with h | h
          · exact absurd ⟨⟨k1, hb⟩, h, by omega⟩ m3
          · exact .inr h
      by_cases h0 : 0 < m
      · have z : ((m : Int) - 1).toNat = m - 1 := by omega
        have e3 := poS_at1 (P := P) (i := m - 1) (by omega)
        cases k2 : ltS (P.getD (m - 1) default).1 (P.getD m default).1 with
        | false => simp (config := { maxSteps := 1000000 }) (disch := omega) only [go_sem, ↓reduceIte, Nat.reduceEqDiff, reduceCtorEq, d1601_b0, L, Ld, e1, e3, g1, z, bl_lt, k2]
        | true =>
          rcases key (fun _ => k2) with hl | ⟨k, hk, h1, h2⟩
          · simp (config := { maxSteps := 1000000 }) (disch := omega) only [go_sem, ↓reduceIte, Nat.reduceEqDiff, reduceCtorEq, d1601_b0, L, Ld, e1, e2, e3, Lp, g1, z, bl_lt, k2]
          · simp (config := { maxSteps := 1000000 }) (disch := omega) only [go_sem, ↓reduceIte, Nat.reduceEqDiff, reduceCtorEq, d1601_b0, L, Ld, e1, e2, e3, Lp, g1, z, bl_lt, k2]
            refine Ev_loop0 (fun k => ⟨[(0, .sl 2 (poS P)), (1, .int .i64 n), (5, .int .i64 (m : Int)), (6, .int .i64 (k : Int))], [], 0, [(1, 0, [0, 1, 5, 6], []), (0, 0, [0, 1, 5], [])]⟩) k rfl (fun i hi => qc_pl hP m1 (by omega) (h1 i hi)) ?_
            have f1 := ints_rdc0 hk
            by_cases q1 : 0 ≤ (P.getD m default).2.getD k 0
            case neg => simp (config := { maxSteps := 1000000 }) (disch := omega) only [go_sem, ↓reduceIte, Nat.reduceEqDiff, reduceCtorEq, d1601_b1, L, Ld, e2, Lp, f1]
            by_cases q2 : (P.getD m default).2.getD k 0 < n
            case neg => simp (config := { maxSteps := 1000000 }) (disch := omega) only [go_sem, ↓reduceIte, Nat.reduceEqDiff, reduceCtorEq, d1601_b1, L, Ld, e2, Lp, f1]
            have h0k : 0 < k := Classical.byContradiction fun hh => h2 ⟨⟨q1, q2⟩, fun h => absurd h hh⟩
            have q3 : ¬ (P.getD m default).2.getD (k - 1) 0 < (P.getD m default).2.getD k 0 := fun h => h2 ⟨⟨q1, q2⟩, fun _ => h⟩
            have zk : ((k : Int) - 1).toNat = k - 1 := by omega
            have f2 := ints_rdc0 (l := (P.getD m default).2) (i := k - 1) (by omega)
            simp (config := { maxSteps := 1000000 }) (disch := omega) only [go_sem, ↓reduceIte, Nat.reduceEqDiff, reduceCtorEq, d1601_b1, L, Ld, e2, Lp, f1, f2, zk]
      · rcases key (fun h => absurd h h0) with hl | ⟨k, hk, h1, h2⟩
        · simp (config := { maxSteps := 1000000 }) (disch := omega) only [go_sem, ↓reduceIte, Nat.reduceEqDiff, reduceCtorEq, d1601_b0, L, Ld, e1, e2, Lp, g1]
        · simp (config := { maxSteps := 1000000 }) (disch := omega) only [go_sem, ↓reduceIte, Nat.reduceEqDiff, reduceCtorEq, d1601_b0, L, Ld, e1, e2, Lp, g1]
          refine Ev_loop0 (fun k => ⟨[(0, .sl 2 (poS P)), (1, .int .i64 n), (5, .int .i64 (m : Int)), (6, .int .i64 (k : Int))], [], 0, [(1, 0, [0, 1, 5, 6], []), (0, 0, [0, 1, 5], [])]⟩) k rfl (fun i hi => qc_pl hP m1 (by omega) (h1 i hi)) ?_
          have f1 := ints_rdc0 hk
          by_cases q1 : 0 ≤ (P.getD m default).2.getD k 0
          case neg => simp (config := { maxSteps := 1000000 }) (disch := omega) only [go_sem, ↓reduceIte, Nat.reduceEqDiff, reduceCtorEq, d1601_b1, L, Ld, e2, Lp, f1]
          by_cases q2 : (P.getD m default).2.getD k 0 < n
          case neg => simp (config := { maxSteps := 1000000 }) (disch := omega) only [go_sem, ↓reduceIte, Nat.reduceEqDiff, reduceCtorEq, d1601_b1, L, Ld, e2, Lp, f1]
          have h0k : 0 < k := Classical.byContradiction fun hh => h2 ⟨⟨q1, q2⟩, fun h => absurd h hh⟩
          have q3 : ¬ (P.getD m default).2.getD (k - 1) 0 < (P.getD m default).2.getD k 0 := fun h => h2 ⟨⟨q1, q2⟩, fun _ => h⟩
          have zk : ((k : Int) - 1).toNat = k - 1 := by omega
          have f2 := ints_rdc0 (l := (P.getD m default).2) (i := k - 1) (by omega)
          simp (config := { maxSteps := 1000000 }) (disch := omega) only [go_sem, ↓reduceIte, Nat.reduceEqDiff, reduceCtorEq, d1601_b1, L, Ld, e2, Lp, f1, f2, zk]
end Go.Proofs.Ytmckpijdjoifoaa
