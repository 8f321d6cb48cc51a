/- Layer 16: the document's Parse. -/
import Derived.Test.YtpbdbhpneihopaaYi
namespace Go.Proofs.Ytpbdbhpneihopaa
set_option linter.unusedSimpArgs false
set_option linter.unusedVariables false
set_option maxHeartbeats 4000000
set_option maxRecDepth 100000
theorem psM_full {s : List UInt8} {l : List Ml} {e : Nat} (h : psM s = some (l, e)) : parseA s = if okMs l = true ∧ prM l = s then [.vec 4 (mls l), .int .i64 0] else [.vec 4 [], .int .i64 220] := by
  obtain ⟨h1, h2, h3, h4⟩ := psM_sound h
  have hiff : e = s.length ↔ prM l = s := by
    constructor
    · rintro rfl; rw [← h1, List.take_length]
    · intro hs
      have := psM_back h3 h4 []
      rw [List.append_nil, hs, h] at this
      simp only [Option.some.injEq, Prod.mk.injEq, true_and] at this
      exact this
  unfold parseA alM
  rw [h]
  simp only
  by_cases he : e = s.length
  · rw [if_pos he]
    simp only
    by_cases ho : okMs l = true
    · rw [if_pos ho, if_pos ⟨ho, hiff.1 he⟩]
    · rw [if_neg ho, if_neg (fun h => ho h.1)]
  · rw [if_neg he]
    simp only
    rw [if_neg (fun h => he (hiff.2 h.2))]
theorem psM_none {s : List UInt8} (h : psM s = none) : parseA s = [.vec 4 [], .int .i64 220] := by
  unfold parseA alM
  rw [h]
def jkM : List Mark := [(1, 2, [0, 4, 5, 7, 8, 9, 10], [(7, 0), (9, 1)]), (0, 1, [0, 4, 5, 7, 8], [(7, 0)])]
def jkS (s : List UInt8) (n i : Int) (A : List Ml) (j : Nat) (acc : List Int) (m : Nat) : St := ⟨[(0, .str s), (4, .int .i64 n), (5, .int .i64 (j : Int)), (7, .own 4 0), (8, .int .i64 i), (9, .ref 1 0), (10, .int .i64 (acc.length : Int))], [.row false (mls A), .row false (ints (acc ++ List.replicate m 0))], 0, jkM⟩
theorem jk_step {s : List UInt8} (hs : s.length ≤ 1000000) {n i : Int} {A : List Ml} (hA : A.length ≤ 100000) {j e v : Nat} {acc : List Int} {m : Nat} (ha : acc.length + (m + 1) = 4) (hj : j ≤ s.length) (h : rdN s j = some (v, e)) : Ev tab d1619_b1 (jkS s n i A j acc (m + 1)) (fun x st => x = .normal ∧ st = jkS s n i A e (acc ++ [(v : Int)]) m) := by
  have g := rrd_run hs hj
  rw [h] at g
  simp only [rdA] at g
  have L : (acc ++ List.replicate (m + 1) (0 : Int)).length = 4 := by simp; omega
  have e1 : (acc ++ List.replicate (m + 1) (0 : Int)).set acc.length (v : Int) = (acc ++ [(v : Int)]) ++ List.replicate m 0 := by
    rw [List.replicate_succ, List.set_append_right _ _ (Nat.le_refl _), Nat.sub_self, List.set_cons_zero, List.append_assoc]; rfl
  unfold jkS jkM
  rw [← e1]
  simp (config := { maxSteps := 1000000 }) (disch := omega) only [go_sem, ↓reduceIte, Nat.reduceEqDiff, Nat.reduceAdd, Int.reduceToNat, reduceCtorEq, Nat.reduceLeDiff, Nat.reduceSub, Nat.reduceDiv, Nat.reduceMod, Nat.reduceMul, d1619_b1, g, L, List.length_append]
def joS (s : List UInt8) (n j : Nat) (A : List Ml) (i : Nat) : St := ⟨[(0, .str s), (4, .int .i64 (n : Int)), (5, .int .i64 (j : Int)), (7, .own 4 0), (8, .int .i64 (i : Int))], [.row false (mls A)], 0, [(0, 1, [0, 4, 5, 7, 8], [(7, 0)])]⟩
theorem jo_step {s : List UInt8} (hs : s.length ≤ 1000000) {A : List Ml} {n j e i : Nat} {l : List Int} (hA : A.length ≤ 1000) (hn : n ≤ 1000) (hi : i < n) (hj : j ≤ s.length) (h : rsK 4 s j [] = some (l, e)) : Ev tab d1619_b0 (joS s n j A i) (fun x st => x = .normal ∧ st = joS s n e (A ++ [ml4 l]) (i + 1)) := by
  have hl := rsK_len h
  unfold joS
  simp (config := { maxSteps := 1000000 }) (disch := omega) only [go_sem, ↓reduceIte, Nat.reduceEqDiff, Nat.reduceAdd, Int.reduceToNat, reduceCtorEq, Nat.reduceLeDiff, Nat.reduceSub, Nat.reduceDiv, Nat.reduceMod, Nat.reduceMul, d1619_b0]
  refine Ev_inv (fun k st => ∃ (acc : List Int) (j' : Nat), j' ≤ s.length ∧ rsK k s j' acc = some (l, e) ∧ acc.length + k = 4 ∧ st = jkS s n (i : Int) A j' acc k) ?_ (i := 4) ⟨[], j, hj, h, rfl, rfl⟩
  rintro k st ⟨acc, j', h0, h1, h2, rfl⟩
  cases k with
  | succ k =>
    simp only [rsK] at h1
    split at h1
    · rename_i v e' hr
      refine Ev_mono (jk_step hs (by omega) h2 h0 hr) ?_
      rintro x st ⟨rfl, rfl⟩
      exact .inl ⟨rfl, k, by omega, _, _, by have := rdN_sound hr; omega, h1, by simp; omega, rfl⟩
    · cases h1
  | zero =>
    simp only [rsK, Option.some.injEq, Prod.mk.injEq] at h1
    obtain ⟨rfl, rfl⟩ := h1
    obtain ⟨a, b, c, d, rfl⟩ : ∃ a b c d, acc = [a, b, c, d] := by
      match acc, h2 with
      | [a, b, c, d], _ => exact ⟨a, b, c, d, rfl⟩
    have L := mls_len A
    have em : mls A ++ [.int .i64 a, .int .i64 b, .int .i64 c, .int .i64 d] = mls (A ++ [ml4 [a, b, c, d]]) := by rw [← mls_app]; rfl
    unfold jkS jkM
    simp (config := { maxSteps := 1000000 }) (disch := omega) only [go_sem, ↓reduceIte, Nat.reduceEqDiff, Nat.reduceAdd, Int.reduceToNat, reduceCtorEq, Nat.reduceLeDiff, Nat.reduceSub, Nat.reduceDiv, Nat.reduceMod, Nat.reduceMul, d1619_b1, ints, List.map_cons, List.map_nil, List.replicate_zero, List.append_nil, List.length_cons, List.length_nil, L, em]
theorem rparse_run {s : List UInt8} (hs : s.length ≤ 1000000) : runP tab 1619 [.str s] [] = some (.tup (parseA s), []) := by
  refine runP_fn t1619 rfl ?_
  have g0 := rrd_run hs (Nat.zero_le s.length)
  rw [show ((0 : Nat) : Int) = 0 from rfl] at g0
  cases hr : rdN s 0 with
  | none =>
    rw [psM_none (by unfold psM; rw [hr])]
    rw [hr] at g0
    simp only [rdA] at g0
    simp (config := { maxSteps := 1000000 }) (disch := omega) only [go_sem, ↓reduceIte, Nat.reduceEqDiff, Nat.reduceAdd, Int.reduceToNat, reduceCtorEq, Nat.reduceLeDiff, Nat.reduceSub, Nat.reduceDiv, Nat.reduceMod, Nat.reduceMul, d1619, g0]
  | some r =>
    obtain ⟨n, j⟩ := r
    rw [hr] at g0
    simp only [rdA] at g0
    by_cases hn : n ≤ 1000
    case neg =>
      rw [psM_none (by unfold psM; rw [hr]; simp only; rw [if_neg hn])]
      simp (config := { maxSteps := 1000000 }) (disch := omega) only [go_sem, ↓reduceIte, Nat.reduceEqDiff, Nat.reduceAdd, Int.reduceToNat, reduceCtorEq, Nat.reduceLeDiff, Nat.reduceSub, Nat.reduceDiv, Nat.reduceMod, Nat.reduceMul, d1619, g0]
    have hp : psM s = rsM n s j [] := by unfold psM; rw [hr]; simp only; rw [if_pos hn]
    have hj : j ≤ s.length := by have := rdN_sound hr; omega
    simp (config := { maxSteps := 1000000 }) (disch := omega) only [go_sem, ↓reduceIte, Nat.reduceEqDiff, Nat.reduceAdd, Int.reduceToNat, reduceCtorEq, Nat.reduceLeDiff, Nat.reduceSub, Nat.reduceDiv, Nat.reduceMod, Nat.reduceMul, d1619, g0]
    refine Ev_inv (fun k st => ∃ (A : List Ml) (j' : Nat), j' ≤ s.length ∧ rsM k s j' A = psM s ∧ A.length + k = n ∧ st = joS s n j' A A.length) ?_ (i := n) ⟨[], j, hj, hp.symm, by simp, rfl⟩
    rintro k st ⟨A, j', h0, h1, h2, rfl⟩
    have L := mls_len A
    cases k with
    | zero =>
      simp only [rsM] at h1
      rw [psM_full h1.symm]
      have gp := rprint_run (l := A) (by omega)
      unfold joS
      unfold printA at gp
      rw [if_neg (by omega)] at gp
      cases ho : okMs A with
      | false =>
        rw [ho] at gp
        simp only [Bool.false_eq_true, if_false] at gp
        simp (config := { maxSteps := 1000000 }) (disch := omega) only [go_sem, ↓reduceIte, Nat.reduceEqDiff, Nat.reduceAdd, Int.reduceToNat, reduceCtorEq, Nat.reduceLeDiff, Nat.reduceSub, Nat.reduceDiv, Nat.reduceMod, Nat.reduceMul, d1619_b0, gp, Bool.false_eq_true, false_and, if_false]
      | true =>
        rw [ho] at gp
        simp only [if_true] at gp
        by_cases hs : prM A = s
        · have hb : (prM A == s) = true := by rw [hs]; exact beq_self_eq_true _
          rw [if_pos ⟨rfl, hs⟩]
          simp (config := { maxSteps := 1000000 }) (disch := omega) only [go_sem, ↓reduceIte, Nat.reduceEqDiff, Nat.reduceAdd, Int.reduceToNat, reduceCtorEq, Nat.reduceLeDiff, Nat.reduceSub, Nat.reduceDiv, Nat.reduceMod, Nat.reduceMul, d1619_b0, gp, hb, Bool.not_true]
        · have hb : (prM A == s) = false := beq_false_of_ne hs
          rw [if_neg (fun h => hs h.2)]
          simp (config := { maxSteps := 1000000 }) (disch := omega) only [go_sem, ↓reduceIte, Nat.reduceEqDiff, Nat.reduceAdd, Int.reduceToNat, reduceCtorEq, Nat.reduceLeDiff, Nat.reduceSub, Nat.reduceDiv, Nat.reduceMod, Nat.reduceMul, d1619_b0, gp, hb, Bool.not_false]
    | succ k =>
      cases hq : rsK 4 s j' [] with
      | some r =>
        obtain ⟨q, e'⟩ := r
        simp only [rsM, hq] at h1
        refine Ev_mono (jo_step hs (by omega) hn (by omega) h0 hq) ?_
        rintro x st ⟨rfl, rfl⟩
        exact .inl ⟨rfl, k, by omega, _, _, rsK_le h0 hq, h1, by simp; omega, by simp⟩
      | none =>
        simp only [rsM, hq] at h1
        rw [psM_none h1.symm]
        unfold joS
        simp (config := { maxSteps := 1000000 }) (disch := omega) only [go_sem, ↓reduceIte, Nat.reduceEqDiff, Nat.reduceAdd, Int.reduceToNat, reduceCtorEq, Nat.reduceLeDiff, Nat.reduceSub, Nat.reduceDiv, Nat.reduceMod, Nat.reduceMul, d1619_b0]
        refine Ev_inv (fun m st => ∃ (acc : List Int) (i' : Nat), i' ≤ s.length ∧ rsK m s i' acc = none ∧ acc.length + m = 4 ∧ st = jkS s n (A.length : Int) A i' acc m) ?_ (i := 4) ⟨[], j', h0, hq, rfl, rfl⟩
        rintro m st ⟨acc, i', c0, c1, c2, rfl⟩
        cases m with
        | zero => simp [rsK] at c1
        | succ m =>
          cases hr2 : rdN s i' with
          | some r =>
            obtain ⟨v, e'⟩ := r
            simp only [rsK, hr2] at c1
            refine Ev_mono (jk_step hs (by omega) c2 c0 hr2) ?_
            rintro x st ⟨rfl, rfl⟩
            exact .inl ⟨rfl, m, by omega, _, _, by have := rdN_sound hr2; omega, c1, by simp; omega, rfl⟩
          | none =>
            have g := rrd_run hs c0
            rw [hr2] at g
            simp only [rdA] at g
            unfold jkS jkM
            simp (config := { maxSteps := 1000000 }) (disch := omega) only [go_sem, ↓reduceIte, Nat.reduceEqDiff, Nat.reduceAdd, Int.reduceToNat, reduceCtorEq, Nat.reduceLeDiff, Nat.reduceSub, Nat.reduceDiv, Nat.reduceMod, Nat.reduceMul, d1619_b1, g]
end Go.Proofs.Ytpbdbhpneihopaa
