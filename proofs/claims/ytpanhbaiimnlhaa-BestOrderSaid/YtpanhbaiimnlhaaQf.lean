/- Layer 10: BestRuns. -/
import Derived.Test.YtpanhbaiimnlhaaQe
namespace Go.Proofs.Ytpanhbaiimnlhaa
set_option linter.unusedSimpArgs false
set_option linter.unusedVariables false
set_option maxHeartbeats 4000000
set_option maxRecDepth 100000
def opC (o : Int × Ed) : List AV := [.int .i64 o.1, .int .i64 o.2.1, .int .i64 o.2.2]
def ohs (l : List (Int × Ed)) : List AV := l.flatMap opC
theorem ohs_cons (m : Int × Ed) (l : List (Int × Ed)) : ohs (m :: l) = .int .i64 m.1 :: .int .i64 m.2.1 :: .int .i64 m.2.2 :: ohs l := rfl
theorem ohs_flat (l : List (Int × Ed)) : (ohs l).all flat = true := by
  induction l with
  | nil => rfl
  | cons e l ih => rw [ohs_cons]; simp only [List.all_cons, flat, Bool.true_and]; exact ih
theorem ohs_len (l : List (Int × Ed)) : (ohs l).length = l.length * 3 := by
  induction l with
  | nil => rfl
  | cons e l ih => rw [ohs_cons]; simp only [List.length_cons, ih]; omega
theorem ohs_noid (l : List (Int × Ed)) : noidL (ohs l) = true := flat_noidL (ohs_flat l)
theorem ohs_noid' (l : List (Int × Ed)) : allL pnoid (ohs l) = true := flat_noidL (ohs_flat l)
theorem ohs_noinl' (l : List (Int × Ed)) : allL pnoinl (ohs l) = true := flat_noinlL (ohs_flat l)
theorem ohs_ids (l : List (Int × Ed)) : idsL (ohs l) = [] := flat_idsL (ohs_flat l)
theorem ohs_idlt' (n : Nat) (l : List (Int × Ed)) : allL (pidlt n) (ohs l) = true := flat_idltL (ohs_flat l)
theorem ohs_ren' (f : Nat → Nat) (l : List (Int × Ed)) : mapL (ren1 f) (ohs l) = ohs l := flat_renL (ohs_flat l)
theorem ohs_frz' (l : List (Int × Ed)) : mapL frz1 (ohs l) = ohs l := flat_frzL (ohs_flat l)
theorem ohs_fz (hp : List Blk) (l : List (Int × Ed)) : fzL hp (ohs l) = some (ohs l) := flat_fzL (ohs_flat l)
theorem mul3_div (n : Nat) : n * 3 / 3 = n := by omega
theorem ohs_drop (l : List (Int × Ed)) (i : Nat) : (ohs l).drop (i * 3) = ohs (l.drop i) := by
  induction i generalizing l with
  | zero => simp
  | succ i ih => cases l with
    | nil => simp [ohs]
    | cons r l => rw [ohs_cons, show (i + 1) * 3 = i * 3 + 1 + 1 + 1 by omega, List.drop_succ_cons, List.drop_succ_cons, List.drop_succ_cons]; exact ih l
attribute [go_sem] ohs_len ohs_noid ohs_noid' ohs_noinl' ohs_ids ohs_idlt' ohs_ren' ohs_frz' ohs_fz mul3_div
theorem ohs_at {l : List (Int × Ed)} {i : Nat} (h : i < l.length) : rdc ((ohs l).drop (i * 3)) none = some (.int .i64 (l.getD i default).1) ∧ rdc (((ohs l).drop (i * 3)).drop 1) (some 2) = some (htA (l.getD i default).2) := by
  rw [ohs_drop, List.drop_eq_getElem_cons h, ohs_cons, List.getD_eq_getElem?_getD, List.getElem?_eq_getElem h]
  exact ⟨rfl, rfl⟩
def bqS (l : List (Int × Ed)) (M : Nat) (d : Array Ed) (c : AV) (i : Nat) : St := ⟨[(1, .sl 3 (ohs l)), (5, .ref 0 0), (7, .ref 1 0), (8, .int .i64 (i : Int))], [.row false [.vec 2 (prs d.toList), .int .i64 (M : Int)], .row false [c, .int .i64 (M : Int)]], 0, [(0, 2, [1, 5, 7, 8], [(5, 0), (7, 1)])]⟩
theorem bq_loop {l : List (Int × Ed)} {M : Nat} {Q : AX → St → Prop} (hl : l.length ≤ 100) (hM : 1 ≤ M ∧ M ≤ 1000) : ∀ (n i : Nat) (d : Array Ed) (c : AV) (S : List Ed), i + n = l.length → QOk ltH d S → rcell S c → S.length ≤ M →
    (∀ d c S, QOk ltH d S → rcell S c → S.length ≤ M → Ev tab d1471_b0 (bqS l M d c l.length) (fun x s => x ≠ .normal ∧ Q x s)) → Ev tab (.loop d1471_b0) (bqS l M d c i) Q
  | 0, i, d, c, S, hi, hd, hc, hS, hq => by
    obtain rfl : i = l.length := by omega
    exact Ev_stop (hq d c S hd hc hS)
  | n + 1, i, d, c, S, hi, hd, hc, hS, hq => by
    obtain ⟨e1, e2⟩ := ohs_at (l := l) (i := i) (by omega)
    have hx1 : ∀ x : Ed, aeqL [.int .i64 x.1, .int .i64 x.2] [.int .i64 x.1, .int .i64 x.2] = some true := fun x => by rw [ed_eq, decide_eq_true rfl]
    have hx0 : aeqL [.int .i64 0, .int .i64 0] [.int .i64 0, .int .i64 0] = some true := rfl
    have hlen : ∀ (S : List Ed) (c : AV), rcell S c → (∃ s, c = .sl s (prs S) ∧ s = 2) ∨ (c = .nils ∧ S = []) := fun S c h => h.elim (fun h => .inr h) (fun h => .inl ⟨2, h, rfl⟩)
    simp only [htA] at e2
    generalize (l.getD i default).2 = x at *
    generalize (l.getD i default).1 = kd at *
    by_cases k1 : kd = 1
    · subst k1
      obtain ⟨r, h1, h2⟩ := rfput_run (M := M) (x := x) hc (by omega) hS
      have hz := insO_len (lt := ltH) S x
      rcases h2 with ⟨h2, rfl⟩ | ⟨h2, rfl⟩
      · obtain ⟨d', h3, h4⟩ := aput_fit (m := (M : Int)) x hd (by omega) (by omega)
        have h5 := alen_run (m := (M : Int)) h3
        refine Ev_step (st' := bqS l M d' (.sl 2 (prs (insO ltH S x))) (i + 1)) ?_ (bq_loop hl hM n (i + 1) d' _ _ (by omega) h3 (.inr rfl) (by omega) hq)
        simp only [htA] at h1 h4
        generalize insO ltH S x = S' at *
        rcases hc with ⟨rfl, rfl⟩ | rfl <;> simp (config := { maxSteps := 1000000 }) (disch := omega) only [go_sem, ↓reduceIte, Nat.reduceEqDiff, Nat.reduceAdd, Int.reduceToNat, reduceCtorEq, Nat.reduceLeDiff, Nat.reduceSub, Nat.reduceDiv, Nat.reduceMod, Nat.reduceMul, d1471_b0, bqS, e1, e2, h1, h4, h5, hx0, encA, digA]
      · obtain ⟨d', h3, h4⟩ := aput_over (M := M) x hd (by omega) (by omega)
        have h5 := alen_run (m := (M : Int)) h3
        have h6 : ((insO ltH S x).take M).length = M := by rw [List.length_take]; omega
        refine Ev_step (st' := bqS l M d' (.sl 2 (prs ((insO ltH S x).take M))) (i + 1)) ?_ (bq_loop hl hM n (i + 1) d' _ _ (by omega) h3 (.inr rfl) (by omega) hq)
        simp only [htA] at h1 h4
        generalize (insO ltH S x).getD M default = v at *
        generalize (insO ltH S x).take M = S' at *
        rcases hc with ⟨rfl, rfl⟩ | rfl <;> simp (config := { maxSteps := 1000000 }) (disch := omega) only [go_sem, ↓reduceIte, Nat.reduceEqDiff, Nat.reduceAdd, Int.reduceToNat, reduceCtorEq, Nat.reduceLeDiff, Nat.reduceSub, Nat.reduceDiv, Nat.reduceMod, Nat.reduceMul, d1471_b0, bqS, e1, e2, h1, h4, h5, hx1, encA, digA]
    by_cases k2 : kd = 2
    · subst k2
      cases S with
      | nil =>
        have h1 := rftake_none (m := (M : Int)) hc
        have h4 := atake_none (m := (M : Int)) hd
        have h5 := alen_run (m := (M : Int)) hd
        refine Ev_step (st' := bqS l M d c (i + 1)) ?_ (bq_loop hl hM n (i + 1) d c [] (by omega) hd hc hS hq)
        simp only [htA] at h1 h4
        rcases hc with ⟨rfl, _⟩ | rfl <;> simp (config := { maxSteps := 1000000 }) (disch := omega) only [go_sem, ↓reduceIte, Nat.reduceEqDiff, Nat.reduceAdd, Int.reduceToNat, reduceCtorEq, Nat.reduceLeDiff, Nat.reduceSub, Nat.reduceDiv, Nat.reduceMod, Nat.reduceMul, d1471_b0, bqS, e1, e2, h1, h4, h5, hx0, encA, digA]
      | cons y S =>
        have hc2 : c = .sl 2 (prs (y :: S)) := by rcases hc with ⟨_, h⟩ | h; cases h; exact h
        subst hc2
        simp only [List.length_cons] at hS
        have h1 := rftake_run (m := (M : Int)) (x := y) (L := S) (by omega)
        obtain ⟨d', h3, h4⟩ := atake_some (m := (M : Int)) hd (by omega)
        have h5 := alen_run (m := (M : Int)) h3
        refine Ev_step (st' := bqS l M d' (.sl 2 (prs S)) (i + 1)) ?_ (bq_loop hl hM n (i + 1) d' _ S (by omega) h3 (.inr rfl) (by omega) hq)
        simp only [htA] at h1 h4
        simp (config := { maxSteps := 1000000 }) (disch := omega) only [go_sem, ↓reduceIte, Nat.reduceEqDiff, Nat.reduceAdd, Int.reduceToNat, reduceCtorEq, Nat.reduceLeDiff, Nat.reduceSub, Nat.reduceDiv, Nat.reduceMod, Nat.reduceMul, d1471_b0, bqS, e1, e2, h1, h4, h5, hx1, encA, digA]
    · have h5 := alen_run (m := (M : Int)) hd
      refine Ev_step (st' := bqS l M d c (i + 1)) ?_ (bq_loop hl hM n (i + 1) d c S (by omega) hd hc hS hq)
      rcases hc with ⟨rfl, rfl⟩ | rfl <;> simp (config := { maxSteps := 1000000 }) (disch := omega) only [go_sem, ↓reduceIte, Nat.reduceEqDiff, Nat.reduceAdd, Int.reduceToNat, reduceCtorEq, Nat.reduceLeDiff, Nat.reduceSub, Nat.reduceDiv, Nat.reduceMod, Nat.reduceMul, d1471_b0, bqS, e1, e2, h5]
theorem bruns_law {l : List (Int × Ed)} {m : Int} (hl : l.length ≤ 9223372036854775807) : runP tab 1471 [.int .i64 m, .sl 3 (ohs l)] [] = some (.bool true, []) := by
  refine runP_fn t1471 rfl ?_
  have gb := bests_run
  by_cases hk : 1 ≤ m ∧ m ≤ 1000
  · have g0 := qnew_ok hk
    by_cases h : 100 < l.length
    · simp (config := { maxSteps := 1000000 }) (disch := omega) only [go_sem, ↓reduceIte, Nat.reduceEqDiff, Nat.reduceAdd, Int.reduceToNat, reduceCtorEq, Nat.reduceLeDiff, Nat.reduceSub, Nat.reduceDiv, Nat.reduceMod, Nat.reduceMul, d1471, g0, gb]
    · obtain ⟨M, rfl⟩ := Int.eq_ofNat_of_zero_le (show 0 ≤ m by omega)
      simp (config := { maxSteps := 1000000 }) (disch := omega) only [go_sem, ↓reduceIte, Nat.reduceEqDiff, Nat.reduceAdd, Int.reduceToNat, reduceCtorEq, Nat.reduceLeDiff, Nat.reduceSub, Nat.reduceDiv, Nat.reduceMod, Nat.reduceMul, d1471, g0, gb]
      refine bq_loop (by omega) (by omega) l.length 0 #[] .nils [] (by omega) qok0 (.inl ⟨rfl, rfl⟩) (by simp) (fun d c S hd hc hS => ?_)
      have g1 := aall_run (m := (M : Int)) hd (by omega)
      have g2 := rsame_run (a := S) (b := S) (by omega) (by omega)
      rw [beq_self_eq_true] at g2
      simp only [bqS]
      rcases hc with ⟨rfl, rfl⟩ | rfl
      · have g3 := rsame_nil (s := 2) (t := 1) (c := []) (d := []) rfl rfl
        simp only [prs_nil] at g1
        simp (config := { maxSteps := 1000000 }) (disch := omega) only [go_sem, ↓reduceIte, Nat.reduceEqDiff, Nat.reduceAdd, Int.reduceToNat, reduceCtorEq, Nat.reduceLeDiff, Nat.reduceSub, Nat.reduceDiv, Nat.reduceMod, Nat.reduceMul, d1471_b0, gb, g1, g3]
      · simp (config := { maxSteps := 1000000 }) (disch := omega) only [go_sem, ↓reduceIte, Nat.reduceEqDiff, Nat.reduceAdd, Int.reduceToNat, reduceCtorEq, Nat.reduceLeDiff, Nat.reduceSub, Nat.reduceDiv, Nat.reduceMod, Nat.reduceMul, d1471_b0, gb, g1, g2]
  · have g0 := qnew_bad (m := m) (by omega)
    by_cases h1 : m < 1
    · simp (config := { maxSteps := 1000000 }) (disch := omega) only [go_sem, ↓reduceIte, Nat.reduceEqDiff, Nat.reduceAdd, Int.reduceToNat, reduceCtorEq, Nat.reduceLeDiff, Nat.reduceSub, Nat.reduceDiv, Nat.reduceMod, Nat.reduceMul, d1471, g0, gb]
    · simp (config := { maxSteps := 1000000 }) (disch := omega) only [go_sem, ↓reduceIte, Nat.reduceEqDiff, Nat.reduceAdd, Int.reduceToNat, reduceCtorEq, Nat.reduceLeDiff, Nat.reduceSub, Nat.reduceDiv, Nat.reduceMod, Nat.reduceMul, d1471, g0, gb]
end Go.Proofs.Ytpanhbaiimnlhaa
