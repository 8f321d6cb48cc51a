/- container/heap over a row of pairs. -/
import Derived.Test.YtjebbkpbaglooaaSp
import Derived.Test.YtjebbkpbaglooaaHq
namespace Go.Proofs.Ytjebbkpbaglooaa
set_option linter.unusedSimpArgs false
set_option linter.unusedVariables false
set_option maxHeartbeats 4000000
set_option maxRecDepth 100000
open Go.Sort (size_swp)
theorem prs_take_h (l : List Ed) (i : Nat) : (prs l).take (i * 2) = prs (l.take i) := by
  induction i generalizing l with
  | zero => simp [prs]
  | succ i ih => cases l with
    | nil => simp [prs]
    | cons r l => rw [prs_cons, show (i + 1) * 2 = i * 2 + 1 + 1 by omega, List.take_succ_cons, List.take_succ_cons, ih l, List.take_succ_cons, prs_cons]
theorem lk_nil (s : Nat) : lk [] s = .unk := rfl
attribute [go_sem] lk_nil
theorem hlen_p (l : List Ed) : runP tab 1227 [.sl 2 (prs l)] [] = some (.int .i64 (l.length : Int), []) := by
  refine runP_fn t1227 rfl ?_
  simp (config := { maxSteps := 1000000 }) (disch := omega) only [go_sem, ↓reduceIte, Nat.reduceEqDiff, Nat.reduceAdd, Int.reduceToNat, reduceCtorEq, Nat.reduceLeDiff, Nat.reduceSub, Nat.reduceDiv, Nat.reduceMod, Nat.reduceMul, d1227]
theorem hless_p {d : Array Ed} {i j : Nat} (hi : i < d.size) (hj : j < d.size) : runP tab 1228 [.sl 2 (prs d.toList), .int .i64 (i : Int), .int .i64 (j : Int)] [] = some (.bool (ltP d[i]! d[j]!), []) := by
  refine runP_fn t1228 rfl ?_
  unfold ltP
  have a1 := at_e1 hi
  have a2 := at_e2 hi
  have b1 := at_e1 hj
  have b2 := at_e2 hj
  by_cases h1 : d[j]!.1 < d[i]!.1
  · rw [decide_eq_true (Or.inl h1)]
    simp (config := { maxSteps := 1000000 }) (disch := omega) only [go_sem, ↓reduceIte, Nat.reduceEqDiff, Nat.reduceAdd, Int.reduceToNat, reduceCtorEq, Nat.reduceLeDiff, Nat.reduceSub, Nat.reduceDiv, Nat.reduceMod, Nat.reduceMul, arr_len, a1, b1, d1228]
  · by_cases h2 : d[i]!.1 = d[j]!.1
    · by_cases h3 : d[i]!.2 < d[j]!.2
      · rw [decide_eq_true (Or.inr ⟨h2, h3⟩)]
        simp (config := { maxSteps := 1000000 }) (disch := omega) only [go_sem, ↓reduceIte, Nat.reduceEqDiff, Nat.reduceAdd, Int.reduceToNat, reduceCtorEq, Nat.reduceLeDiff, Nat.reduceSub, Nat.reduceDiv, Nat.reduceMod, Nat.reduceMul, arr_len, a1, a2, b1, b2, d1228]
      · rw [decide_eq_false (by omega)]
        simp (config := { maxSteps := 1000000 }) (disch := omega) only [go_sem, ↓reduceIte, Nat.reduceEqDiff, Nat.reduceAdd, Int.reduceToNat, reduceCtorEq, Nat.reduceLeDiff, Nat.reduceSub, Nat.reduceDiv, Nat.reduceMod, Nat.reduceMul, arr_len, a1, a2, b1, b2, d1228]
    · rw [decide_eq_false (by omega)]
      simp (config := { maxSteps := 1000000 }) (disch := omega) only [go_sem, ↓reduceIte, Nat.reduceEqDiff, Nat.reduceAdd, Int.reduceToNat, reduceCtorEq, Nat.reduceLeDiff, Nat.reduceSub, Nat.reduceDiv, Nat.reduceMod, Nat.reduceMul, arr_len, a1, b1, d1228]
theorem hswp_p {d : Array Ed} {i j : Nat} (hi : i < d.size) (hj : j < d.size) : runP tab 1229 [.own 2 0, .int .i64 (i : Int), .int .i64 (j : Int)] [.row false (prs d.toList)] = some (.tup [], [.row false (prs (Go.Sort.swp d i j).toList)]) := by
  refine runP_fn t1229 rfl ?_
  simp (config := { maxSteps := 1000000 }) (disch := omega) only [go_sem, ↓reduceIte, Nat.reduceEqDiff, Nat.reduceAdd, Int.reduceToNat, reduceCtorEq, Nat.reduceLeDiff, Nat.reduceSub, Nat.reduceDiv, Nat.reduceMod, Nat.reduceMul, at_e, arr_len, swp_e, d1229]
theorem arr_take_p (d : Array Ed) : (prs d.toList).take ((d.size - 1) * 2) = prs d.pop.toList := by rw [prs_take_h]; simp [List.dropLast_eq_take]
theorem hpop_p {d : Array Ed} (h : 0 < d.size) (hs : d.size ≤ 1000000) : runP tab 1230 [.ref 0 0] [.row false [.vec 2 (prs d.toList)]] = some (.ifc 52 (.agg [.int .i64 d[d.size - 1]!.1, .int .i64 d[d.size - 1]!.2]), [.row false [.vec 2 (prs d.pop.toList)]]) := by
  refine runP_fn t1230 rfl ?_
  have e : ((d.size : Int) - 1) = ((d.size - 1 : Nat) : Int) := by omega
  simp (config := { maxSteps := 1000000 }) (disch := omega) only [go_sem, ↓reduceIte, Nat.reduceEqDiff, Nat.reduceAdd, Int.reduceToNat, reduceCtorEq, Nat.reduceLeDiff, Nat.reduceSub, Nat.reduceDiv, Nat.reduceMod, Nat.reduceMul, at_e, arr_len, e, arr_take_p, d1230]
def hdS_p (i0 n i : Nat) (d : Array Ed) : St := ⟨[(0, .ifc 56 (.ref 0 0)), (1, .int .i64 (i0 : Int)), (2, .int .i64 (n : Int)), (7, .int .i64 (i : Int))], [.row false [.vec 2 (prs d.toList)]], 1, [(0, 1, [0, 1, 2, 7], [])]⟩
theorem hdn_loop_p {i0 n : Nat} {Q : AX → St → Prop} : ∀ (k i : Nat) (d : Array Ed), n - i = k → n ≤ d.size → d.size ≤ 1000000 → i ≤ 1000000 →
    (∀ env hp, lk env 1 = .int .i64 (i0 : Int) → lk env 7 = .int .i64 ((dn ltP n d i).2 : Int) → (hp = [.row false [.vec 2 (prs (dn ltP n d i).1.toList)]] ∨ hp = [.row false [.own 2 1], .row false (prs (dn ltP n d i).1.toList)]) → Q (.exit 0) ⟨env, hp, 1, [(0, 1, [0, 1, 2, 7], [])]⟩) → Ev tab (.loop d1213_b0) (hdS_p i0 n i d) Q := by
  intro k
  induction k using Nat.strongRecOn with
  | _ k ih =>
    intro i d hk hn hs hi hq
    rw [dn] at hq
    by_cases h1 : 2 * i + 1 < n
    · rw [if_pos h1] at hq
      have hkc := kid_cases ltP n d i h1
      have g0 : ∀ c, c < n → runP tab 1228 [.sl 2 (prs d.toList), .int .i64 (c : Int), .int .i64 (i : Int)] [] = some (.bool (ltP d[c]! d[i]!), []) := fun c hc => hless_p (by omega) (by omega)
      have s0 : ∀ c, c < n → runP tab 1229 [.own 2 0, .int .i64 (i : Int), .int .i64 (c : Int)] [.row false (prs d.toList)] = some (.tup [], [.row false (prs (Go.Sort.swp d i c).toList)]) := fun c hc => hswp_p (by omega) (by omega)
      by_cases h2 : 2 * i + 2 < n
      · have g1 := hless_p (d := d) (i := 2 * i + 2) (j := 2 * i + 1) (by omega) (by omega)
        rw [show ((2 * i + 2 : Nat) : Int) = 2 * (i : Int) + 2 by omega, show ((2 * i + 1 : Nat) : Int) = 2 * (i : Int) + 1 by omega] at g1
        cases h3 : ltP d[2 * i + 2]! d[2 * i + 1]! with
        | true =>
          have hkd : kid ltP n d i = 2 * i + 2 := by unfold kid; rw [if_pos ⟨h2, h3⟩]
          rw [hkd] at hq
          rw [h3] at g1
          have g2 := g0 (2 * i + 2) h2
          rw [show ((2 * i + 2 : Nat) : Int) = 2 * (i : Int) + 2 by omega] at g2
          cases h4 : ltP d[2 * i + 2]! d[i]! with
          | true =>
            rw [h4] at g2
            rw [if_pos h4] at hq
            have g3 := s0 (2 * i + 2) h2
            rw [show ((2 * i + 2 : Nat) : Int) = 2 * (i : Int) + 2 by omega] at g3
            refine Ev_step (st' := hdS_p i0 n (2 * i + 2) (Go.Sort.swp d i (2 * i + 2))) ?_ (ih (n - (2 * i + 2)) (by omega) _ _ rfl (by rw [size_swp]; exact hn) (by rw [size_swp]; exact hs) (by omega) hq)
            simp (config := { maxSteps := 1000000 }) (disch := omega) only [go_sem, ↓reduceIte, Nat.reduceEqDiff, Nat.reduceAdd, Int.reduceToNat, reduceCtorEq, Nat.reduceLeDiff, Nat.reduceSub, Nat.reduceDiv, Nat.reduceMod, Nat.reduceMul, d1213_b0, hdS_p, g1, g2, g3, tnE, arr_len, show ((2 * i + 2 : Nat) : Int) = 2 * (i : Int) + 2 by omega]
          | false =>
            rw [h4] at g2
            rw [if_neg (by rw [h4]; simp)] at hq
            refine Ev_stop ?_
            simp (config := { maxSteps := 1000000 }) (disch := omega) only [go_sem, ↓reduceIte, Nat.reduceEqDiff, Nat.reduceAdd, Int.reduceToNat, reduceCtorEq, Nat.reduceLeDiff, Nat.reduceSub, Nat.reduceDiv, Nat.reduceMod, Nat.reduceMul, d1213_b0, hdS_p, tnE, g1, g2]
            exact hq _ _ rfl rfl (.inr rfl)
        | false =>
          have hkd : kid ltP n d i = 2 * i + 1 := by unfold kid; rw [if_neg (by rw [h3]; simp)]
          rw [hkd] at hq
          rw [h3] at g1
          have g2 := g0 (2 * i + 1) h1
          rw [show ((2 * i + 1 : Nat) : Int) = 2 * (i : Int) + 1 by omega] at g2
          cases h4 : ltP d[2 * i + 1]! d[i]! with
          | true =>
            rw [h4] at g2
            rw [if_pos h4] at hq
            have g3 := s0 (2 * i + 1) h1
            rw [show ((2 * i + 1 : Nat) : Int) = 2 * (i : Int) + 1 by omega] at g3
            refine Ev_step (st' := hdS_p i0 n (2 * i + 1) (Go.Sort.swp d i (2 * i + 1))) ?_ (ih (n - (2 * i + 1)) (by omega) _ _ rfl (by rw [size_swp]; exact hn) (by rw [size_swp]; exact hs) (by omega) hq)
            simp (config := { maxSteps := 1000000 }) (disch := omega) only [go_sem, ↓reduceIte, Nat.reduceEqDiff, Nat.reduceAdd, Int.reduceToNat, reduceCtorEq, Nat.reduceLeDiff, Nat.reduceSub, Nat.reduceDiv, Nat.reduceMod, Nat.reduceMul, d1213_b0, hdS_p, g1, g2, g3, tnE, arr_len, show ((2 * i + 1 : Nat) : Int) = 2 * (i : Int) + 1 by omega]
          | false =>
            rw [h4] at g2
            rw [if_neg (by rw [h4]; simp)] at hq
            refine Ev_stop ?_
            simp (config := { maxSteps := 1000000 }) (disch := omega) only [go_sem, ↓reduceIte, Nat.reduceEqDiff, Nat.reduceAdd, Int.reduceToNat, reduceCtorEq, Nat.reduceLeDiff, Nat.reduceSub, Nat.reduceDiv, Nat.reduceMod, Nat.reduceMul, d1213_b0, hdS_p, tnE, g1, g2]
            exact hq _ _ rfl rfl (.inr rfl)
      · have hkd : kid ltP n d i = 2 * i + 1 := by unfold kid; rw [if_neg (fun h => h2 h.1)]
        rw [hkd] at hq
        have g2 := g0 (2 * i + 1) h1
        rw [show ((2 * i + 1 : Nat) : Int) = 2 * (i : Int) + 1 by omega] at g2
        cases h4 : ltP d[2 * i + 1]! d[i]! with
        | true =>
          rw [h4] at g2
          rw [if_pos h4] at hq
          have g3 := s0 (2 * i + 1) h1
          rw [show ((2 * i + 1 : Nat) : Int) = 2 * (i : Int) + 1 by omega] at g3
          refine Ev_step (st' := hdS_p i0 n (2 * i + 1) (Go.Sort.swp d i (2 * i + 1))) ?_ (ih (n - (2 * i + 1)) (by omega) _ _ rfl (by rw [size_swp]; exact hn) (by rw [size_swp]; exact hs) (by omega) hq)
          simp (config := { maxSteps := 1000000 }) (disch := omega) only [go_sem, ↓reduceIte, Nat.reduceEqDiff, Nat.reduceAdd, Int.reduceToNat, reduceCtorEq, Nat.reduceLeDiff, Nat.reduceSub, Nat.reduceDiv, Nat.reduceMod, Nat.reduceMul, d1213_b0, hdS_p, g2, g3, tnE, arr_len, show ((2 * i + 1 : Nat) : Int) = 2 * (i : Int) + 1 by omega]
        | false =>
          rw [h4] at g2
          rw [if_neg (by rw [h4]; simp)] at hq
          refine Ev_stop ?_
          simp (config := { maxSteps := 1000000 }) (disch := omega) only [go_sem, ↓reduceIte, Nat.reduceEqDiff, Nat.reduceAdd, Int.reduceToNat, reduceCtorEq, Nat.reduceLeDiff, Nat.reduceSub, Nat.reduceDiv, Nat.reduceMod, Nat.reduceMul, d1213_b0, hdS_p, tnE, g2]
          exact hq _ _ rfl rfl (.inr rfl)
    · rw [if_neg h1] at hq
      refine Ev_stop ?_
      simp (config := { maxSteps := 1000000 }) (disch := omega) only [go_sem, ↓reduceIte, Nat.reduceEqDiff, Nat.reduceAdd, Int.reduceToNat, reduceCtorEq, Nat.reduceLeDiff, Nat.reduceSub, Nat.reduceDiv, Nat.reduceMod, Nat.reduceMul, d1213_b0, hdS_p]
      exact hq _ _ rfl rfl (.inl rfl)
theorem hdown_p {n i : Nat} {d : Array Ed} (hn : n ≤ d.size) (hs : d.size ≤ 1000000) (hi : i ≤ 1000000) : runP tab 1213 [.ifc 56 (.ref 0 0), .int .i64 (i : Int), .int .i64 (n : Int)] [.row false [.vec 2 (prs d.toList)]] = some (.bool (decide ((i : Int) < ((dn ltP n d i).2 : Int))), [.row false [.vec 2 (prs (dn ltP n d i).1.toList)]]) := by
  refine runP_fn t1213 rfl ?_
  simp (config := { maxSteps := 1000000 }) (disch := omega) only [go_sem, ↓reduceIte, Nat.reduceEqDiff, Nat.reduceAdd, Int.reduceToNat, reduceCtorEq, Nat.reduceLeDiff, Nat.reduceSub, Nat.reduceDiv, Nat.reduceMod, Nat.reduceMul, d1213]
  refine hdn_loop_p (i0 := i) _ i d rfl hn hs hi (fun env hp h1 h7 hh => ?_)
  rcases hh with rfl | rfl <;> simp (config := { maxSteps := 1000000 }) (disch := omega) only [go_sem, ↓reduceIte, Nat.reduceEqDiff, Nat.reduceAdd, Int.reduceToNat, reduceCtorEq, Nat.reduceLeDiff, Nat.reduceSub, Nat.reduceDiv, Nat.reduceMod, Nat.reduceMul, h1, h7]
def hiS_p (n : Nat) (k : Int) (d : Array Ed) : St := ⟨[(0, .ifc 56 (.ref 0 0)), (2, .int .i64 (n : Int)), (3, .int .i64 k)], [.row false [.vec 2 (prs d.toList)]], 1, [(0, 1, [0, 2, 3], []), (7, 1, [0, 2], [])]⟩
theorem hin_loop_p {n : Nat} {Q : AX → St → Prop} : ∀ (k : Nat) (d : Array Ed), n ≤ d.size → d.size ≤ 1000000 → k ≤ 1000000 →
    (Ev tab d1203_b0 (hiS_p n (-1) (hpInit ltP n k d)) (fun x st => x ≠ .normal ∧ Q x st)) → Ev tab (.loop d1203_b0) (hiS_p n ((k : Int) - 1) d) Q
  | 0, d, hn, hs, hk, hq => Ev_stop hq
  | k + 1, d, hn, hs, hk, hq => by
    refine Ev_step (st' := hiS_p n ((k : Int) - 1) (dn ltP n d k).1) ?_ (hin_loop_p k _ (by rw [dn_size]; exact hn) (by rw [dn_size]; exact hs) (by omega) hq)
    have g := hdown_p (i := k) hn hs (by omega)
    generalize dn ltP n d k = d' at *
    simp (config := { maxSteps := 1000000 }) (disch := omega) only [go_sem, ↓reduceIte, Nat.reduceEqDiff, Nat.reduceAdd, Int.reduceToNat, reduceCtorEq, Nat.reduceLeDiff, Nat.reduceSub, Nat.reduceDiv, Nat.reduceMod, Nat.reduceMul, Int.add_sub_cancel, d1203_b0, hiS_p, g]
theorem hinit_p {d : Array Ed} (hs : d.size ≤ 1000000) : runP tab 1203 [.ifc 56 (.ref 0 0)] [.row false [.vec 2 (prs d.toList)]] = some (.tup [], [.row false [.vec 2 (prs (hpInit ltP d.size (d.size / 2) d).toList)]]) := by
  refine runP_fn t1203 rfl ?_
  have e : ((d.size : Int)).tdiv 2 = ((d.size / 2 : Nat) : Int) := rfl
  simp (config := { maxSteps := 1000000 }) (disch := omega) only [go_sem, ↓reduceIte, Nat.reduceEqDiff, Nat.reduceAdd, Int.reduceToNat, reduceCtorEq, Nat.reduceLeDiff, Nat.reduceSub, Nat.reduceDiv, Nat.reduceMod, Nat.reduceMul, d1203, hlen_p, arr_len, e]
  refine hin_loop_p (n := d.size) (d.size / 2) d (Nat.le_refl _) hs (by omega) ?_
  have hz : (hpInit ltP d.size (d.size / 2) d).size = d.size := hpInit_size _ _ _
  generalize hpInit ltP d.size (d.size / 2) d = q at *
  simp (config := { maxSteps := 1000000 }) (disch := omega) only [go_sem, ↓reduceIte, Nat.reduceEqDiff, Nat.reduceAdd, Int.reduceToNat, reduceCtorEq, Nat.reduceLeDiff, Nat.reduceSub, Nat.reduceDiv, Nat.reduceMod, Nat.reduceMul, d1203_b0, hiS_p]
theorem hpopf_p {d : Array Ed} (h0 : 0 < d.size) (hs : d.size ≤ 1000000) : runP tab 1204 [.ifc 56 (.ref 0 0)] [.row false [.vec 2 (prs d.toList)]] = some (.ifc 52 (.agg [.int .i64 d[0]!.1, .int .i64 d[0]!.2]), [.row false [.vec 2 (prs (hpPop ltP d).toList)]]) := by
  refine runP_fn t1204 rfl ?_
  have e : ((d.size : Int) - 1) = ((d.size - 1 : Nat) : Int) := by omega
  have g1 := hswp_p (d := d) (i := 0) (j := d.size - 1) h0 (by omega)
  have g2 := hdown_p (n := d.size - 1) (i := 0) (d := Go.Sort.swp d 0 (d.size - 1)) (by rw [size_swp]; omega) (by rw [size_swp]; exact hs) (by omega)
  have g3 := hpop_p (d := (dn ltP (d.size - 1) (Go.Sort.swp d 0 (d.size - 1)) 0).1) (by rw [dn_size, size_swp]; exact h0) (by rw [dn_size, size_swp]; exact hs)
  rw [dn_size, size_swp, hpPop_last h0] at g3
  simp only [Int.cast_ofNat_Int] at g1 g2
  unfold hpPop
  generalize hq : dn ltP (d.size - 1) (Go.Sort.swp d 0 (d.size - 1)) 0 = q at *
  simp (config := { maxSteps := 1000000 }) (disch := omega) only [go_sem, ↓reduceIte, Nat.reduceEqDiff, Nat.reduceAdd, Int.reduceToNat, reduceCtorEq, Nat.reduceLeDiff, Nat.reduceSub, Nat.reduceDiv, Nat.reduceMod, Nat.reduceMul, d1204, hlen_p, arr_len, e, g1, g2, g3]
end Go.Proofs.Ytjebbkpbaglooaa
