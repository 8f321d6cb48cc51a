/- container/heap over a queue's row of hits. -/
import Derived.Test.YtpanhbaiimnlhaaSh
import Derived.Test.YtpanhbaiimnlhaaHq
namespace Go.Proofs.Ytpanhbaiimnlhaa
set_option linter.unusedSimpArgs false
set_option linter.unusedVariables false
set_option maxHeartbeats 4000000
set_option maxRecDepth 100000
open Go.Sort (size_swp)
theorem prs_take_h (l : List Ed) (i : Nat) : (prs l).take (i * 2) = prs (l.take i) := by
  induction i generalizing l with
  | zero => simp [prs]
  | succ i ih => cases l with
    | nil => simp [prs]
    | cons r l => rw [prs_cons, show (i + 1) * 2 = i * 2 + 1 + 1 by omega, List.take_succ_cons, List.take_succ_cons, ih l, List.take_succ_cons, prs_cons]
theorem lk_nil (s : Nat) : lk [] s = .unk := rfl
attribute [go_sem] lk_nil
theorem hlen_h {m : Int} (l : List Ed) : runP tab 1482 [.ip [.sl 2 (prs l), .int .i64 m]] [] = some (.int .i64 (l.length : Int), []) := by
  refine runP_fn t1482 rfl ?_
  have g : runP tab 1492 [.sl 2 (prs l)] [] = some (.int .i64 (l.length : Int), []) := by
    refine runP_fn t1492 rfl ?_
    simp (config := { maxSteps := 1000000 }) (disch := omega) only [go_sem, ↓reduceIte, Nat.reduceEqDiff, Nat.reduceAdd, Int.reduceToNat, reduceCtorEq, Nat.reduceLeDiff, Nat.reduceSub, Nat.reduceDiv, Nat.reduceMod, Nat.reduceMul, d1492]
  simp (config := { maxSteps := 1000000 }) (disch := omega) only [go_sem, ↓reduceIte, Nat.reduceEqDiff, Nat.reduceAdd, Int.reduceToNat, reduceCtorEq, Nat.reduceLeDiff, Nat.reduceSub, Nat.reduceDiv, Nat.reduceMod, Nat.reduceMul, d1482, g]
theorem hless_h {d : Array Ed} {i j : Nat} (hi : i < d.size) (hj : j < d.size) : runP tab 1512 [.sl 2 (prs d.toList), .int .i64 (i : Int), .int .i64 (j : Int)] [] = some (.bool (ltH d[i]! d[j]!), []) := by
  refine runP_fn t1512 rfl ?_
  simp (config := { maxSteps := 1000000 }) (disch := omega) only [go_sem, ↓reduceIte, Nat.reduceEqDiff, Nat.reduceAdd, Int.reduceToNat, reduceCtorEq, Nat.reduceLeDiff, Nat.reduceSub, Nat.reduceDiv, Nat.reduceMod, Nat.reduceMul, at_e, arr_len, d1512, gc_h, ordh_lt]
theorem hswp_h {d : Array Ed} {i j : Nat} (hi : i < d.size) (hj : j < d.size) : runP tab 1515 [.own 2 0, .int .i64 (i : Int), .int .i64 (j : Int)] [.row false (prs d.toList)] = some (.tup [], [.row false (prs (Go.Sort.swp d i j).toList)]) := by
  refine runP_fn t1515 rfl ?_
  simp (config := { maxSteps := 1000000 }) (disch := omega) only [go_sem, ↓reduceIte, Nat.reduceEqDiff, Nat.reduceAdd, Int.reduceToNat, reduceCtorEq, Nat.reduceLeDiff, Nat.reduceSub, Nat.reduceDiv, Nat.reduceMod, Nat.reduceMul, at_e, arr_len, swp_e, d1515]
theorem arr_take_h (d : Array Ed) : (prs d.toList).take ((d.size - 1) * 2) = prs d.pop.toList := by rw [prs_take_h]; simp [List.dropLast_eq_take]
theorem hpop_h {m : Int} {d : Array Ed} (h : 0 < d.size) (hs : d.size ≤ 1000000) : runP tab 1513 [.ref 0 0] [.row false [.vec 2 (prs d.toList), .int .i64 m]] = some (.ifc 54 (.agg [.int .i64 d[d.size - 1]!.1, .int .i64 d[d.size - 1]!.2]), [.row false [.vec 2 (prs d.pop.toList), .int .i64 m]]) := by
  refine runP_fn t1513 rfl ?_
  have e : ((d.size : Int) - 1) = ((d.size - 1 : Nat) : Int) := by omega
  simp (config := { maxSteps := 1000000 }) (disch := omega) only [go_sem, ↓reduceIte, Nat.reduceEqDiff, Nat.reduceAdd, Int.reduceToNat, reduceCtorEq, Nat.reduceLeDiff, Nat.reduceSub, Nat.reduceDiv, Nat.reduceMod, Nat.reduceMul, at_e, arr_len, e, arr_take_h, d1513]
def hdS_h (m : Int) (i0 n i : Nat) (d : Array Ed) : St := ⟨[(0, .ifc 23 (.ref 0 0)), (1, .int .i64 (i0 : Int)), (2, .int .i64 (n : Int)), (7, .int .i64 (i : Int))], [.row false [.vec 2 (prs d.toList), .int .i64 m]], 1, [(0, 1, [0, 1, 2, 7], [])]⟩
theorem hdn_loop_h {m : Int} {i0 n : Nat} {Q : AX → St → Prop} : ∀ (k i : Nat) (d : Array Ed), n - i = k → n ≤ d.size → d.size ≤ 1000000 → i ≤ 1000000 →
    (∀ env hp, lk env 1 = .int .i64 (i0 : Int) → lk env 7 = .int .i64 ((dn ltH n d i).2 : Int) → (hp = [.row false [.vec 2 (prs (dn ltH n d i).1.toList), .int .i64 m]] ∨ hp = [.row false [.own 2 1, .int .i64 m], .row false (prs (dn ltH n d i).1.toList)]) → Q (.exit 0) ⟨env, hp, 1, [(0, 1, [0, 1, 2, 7], [])]⟩) → Ev tab (.loop d1213_b0) (hdS_h m i0 n i d) Q := by
  intro k
  induction k using Nat.strongRecOn with
  | _ k ih =>
    intro i d hk hn hs hi hq
    rw [dn] at hq
    by_cases h1 : 2 * i + 1 < n
    · rw [if_pos h1] at hq
      have hkc := kid_cases ltH n d i h1
      have g0 : ∀ c, c < n → runP tab 1512 [.sl 2 (prs d.toList), .int .i64 (c : Int), .int .i64 (i : Int)] [] = some (.bool (ltH d[c]! d[i]!), []) := fun c hc => hless_h (by omega) (by omega)
      have s0 : ∀ c, c < n → runP tab 1515 [.own 2 0, .int .i64 (i : Int), .int .i64 (c : Int)] [.row false (prs d.toList)] = some (.tup [], [.row false (prs (Go.Sort.swp d i c).toList)]) := fun c hc => hswp_h (by omega) (by omega)
      by_cases h2 : 2 * i + 2 < n
      · have g1 := hless_h (d := d) (i := 2 * i + 2) (j := 2 * i + 1) (by omega) (by omega)
        rw [show ((2 * i + 2 : Nat) : Int) = 2 * (i : Int) + 2 by omega, show ((2 * i + 1 : Nat) : Int) = 2 * (i : Int) + 1 by omega] at g1
        cases h3 : ltH d[2 * i + 2]! d[2 * i + 1]! with
        | true =>
          have hkd : kid ltH n d i = 2 * i + 2 := by unfold kid; rw [if_pos ⟨h2, h3⟩]
          rw [hkd] at hq
          rw [h3] at g1
          have g2 := g0 (2 * i + 2) h2
          rw [show ((2 * i + 2 : Nat) : Int) = 2 * (i : Int) + 2 by omega] at g2
          cases h4 : ltH d[2 * i + 2]! d[i]! with
          | true =>
            rw [h4] at g2
            rw [if_pos h4] at hq
            have g3 := s0 (2 * i + 2) h2
            rw [show ((2 * i + 2 : Nat) : Int) = 2 * (i : Int) + 2 by omega] at g3
            refine Ev_step (st' := hdS_h m i0 n (2 * i + 2) (Go.Sort.swp d i (2 * i + 2))) ?_ (ih (n - (2 * i + 2)) (by omega) _ _ rfl (by rw [size_swp]; exact hn) (by rw [size_swp]; exact hs) (by omega) hq)
            simp (config := { maxSteps := 1000000 }) (disch := omega) only [go_sem, ↓reduceIte, Nat.reduceEqDiff, Nat.reduceAdd, Int.reduceToNat, reduceCtorEq, Nat.reduceLeDiff, Nat.reduceSub, Nat.reduceDiv, Nat.reduceMod, Nat.reduceMul, d1213_b0, hdS_h, g1, g2, g3, tnE, arr_len, show ((2 * i + 2 : Nat) : Int) = 2 * (i : Int) + 2 by omega]
          | false =>
            rw [h4] at g2
            rw [if_neg (by rw [h4]; simp)] at hq
            refine Ev_stop ?_
            simp (config := { maxSteps := 1000000 }) (disch := omega) only [go_sem, ↓reduceIte, Nat.reduceEqDiff, Nat.reduceAdd, Int.reduceToNat, reduceCtorEq, Nat.reduceLeDiff, Nat.reduceSub, Nat.reduceDiv, Nat.reduceMod, Nat.reduceMul, d1213_b0, hdS_h, tnE, g1, g2]
            exact hq _ _ rfl rfl (.inr rfl)
        | false =>
          have hkd : kid ltH n d i = 2 * i + 1 := by unfold kid; rw [if_neg (by rw [h3]; simp)]
          rw [hkd] at hq
          rw [h3] at g1
          have g2 := g0 (2 * i + 1) h1
          rw [show ((2 * i + 1 : Nat) : Int) = 2 * (i : Int) + 1 by omega] at g2
          cases h4 : ltH d[2 * i + 1]! d[i]! with
          | true =>
            rw [h4] at g2
            rw [if_pos h4] at hq
            have g3 := s0 (2 * i + 1) h1
            rw [show ((2 * i + 1 : Nat) : Int) = 2 * (i : Int) + 1 by omega] at g3
            refine Ev_step (st' := hdS_h m i0 n (2 * i + 1) (Go.Sort.swp d i (2 * i + 1))) ?_ (ih (n - (2 * i + 1)) (by omega) _ _ rfl (by rw [size_swp]; exact hn) (by rw [size_swp]; exact hs) (by omega) hq)
            simp (config := { maxSteps := 1000000 }) (disch := omega) only [go_sem, ↓reduceIte, Nat.reduceEqDiff, Nat.reduceAdd, Int.reduceToNat, reduceCtorEq, Nat.reduceLeDiff, Nat.reduceSub, Nat.reduceDiv, Nat.reduceMod, Nat.reduceMul, d1213_b0, hdS_h, g1, g2, g3, tnE, arr_len, show ((2 * i + 1 : Nat) : Int) = 2 * (i : Int) + 1 by omega]
          | false =>
            rw [h4] at g2
            rw [if_neg (by rw [h4]; simp)] at hq
            refine Ev_stop ?_
            simp (config := { maxSteps := 1000000 }) (disch := omega) only [go_sem, ↓reduceIte, Nat.reduceEqDiff, Nat.reduceAdd, Int.reduceToNat, reduceCtorEq, Nat.reduceLeDiff, Nat.reduceSub, Nat.reduceDiv, Nat.reduceMod, Nat.reduceMul, d1213_b0, hdS_h, tnE, g1, g2]
            exact hq _ _ rfl rfl (.inr rfl)
      · have hkd : kid ltH n d i = 2 * i + 1 := by unfold kid; rw [if_neg (fun h => h2 h.1)]
        rw [hkd] at hq
        have g2 := g0 (2 * i + 1) h1
        rw [show ((2 * i + 1 : Nat) : Int) = 2 * (i : Int) + 1 by omega] at g2
        cases h4 : ltH d[2 * i + 1]! d[i]! with
        | true =>
          rw [h4] at g2
          rw [if_pos h4] at hq
          have g3 := s0 (2 * i + 1) h1
          rw [show ((2 * i + 1 : Nat) : Int) = 2 * (i : Int) + 1 by omega] at g3
          refine Ev_step (st' := hdS_h m i0 n (2 * i + 1) (Go.Sort.swp d i (2 * i + 1))) ?_ (ih (n - (2 * i + 1)) (by omega) _ _ rfl (by rw [size_swp]; exact hn) (by rw [size_swp]; exact hs) (by omega) hq)
          simp (config := { maxSteps := 1000000 }) (disch := omega) only [go_sem, ↓reduceIte, Nat.reduceEqDiff, Nat.reduceAdd, Int.reduceToNat, reduceCtorEq, Nat.reduceLeDiff, Nat.reduceSub, Nat.reduceDiv, Nat.reduceMod, Nat.reduceMul, d1213_b0, hdS_h, g2, g3, tnE, arr_len, show ((2 * i + 1 : Nat) : Int) = 2 * (i : Int) + 1 by omega]
        | false =>
          rw [h4] at g2
          rw [if_neg (by rw [h4]; simp)] at hq
          refine Ev_stop ?_
          simp (config := { maxSteps := 1000000 }) (disch := omega) only [go_sem, ↓reduceIte, Nat.reduceEqDiff, Nat.reduceAdd, Int.reduceToNat, reduceCtorEq, Nat.reduceLeDiff, Nat.reduceSub, Nat.reduceDiv, Nat.reduceMod, Nat.reduceMul, d1213_b0, hdS_h, tnE, g2]
          exact hq _ _ rfl rfl (.inr rfl)
    · rw [if_neg h1] at hq
      refine Ev_stop ?_
      simp (config := { maxSteps := 1000000 }) (disch := omega) only [go_sem, ↓reduceIte, Nat.reduceEqDiff, Nat.reduceAdd, Int.reduceToNat, reduceCtorEq, Nat.reduceLeDiff, Nat.reduceSub, Nat.reduceDiv, Nat.reduceMod, Nat.reduceMul, d1213_b0, hdS_h]
      exact hq _ _ rfl rfl (.inl rfl)
theorem hdown_h {m : Int} {n i : Nat} {d : Array Ed} (hn : n ≤ d.size) (hs : d.size ≤ 1000000) (hi : i ≤ 1000000) : runP tab 1213 [.ifc 23 (.ref 0 0), .int .i64 (i : Int), .int .i64 (n : Int)] [.row false [.vec 2 (prs d.toList), .int .i64 m]] = some (.bool (decide ((i : Int) < ((dn ltH n d i).2 : Int))), [.row false [.vec 2 (prs (dn ltH n d i).1.toList), .int .i64 m]]) := by
  refine runP_fn t1213 rfl ?_
  simp (config := { maxSteps := 1000000 }) (disch := omega) only [go_sem, ↓reduceIte, Nat.reduceEqDiff, Nat.reduceAdd, Int.reduceToNat, reduceCtorEq, Nat.reduceLeDiff, Nat.reduceSub, Nat.reduceDiv, Nat.reduceMod, Nat.reduceMul, d1213]
  refine hdn_loop_h (m := m) (i0 := i) _ i d rfl hn hs hi (fun env hp h1 h7 hh => ?_)
  rcases hh with rfl | rfl <;> simp (config := { maxSteps := 1000000 }) (disch := omega) only [go_sem, ↓reduceIte, Nat.reduceEqDiff, Nat.reduceAdd, Int.reduceToNat, reduceCtorEq, Nat.reduceLeDiff, Nat.reduceSub, Nat.reduceDiv, Nat.reduceMod, Nat.reduceMul, h1, h7]
theorem hpopf_h {m : Int} {d : Array Ed} (h0 : 0 < d.size) (hs : d.size ≤ 1000000) : runP tab 1204 [.ifc 23 (.ref 0 0)] [.row false [.vec 2 (prs d.toList), .int .i64 m]] = some (.ifc 54 (.agg [.int .i64 d[0]!.1, .int .i64 d[0]!.2]), [.row false [.vec 2 (prs (hpPop ltH d).toList), .int .i64 m]]) := by
  refine runP_fn t1204 rfl ?_
  have e : ((d.size : Int) - 1) = ((d.size - 1 : Nat) : Int) := by omega
  have g1 := hswp_h (d := d) (i := 0) (j := d.size - 1) h0 (by omega)
  have g2 := hdown_h (m := m) (n := d.size - 1) (i := 0) (d := Go.Sort.swp d 0 (d.size - 1)) (by rw [size_swp]; omega) (by rw [size_swp]; exact hs) (by omega)
  have g3 := hpop_h (m := m) (d := (dn ltH (d.size - 1) (Go.Sort.swp d 0 (d.size - 1)) 0).1) (by rw [dn_size, size_swp]; exact h0) (by rw [dn_size, size_swp]; exact hs)
  rw [dn_size, size_swp, hpPop_last h0] at g3
  simp only [Int.cast_ofNat_Int] at g1 g2
  unfold hpPop
  generalize hq : dn ltH (d.size - 1) (Go.Sort.swp d 0 (d.size - 1)) 0 = q at *
  simp (config := { maxSteps := 1000000 }) (disch := omega) only [go_sem, ↓reduceIte, Nat.reduceEqDiff, Nat.reduceAdd, Int.reduceToNat, reduceCtorEq, Nat.reduceLeDiff, Nat.reduceSub, Nat.reduceDiv, Nat.reduceMod, Nat.reduceMul, d1204, hlen_h, arr_len, e, g1, g2, g3]
end Go.Proofs.Ytpanhbaiimnlhaa
