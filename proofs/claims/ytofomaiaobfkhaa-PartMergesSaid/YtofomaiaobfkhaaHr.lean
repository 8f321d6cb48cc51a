/- container/heap over a row of numbers. -/
import Derived.Test.YtofomaiaobfkhaaSi
import Derived.Test.YtofomaiaobfkhaaHq
namespace Go.Proofs.Ytofomaiaobfkhaa
set_option linter.unusedSimpArgs false
set_option linter.unusedVariables false
set_option maxHeartbeats 4000000
set_option maxRecDepth 100000
open Go.Sort (size_swp)
theorem lk_nil (s : Nat) : lk [] s = .unk := rfl
attribute [go_sem] lk_nil
theorem hlen_n (l : List Int) : runP tab 1253 [.sl 1 (ints l)] [] = some (.int .i64 (l.length : Int), []) := by
  refine runP_fn t1253 rfl ?_
  simp (config := { maxSteps := 1000000 }) (disch := omega) only [go_sem, ↓reduceIte, Nat.reduceEqDiff, Nat.reduceAdd, Int.reduceToNat, reduceCtorEq, Nat.reduceLeDiff, Nat.reduceSub, Nat.reduceDiv, Nat.reduceMod, Nat.reduceMul, d1253]
theorem hless_n {d : Array Int} {i j : Nat} (hi : i < d.size) (hj : j < d.size) : runP tab 1254 [.sl 1 (ints d.toList), .int .i64 (i : Int), .int .i64 (j : Int)] [] = some (.bool (ltI d[i]! d[j]!), []) := by
  refine runP_fn t1254 rfl ?_
  simp (config := { maxSteps := 1000000 }) (disch := omega) only [go_sem, ↓reduceIte, Nat.reduceEqDiff, Nat.reduceAdd, Int.reduceToNat, reduceCtorEq, Nat.reduceLeDiff, Nat.reduceSub, Nat.reduceDiv, Nat.reduceMod, Nat.reduceMul, at_i, arr_len, d1254]
  rfl
theorem hswp_n {d : Array Int} {i j : Nat} (hi : i < d.size) (hj : j < d.size) : runP tab 1256 [.own 1 0, .int .i64 (i : Int), .int .i64 (j : Int)] [.row false (ints d.toList)] = some (.tup [], [.row false (ints (Go.Sort.swp d i j).toList)]) := by
  refine runP_fn t1256 rfl ?_
  simp (config := { maxSteps := 1000000 }) (disch := omega) only [go_sem, ↓reduceIte, Nat.reduceEqDiff, Nat.reduceAdd, Int.reduceToNat, reduceCtorEq, Nat.reduceLeDiff, Nat.reduceSub, Nat.reduceDiv, Nat.reduceMod, Nat.reduceMul, at_i, arr_len, swp_i, d1256]
theorem arr_take (d : Array Int) : d.toList.take (d.size - 1) = d.pop.toList := by simp [List.dropLast_eq_take]
theorem hpop_n {d : Array Int} (h : 0 < d.size) (hs : d.size ≤ 1000000) : runP tab 1255 [.ref 0 0] [.row false [.vec 1 (ints d.toList)]] = some (.ifc 3 (.int .i64 d[d.size - 1]!), [.row false [.vec 1 (ints d.pop.toList)]]) := by
  refine runP_fn t1255 rfl ?_
  have e : ((d.size : Int) - 1) = ((d.size - 1 : Nat) : Int) := by omega
  simp (config := { maxSteps := 1000000 }) (disch := omega) only [go_sem, ↓reduceIte, Nat.reduceEqDiff, Nat.reduceAdd, Int.reduceToNat, reduceCtorEq, Nat.reduceLeDiff, Nat.reduceSub, Nat.reduceDiv, Nat.reduceMod, Nat.reduceMul, at_i, arr_len, e, arr_take, d1255]
def hdS (i0 n i : Nat) (d : Array Int) : St := ⟨[(0, .ifc 44 (.ref 0 0)), (1, .int .i64 (i0 : Int)), (2, .int .i64 (n : Int)), (7, .int .i64 (i : Int))], [.row false [.vec 1 (ints d.toList)]], 1, [(0, 1, [0, 1, 2, 7], [])]⟩
theorem hdn_loop {i0 n : Nat} {Q : AX → St → Prop} : ∀ (k i : Nat) (d : Array Int), n - i = k → n ≤ d.size → d.size ≤ 1000000 → i ≤ 1000000 →
    (∀ env hp, lk env 1 = .int .i64 (i0 : Int) → lk env 7 = .int .i64 ((dn ltI n d i).2 : Int) → (hp = [.row false [.vec 1 (ints (dn ltI n d i).1.toList)]] ∨ hp = [.row false [.own 1 1], .row false (ints (dn ltI n d i).1.toList)]) → Q (.exit 0) ⟨env, hp, 1, [(0, 1, [0, 1, 2, 7], [])]⟩) → Ev tab (.loop d1213_b0) (hdS i0 n i d) Q := by
  intro k
  induction k using Nat.strongRecOn with
  | _ k ih =>
    intro i d hk hn hs hi hq
    rw [dn] at hq
    by_cases h1 : 2 * i + 1 < n
    · rw [if_pos h1] at hq
      have hkc := kid_cases ltI n d i h1
      have g0 : ∀ c, c < n → runP tab 1254 [.sl 1 (ints d.toList), .int .i64 (c : Int), .int .i64 (i : Int)] [] = some (.bool (ltI d[c]! d[i]!), []) := fun c hc => hless_n (by omega) (by omega)
      have s0 : ∀ c, c < n → runP tab 1256 [.own 1 0, .int .i64 (i : Int), .int .i64 (c : Int)] [.row false (ints d.toList)] = some (.tup [], [.row false (ints (Go.Sort.swp d i c).toList)]) := fun c hc => hswp_n (by omega) (by omega)
      by_cases h2 : 2 * i + 2 < n
      · have g1 := hless_n (d := d) (i := 2 * i + 2) (j := 2 * i + 1) (by omega) (by omega)
        rw [show ((2 * i + 2 : Nat) : Int) = 2 * (i : Int) + 2 by omega, show ((2 * i + 1 : Nat) : Int) = 2 * (i : Int) + 1 by omega] at g1
        cases h3 : ltI d[2 * i + 2]! d[2 * i + 1]! with
        | true =>
          have hkd : kid ltI n d i = 2 * i + 2 := by unfold kid; rw [if_pos ⟨h2, h3⟩]
          rw [hkd] at hq
          rw [h3] at g1
          have g2 := g0 (2 * i + 2) h2
          rw [show ((2 * i + 2 : Nat) : Int) = 2 * (i : Int) + 2 by omega] at g2
          cases h4 : ltI d[2 * i + 2]! d[i]! with
          | true =>
            rw [h4] at g2
            rw [if_pos h4] at hq
            have g3 := s0 (2 * i + 2) h2
            rw [show ((2 * i + 2 : Nat) : Int) = 2 * (i : Int) + 2 by omega] at g3
            refine Ev_step (st' := hdS i0 n (2 * i + 2) (Go.Sort.swp d i (2 * i + 2))) ?_ (ih (n - (2 * i + 2)) (by omega) _ _ rfl (by rw [size_swp]; exact hn) (by rw [size_swp]; exact hs) (by omega) hq)
            simp (config := { maxSteps := 1000000 }) (disch := omega) only [go_sem, ↓reduceIte, Nat.reduceEqDiff, Nat.reduceAdd, Int.reduceToNat, reduceCtorEq, Nat.reduceLeDiff, Nat.reduceSub, Nat.reduceDiv, Nat.reduceMod, Nat.reduceMul, d1213_b0, hdS, g1, g2, g3, tnE, arr_len, show ((2 * i + 2 : Nat) : Int) = 2 * (i : Int) + 2 by omega]
          | false =>
            rw [h4] at g2
            rw [if_neg (by rw [h4]; simp)] at hq
            refine Ev_stop ?_
            simp (config := { maxSteps := 1000000 }) (disch := omega) only [go_sem, ↓reduceIte, Nat.reduceEqDiff, Nat.reduceAdd, Int.reduceToNat, reduceCtorEq, Nat.reduceLeDiff, Nat.reduceSub, Nat.reduceDiv, Nat.reduceMod, Nat.reduceMul, d1213_b0, hdS, tnE, g1, g2]
            exact hq _ _ rfl rfl (.inr rfl)
        | false =>
          have hkd : kid ltI n d i = 2 * i + 1 := by unfold kid; rw [if_neg (by rw [h3]; simp)]
          rw [hkd] at hq
          rw [h3] at g1
          have g2 := g0 (2 * i + 1) h1
          rw [show ((2 * i + 1 : Nat) : Int) = 2 * (i : Int) + 1 by omega] at g2
          cases h4 : ltI d[2 * i + 1]! d[i]! with
          | true =>
            rw [h4] at g2
            rw [if_pos h4] at hq
            have g3 := s0 (2 * i + 1) h1
            rw [show ((2 * i + 1 : Nat) : Int) = 2 * (i : Int) + 1 by omega] at g3
            refine Ev_step (st' := hdS i0 n (2 * i + 1) (Go.Sort.swp d i (2 * i + 1))) ?_ (ih (n - (2 * i + 1)) (by omega) _ _ rfl (by rw [size_swp]; exact hn) (by rw [size_swp]; exact hs) (by omega) hq)
            simp (config := { maxSteps := 1000000 }) (disch := omega) only [go_sem, ↓reduceIte, Nat.reduceEqDiff, Nat.reduceAdd, Int.reduceToNat, reduceCtorEq, Nat.reduceLeDiff, Nat.reduceSub, Nat.reduceDiv, Nat.reduceMod, Nat.reduceMul, d1213_b0, hdS, g1, g2, g3, tnE, arr_len, show ((2 * i + 1 : Nat) : Int) = 2 * (i : Int) + 1 by omega]
          | false =>
            rw [h4] at g2
            rw [if_neg (by rw [h4]; simp)] at hq
            refine Ev_stop ?_
            simp (config := { maxSteps := 1000000 }) (disch := omega) only [go_sem, ↓reduceIte, Nat.reduceEqDiff, Nat.reduceAdd, Int.reduceToNat, reduceCtorEq, Nat.reduceLeDiff, Nat.reduceSub, Nat.reduceDiv, Nat.reduceMod, Nat.reduceMul, d1213_b0, hdS, tnE, g1, g2]
            exact hq _ _ rfl rfl (.inr rfl)
      · have hkd : kid ltI n d i = 2 * i + 1 := by unfold kid; rw [if_neg (fun h => h2 h.1)]
        rw [hkd] at hq
        have g2 := g0 (2 * i + 1) h1
        rw [show ((2 * i + 1 : Nat) : Int) = 2 * (i : Int) + 1 by omega] at g2
        cases h4 : ltI d[2 * i + 1]! d[i]! with
        | true =>
          rw [h4] at g2
          rw [if_pos h4] at hq
          have g3 := s0 (2 * i + 1) h1
          rw [show ((2 * i + 1 : Nat) : Int) = 2 * (i : Int) + 1 by omega] at g3
          refine Ev_step (st' := hdS i0 n (2 * i + 1) (Go.Sort.swp d i (2 * i + 1))) ?_ (ih (n - (2 * i + 1)) (by omega) _ _ rfl (by rw [size_swp]; exact hn) (by rw [size_swp]; exact hs) (by omega) hq)
          simp (config := { maxSteps := 1000000 }) (disch := omega) only [go_sem, ↓reduceIte, Nat.reduceEqDiff, Nat.reduceAdd, Int.reduceToNat, reduceCtorEq, Nat.reduceLeDiff, Nat.reduceSub, Nat.reduceDiv, Nat.reduceMod, Nat.reduceMul, d1213_b0, hdS, g2, g3, tnE, arr_len, show ((2 * i + 1 : Nat) : Int) = 2 * (i : Int) + 1 by omega]
        | false =>
          rw [h4] at g2
          rw [if_neg (by rw [h4]; simp)] at hq
          refine Ev_stop ?_
          simp (config := { maxSteps := 1000000 }) (disch := omega) only [go_sem, ↓reduceIte, Nat.reduceEqDiff, Nat.reduceAdd, Int.reduceToNat, reduceCtorEq, Nat.reduceLeDiff, Nat.reduceSub, Nat.reduceDiv, Nat.reduceMod, Nat.reduceMul, d1213_b0, hdS, tnE, g2]
          exact hq _ _ rfl rfl (.inr rfl)
    · rw [if_neg h1] at hq
      refine Ev_stop ?_
      simp (config := { maxSteps := 1000000 }) (disch := omega) only [go_sem, ↓reduceIte, Nat.reduceEqDiff, Nat.reduceAdd, Int.reduceToNat, reduceCtorEq, Nat.reduceLeDiff, Nat.reduceSub, Nat.reduceDiv, Nat.reduceMod, Nat.reduceMul, d1213_b0, hdS]
      exact hq _ _ rfl rfl (.inl rfl)
theorem hdown_n {n i : Nat} {d : Array Int} (hn : n ≤ d.size) (hs : d.size ≤ 1000000) (hi : i ≤ 1000000) : runP tab 1213 [.ifc 44 (.ref 0 0), .int .i64 (i : Int), .int .i64 (n : Int)] [.row false [.vec 1 (ints d.toList)]] = some (.bool (decide ((i : Int) < ((dn ltI n d i).2 : Int))), [.row false [.vec 1 (ints (dn ltI n d i).1.toList)]]) := by
  refine runP_fn t1213 rfl ?_
  simp (config := { maxSteps := 1000000 }) (disch := omega) only [go_sem, ↓reduceIte, Nat.reduceEqDiff, Nat.reduceAdd, Int.reduceToNat, reduceCtorEq, Nat.reduceLeDiff, Nat.reduceSub, Nat.reduceDiv, Nat.reduceMod, Nat.reduceMul, d1213]
  refine hdn_loop (i0 := i) _ i d rfl hn hs hi (fun env hp h1 h7 hh => ?_)
  rcases hh with rfl | rfl <;> simp (config := { maxSteps := 1000000 }) (disch := omega) only [go_sem, ↓reduceIte, Nat.reduceEqDiff, Nat.reduceAdd, Int.reduceToNat, reduceCtorEq, Nat.reduceLeDiff, Nat.reduceSub, Nat.reduceDiv, Nat.reduceMod, Nat.reduceMul, h1, h7]
def hiS (n : Nat) (k : Int) (d : Array Int) : St := ⟨[(0, .ifc 44 (.ref 0 0)), (2, .int .i64 (n : Int)), (3, .int .i64 k)], [.row false [.vec 1 (ints d.toList)]], 1, [(0, 1, [0, 2, 3], []), (7, 1, [0, 2], [])]⟩
theorem hin_loop {n : Nat} {Q : AX → St → Prop} : ∀ (k : Nat) (d : Array Int), n ≤ d.size → d.size ≤ 1000000 → k ≤ 1000000 →
    (Ev tab d1203_b0 (hiS n (-1) (hpInit ltI n k d)) (fun x st => x ≠ .normal ∧ Q x st)) → Ev tab (.loop d1203_b0) (hiS n ((k : Int) - 1) d) Q
  | 0, d, hn, hs, hk, hq => Ev_stop hq
  | k + 1, d, hn, hs, hk, hq => by
    refine Ev_step (st' := hiS n ((k : Int) - 1) (dn ltI n d k).1) ?_ (hin_loop k _ (by rw [dn_size]; exact hn) (by rw [dn_size]; exact hs) (by omega) hq)
    have g := hdown_n (i := k) hn hs (by omega)
    generalize dn ltI n d k = d' at *
    simp (config := { maxSteps := 1000000 }) (disch := omega) only [go_sem, ↓reduceIte, Nat.reduceEqDiff, Nat.reduceAdd, Int.reduceToNat, reduceCtorEq, Nat.reduceLeDiff, Nat.reduceSub, Nat.reduceDiv, Nat.reduceMod, Nat.reduceMul, Int.add_sub_cancel, d1203_b0, hiS, g]
theorem hinit_n {d : Array Int} (hs : d.size ≤ 1000000) : runP tab 1203 [.ifc 44 (.ref 0 0)] [.row false [.vec 1 (ints d.toList)]] = some (.tup [], [.row false [.vec 1 (ints (hpInit ltI d.size (d.size / 2) d).toList)]]) := by
  refine runP_fn t1203 rfl ?_
  have e : ((d.size : Int)).tdiv 2 = ((d.size / 2 : Nat) : Int) := rfl
  simp (config := { maxSteps := 1000000 }) (disch := omega) only [go_sem, ↓reduceIte, Nat.reduceEqDiff, Nat.reduceAdd, Int.reduceToNat, reduceCtorEq, Nat.reduceLeDiff, Nat.reduceSub, Nat.reduceDiv, Nat.reduceMod, Nat.reduceMul, d1203, hlen_n, arr_len, e]
  refine hin_loop (n := d.size) (d.size / 2) d (Nat.le_refl _) hs (by omega) ?_
  have hz : (hpInit ltI d.size (d.size / 2) d).size = d.size := hpInit_size _ _ _
  generalize hpInit ltI d.size (d.size / 2) d = q at *
  simp (config := { maxSteps := 1000000 }) (disch := omega) only [go_sem, ↓reduceIte, Nat.reduceEqDiff, Nat.reduceAdd, Int.reduceToNat, reduceCtorEq, Nat.reduceLeDiff, Nat.reduceSub, Nat.reduceDiv, Nat.reduceMod, Nat.reduceMul, d1203_b0, hiS]
theorem hpopf_n {d : Array Int} (h0 : 0 < d.size) (hs : d.size ≤ 1000000) : runP tab 1204 [.ifc 44 (.ref 0 0)] [.row false [.vec 1 (ints d.toList)]] = some (.ifc 3 (.int .i64 d[0]!), [.row false [.vec 1 (ints (hpPop ltI d).toList)]]) := by
  refine runP_fn t1204 rfl ?_
  have e : ((d.size : Int) - 1) = ((d.size - 1 : Nat) : Int) := by omega
  have g1 := hswp_n (d := d) (i := 0) (j := d.size - 1) h0 (by omega)
  have g2 := hdown_n (n := d.size - 1) (i := 0) (d := Go.Sort.swp d 0 (d.size - 1)) (by rw [size_swp]; omega) (by rw [size_swp]; exact hs) (by omega)
  have g3 := hpop_n (d := (dn ltI (d.size - 1) (Go.Sort.swp d 0 (d.size - 1)) 0).1) (by rw [dn_size, size_swp]; exact h0) (by rw [dn_size, size_swp]; exact hs)
  rw [dn_size, size_swp, hpPop_last h0] at g3
  simp only [Int.cast_ofNat_Int] at g1 g2
  unfold hpPop
  generalize hq : dn ltI (d.size - 1) (Go.Sort.swp d 0 (d.size - 1)) 0 = q at *
  simp (config := { maxSteps := 1000000 }) (disch := omega) only [go_sem, ↓reduceIte, Nat.reduceEqDiff, Nat.reduceAdd, Int.reduceToNat, reduceCtorEq, Nat.reduceLeDiff, Nat.reduceSub, Nat.reduceDiv, Nat.reduceMod, Nat.reduceMul, d1204, hlen_n, arr_len, e, g1, g2, g3]
def hrS (n k : Nat) (d : Array Int) (acc : List Int) : St := ⟨[(0, .ifc 44 (.ref 0 0)), (3, .own 1 1), (7, .int .i64 (n : Int)), (8, .int .i64 (k : Int))], [.row false [.vec 1 (ints d.toList)], .row false (ints acc)], 1, [(0, 2, [0, 3, 7, 8], [(3, 1)]), (7, 1, [0, 3, 7, 8], [])]⟩
theorem hdr_loop {n : Nat} {Q : AX → St → Prop} (hn : n ≤ 1000000) : ∀ (m k : Nat) (d : Array Int) (acc : List Int), d.size = m → k + m = n → acc.length = k →
    (∀ d' : Array Int, d'.size = 0 → Ev tab d1252_b0 (hrS n n d' (acc ++ hpAll ltI m d)) (fun x st => x ≠ .normal ∧ Q x st)) → Ev tab (.loop d1252_b0) (hrS n k d acc) Q
  | 0, k, d, acc, hd, hk, ha, hq => by
    obtain rfl : k = n := by omega
    refine Ev_stop ?_
    have := hq d hd
    rwa [hpAll, List.append_nil] at this
  | m + 1, k, d, acc, hd, hk, ha, hq => by
    refine Ev_step (st' := hrS n (k + 1) (hpPop ltI d) (acc ++ [d[0]!])) ?_ (hdr_loop hn m (k + 1) _ _ (by rw [hpPop_size]; omega) (by omega) (by simp [ha]) (fun d' h0 => ?_))
    · have g := hpopf_n (d := d) (by omega) (by omega)
      generalize hpPop ltI d = d' at *
      have e : ∀ x : Int, ints acc ++ [AV.int .i64 x] = ints (acc ++ [x]) := fun x => by simp [ints]
      have hl : (ints acc).length = k := by simp [ints, ha]
      simp (config := { maxSteps := 1000000 }) (disch := omega) only [go_sem, ↓reduceIte, Nat.reduceEqDiff, Nat.reduceAdd, Int.reduceToNat, reduceCtorEq, Nat.reduceLeDiff, Nat.reduceSub, Nat.reduceDiv, Nat.reduceMod, Nat.reduceMul, d1252_b0, hrS, g, e, ha]
    · have := hq d' h0
      rw [hpAll] at this
      simpa using this
theorem drain_n {d : Array Int} (hs : d.size ≤ 1000000) : runP tab 1252 [.ifc 44 (.ref 0 0)] [.row false [.vec 1 (ints d.toList)]] = some (.vec 1 (ints (sorted ltI d.toList)), [.row false [.vec 1 []]]) := by
  have hz : (hpInit ltI d.size (d.size / 2) d).size = d.size := hpInit_size _ _ _
  have hall := hpAll_sorted ordrI d
  have g := hinit_n hs
  refine runP_fn t1252 rfl ?_
  simp (config := { maxSteps := 1000000 }) (disch := omega) only [go_sem, ↓reduceIte, Nat.reduceEqDiff, Nat.reduceAdd, Int.reduceToNat, reduceCtorEq, Nat.reduceLeDiff, Nat.reduceSub, Nat.reduceDiv, Nat.reduceMod, Nat.reduceMul, d1252, g, hlen_n, arr_len, hz]
  refine hdr_loop (n := d.size) hs d.size 0 (hpInit ltI d.size (d.size / 2) d) [] hz (by omega) rfl (fun d' h0 => ?_)
  rw [List.nil_append, hall]
  have e0 : ints d'.toList = [] := by
    have : d'.toList = [] := by simpa using h0
    rw [this]; rfl
  simp (config := { maxSteps := 1000000 }) (disch := omega) only [go_sem, ↓reduceIte, Nat.reduceEqDiff, Nat.reduceAdd, Int.reduceToNat, reduceCtorEq, Nat.reduceLeDiff, Nat.reduceSub, Nat.reduceDiv, Nat.reduceMod, Nat.reduceMul, d1252_b0, hrS, e0]
end Go.Proofs.Ytofomaiaobfkhaa
