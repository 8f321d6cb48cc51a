/- Layer 6: homes, parts. -/
import Derived.Test.YtofomaiaobfkhaaRo
namespace Go.Proofs.Ytofomaiaobfkhaa
set_option linter.unusedSimpArgs false
set_option linter.unusedVariables false
set_option maxHeartbeats 4000000
set_option maxRecDepth 100000
def hmOk (v w : Int) : Bool := decide (0 ≤ v ∧ v ≤ 1000000 ∧ 1 ≤ w ∧ w ≤ 16)
def hmR (v w : Int) : Int := if hmOk v w then ((v * 40503 + 12345).tmod 65536).tmod w else 0
theorem hm_lt {v w : Int} (h : hmOk v w = true) : 0 ≤ hmR v w ∧ hmR v w < w := by
  have h' := h
  simp only [hmOk, decide_eq_true_eq] at h'
  rw [hmR, if_pos h]
  have h1 : 0 ≤ (v * 40503 + 12345).tmod 65536 := Int.tmod_nonneg _ (by omega)
  exact ⟨Int.tmod_nonneg _ h1, Int.tmod_lt_of_pos _ (by omega)⟩
theorem hm_cases (v w : Int) : (hmOk v w = true ∧ hmR v w = ((v * 40503 + 12345).tmod 65536).tmod w ∧ 0 ≤ v ∧ v ≤ 1000000 ∧ 1 ≤ w ∧ w ≤ 16) ∨ (hmOk v w = false ∧ hmR v w = 0 ∧ ¬ (0 ≤ v ∧ v ≤ 1000000 ∧ 1 ≤ w ∧ w ≤ 16)) := by
  cases h : hmOk v w with
  | true => left; have h' := h; simp only [hmOk, decide_eq_true_eq] at h'; rw [hmR, if_pos h]; exact ⟨rfl, rfl, h'.1, h'.2.1, h'.2.2.1, h'.2.2.2⟩
  | false => right; have h' := h; simp only [hmOk, decide_eq_false_iff_not] at h'; rw [hmR, if_neg (by rw [h]; simp)]; exact ⟨rfl, rfl, h'⟩
theorem may_run {w : Int} : runP tab 1250 [.int .i64 w] [] = some (.bool (decide (1 ≤ w ∧ w ≤ 16)), []) := by
  refine runP_fn t1250 rfl ?_
  by_cases h1 : 1 ≤ w
  · by_cases h2 : w ≤ 16
    · rw [decide_eq_true (show 1 ≤ w ∧ w ≤ 16 from ⟨h1, h2⟩)]
      simp (config := { maxSteps := 1000000 }) (disch := omega) only [go_sem, ↓reduceIte, Nat.reduceEqDiff, Nat.reduceAdd, Int.reduceToNat, reduceCtorEq, Nat.reduceLeDiff, Nat.reduceSub, Nat.reduceDiv, Nat.reduceMod, Nat.reduceMul, d1250]
    · rw [decide_eq_false (show ¬ (1 ≤ w ∧ w ≤ 16) by omega)]
      simp (config := { maxSteps := 1000000 }) (disch := omega) only [go_sem, ↓reduceIte, Nat.reduceEqDiff, Nat.reduceAdd, Int.reduceToNat, reduceCtorEq, Nat.reduceLeDiff, Nat.reduceSub, Nat.reduceDiv, Nat.reduceMod, Nat.reduceMul, d1250]
  · rw [decide_eq_false (show ¬ (1 ≤ w ∧ w ≤ 16) by omega)]
    simp (config := { maxSteps := 1000000 }) (disch := omega) only [go_sem, ↓reduceIte, Nat.reduceEqDiff, Nat.reduceAdd, Int.reduceToNat, reduceCtorEq, Nat.reduceLeDiff, Nat.reduceSub, Nat.reduceDiv, Nat.reduceMod, Nat.reduceMul, d1250]
theorem home_run {v w : Int} : runP tab 1237 [.int .i64 v, .int .i64 w] [] = some (.tup [.int .i64 (hmR v w), .bool (hmOk v w)], []) := by
  refine runP_fn t1237 rfl ?_
  have gm := may_run (w := w)
  rcases hm_cases v w with ⟨h1, h2, a, b, c, d⟩ | ⟨h1, h2, h⟩
  · rw [h1, h2]
    rw [decide_eq_true (show 1 ≤ w ∧ w ≤ 16 from ⟨c, d⟩)] at gm
    have q : 0 ≤ (v * 40503 + 12345).tmod 65536 := Int.tmod_nonneg _ (by omega)
    have q2 := Int.tmod_lt_of_pos (v * 40503 + 12345) (show (0 : Int) < 65536 by omega)
    simp (config := { maxSteps := 1000000 }) (disch := omega) only [go_sem, ↓reduceIte, Nat.reduceEqDiff, Nat.reduceAdd, Int.reduceToNat, reduceCtorEq, Nat.reduceLeDiff, Nat.reduceSub, Nat.reduceDiv, Nat.reduceMod, Nat.reduceMul, d1237, gm]
  · rw [h1, h2]
    by_cases a : v < 0
    · simp (config := { maxSteps := 1000000 }) (disch := omega) only [go_sem, ↓reduceIte, Nat.reduceEqDiff, Nat.reduceAdd, Int.reduceToNat, reduceCtorEq, Nat.reduceLeDiff, Nat.reduceSub, Nat.reduceDiv, Nat.reduceMod, Nat.reduceMul, d1237, gm]
    by_cases b : 1000000 < v
    · simp (config := { maxSteps := 1000000 }) (disch := omega) only [go_sem, ↓reduceIte, Nat.reduceEqDiff, Nat.reduceAdd, Int.reduceToNat, reduceCtorEq, Nat.reduceLeDiff, Nat.reduceSub, Nat.reduceDiv, Nat.reduceMod, Nat.reduceMul, d1237, gm]
    rw [decide_eq_false (show ¬ (1 ≤ w ∧ w ≤ 16) by omega)] at gm
    simp (config := { maxSteps := 1000000 }) (disch := omega) only [go_sem, ↓reduceIte, Nat.reduceEqDiff, Nat.reduceAdd, Int.reduceToNat, reduceCtorEq, Nat.reduceLeDiff, Nat.reduceSub, Nat.reduceDiv, Nat.reduceMod, Nat.reduceMul, d1237, gm]
theorem rhome_run {v w : Int} : runP tab 1238 [.int .i64 v, .int .i64 w] [] = some (.tup [.int .i64 (hmR v w), .bool (hmOk v w)], []) := by
  refine runP_fn t1238 rfl ?_
  rcases hm_cases v w with ⟨h1, h2, a, b, c, d⟩ | ⟨h1, h2, h⟩
  · rw [h1, h2]
    have q : 0 ≤ (v * 40503 + 12345).tmod 65536 := Int.tmod_nonneg _ (by omega)
    have q2 := Int.tmod_lt_of_pos (v * 40503 + 12345) (show (0 : Int) < 65536 by omega)
    simp (config := { maxSteps := 1000000 }) (disch := omega) only [go_sem, ↓reduceIte, Nat.reduceEqDiff, Nat.reduceAdd, Int.reduceToNat, reduceCtorEq, Nat.reduceLeDiff, Nat.reduceSub, Nat.reduceDiv, Nat.reduceMod, Nat.reduceMul, d1238]
  · rw [h1, h2]
    by_cases a : v < 0
    · simp (config := { maxSteps := 1000000 }) (disch := omega) only [go_sem, ↓reduceIte, Nat.reduceEqDiff, Nat.reduceAdd, Int.reduceToNat, reduceCtorEq, Nat.reduceLeDiff, Nat.reduceSub, Nat.reduceDiv, Nat.reduceMod, Nat.reduceMul, d1238]
    by_cases b : 1000000 < v
    · simp (config := { maxSteps := 1000000 }) (disch := omega) only [go_sem, ↓reduceIte, Nat.reduceEqDiff, Nat.reduceAdd, Int.reduceToNat, reduceCtorEq, Nat.reduceLeDiff, Nat.reduceSub, Nat.reduceDiv, Nat.reduceMod, Nat.reduceMul, d1238]
    by_cases c : w < 1
    · simp (config := { maxSteps := 1000000 }) (disch := omega) only [go_sem, ↓reduceIte, Nat.reduceEqDiff, Nat.reduceAdd, Int.reduceToNat, reduceCtorEq, Nat.reduceLeDiff, Nat.reduceSub, Nat.reduceDiv, Nat.reduceMod, Nat.reduceMul, d1238]
    simp (config := { maxSteps := 1000000 }) (disch := omega) only [go_sem, ↓reduceIte, Nat.reduceEqDiff, Nat.reduceAdd, Int.reduceToNat, reduceCtorEq, Nat.reduceLeDiff, Nat.reduceSub, Nat.reduceDiv, Nat.reduceMod, Nat.reduceMul, d1238]
def prt (l : List Int) (n w : Int) : List Int := l.filter fun v => hmR v n == w
theorem take_succ_getD {α : Type} [Inhabited α] {l : List α} {i : Nat} (h : i < l.length) : l.take (i + 1) = l.take i ++ [l.getD i default] := by
  rw [List.take_succ_eq_append_getElem h, List.getD_eq_getElem?_getD, List.getElem?_eq_getElem h]; rfl
theorem prt_yes {l : List Int} {n w : Int} {i : Nat} (h : i < l.length) (e : hmR (l.getD i 0) n = w) : prt (l.take (i + 1)) n w = prt (l.take i) n w ++ [l.getD i 0] := by
  rw [take_succ_getD h, prt, List.filter_append]
  have : (l.getD i default) = l.getD i 0 := rfl
  rw [this, List.filter_cons, if_pos (beq_iff_eq.2 e)]; rfl
theorem prt_no {l : List Int} {n w : Int} {i : Nat} (h : i < l.length) (e : hmR (l.getD i 0) n ≠ w) : prt (l.take (i + 1)) n w = prt (l.take i) n w := by
  rw [take_succ_getD h, prt, List.filter_append]
  have : (l.getD i default) = l.getD i 0 := rfl
  rw [this, List.filter_cons, if_neg (by rw [beq_iff_eq]; exact e)]; simp [prt]
theorem prt_len (l : List Int) (n w : Int) (i : Nat) : (prt (l.take i) n w).length ≤ l.length := by
  have h1 := List.length_filter_le (fun v => hmR v n == w) (l.take i)
  rw [List.length_take] at h1
  unfold prt; omega
theorem ownp_run {l : List Int} {n w : Int} (hl : l.length ≤ 1000000) : runP tab 1251 [.sl 1 (ints l), .sl 1 (ints (l.map fun v => hmR v n)), .int .i64 w] [] = some (.vec 1 (ints (prt l n w)), []) := by
  refine runP_fn t1251 rfl ?_
  simp (config := { maxSteps := 1000000 }) (disch := omega) only [go_sem, ↓reduceIte, Nat.reduceEqDiff, Nat.reduceAdd, Int.reduceToNat, reduceCtorEq, Nat.reduceLeDiff, Nat.reduceSub, Nat.reduceDiv, Nat.reduceMod, Nat.reduceMul, d1251]
  refine Ev_loop0 (fun i => ⟨[(1, .sl 1 (ints (l.map fun v => hmR v n))), (2, .int .i64 w), (7, .own 1 0), (10, .sl 1 (ints l)), (11, .int .i64 (l.length : Int)), (12, .int .i64 (i : Int))], [.row false (ints (prt (l.take i) n w))], 0, [(0, 1, [1, 2, 7, 10, 11, 12], [(7, 0)])]⟩) l.length (by simp [prt, ints_nil]) (fun i hi => ?_) ?_
  · have hb := prt_len l n w i
    have em : (l.map fun v => hmR v n).length = l.length := by simp
    have ea : (l.map fun v => hmR v n).getD i 0 = hmR (l.getD i 0) n := by
      rw [List.getD_eq_getElem?_getD, List.getElem?_map, List.getElem?_eq_getElem hi, List.getD_eq_getElem?_getD, List.getElem?_eq_getElem hi]; rfl
    by_cases e : hmR (l.getD i 0) n = w
    · have h1 := prt_yes hi e
      simp (config := { maxSteps := 1000000 }) (disch := omega) only [go_sem, ↓reduceIte, Nat.reduceEqDiff, Nat.reduceAdd, Int.reduceToNat, reduceCtorEq, Nat.reduceLeDiff, Nat.reduceSub, Nat.reduceDiv, Nat.reduceMod, Nat.reduceMul, d1251_b0, em, ea, e, h1, ints_snoc]
    · have h1 := prt_no hi e
      simp (config := { maxSteps := 1000000 }) (disch := omega) only [go_sem, ↓reduceIte, Nat.reduceEqDiff, Nat.reduceAdd, Int.reduceToNat, reduceCtorEq, Nat.reduceLeDiff, Nat.reduceSub, Nat.reduceDiv, Nat.reduceMod, Nat.reduceMul, d1251_b0, em, ea, e, h1]
  · simp (config := { maxSteps := 1000000 }) (disch := omega) only [go_sem, ↓reduceIte, Nat.reduceEqDiff, Nat.reduceAdd, Int.reduceToNat, reduceCtorEq, Nat.reduceLeDiff, Nat.reduceSub, Nat.reduceDiv, Nat.reduceMod, Nat.reduceMul, d1251_b0, List.take_length]
theorem tile_int0 (x : Int) : ∀ n, tile n [AV.int .i64 x] = ints (List.replicate n x)
  | 0 => rfl
  | n + 1 => by rw [tile, tile_int0 x n]; rfl
def prts (l : List Int) (n : Int) (k : Nat) : List (List Int) := (List.range k).map fun w : Nat => prt l n w
theorem prts_succ (l : List Int) (n : Int) (k : Nat) : prts l n (k + 1) = prts l n k ++ [prt l n k] := by simp [prts, List.range_succ]
theorem prts_len (l : List Int) (n : Int) (k : Nat) : (prts l n k).length = k := by simp [prts]
def splOk (l : List Int) (n : Int) : Bool := decide (1 ≤ n ∧ n ≤ 16) && l.all fun v => hmOk v n
def splA (l : List Int) (n : Int) : AV := if splOk l n then .tup [.vec 1 (owV (prts l n n.toNat)), .int .i64 0] else .tup [.vec 1 [], .int .i64 1]
theorem all_first (p : Int → Bool) (l : List Int) : (l.all p = true ∧ ∀ i, i < l.length → p (l.getD i 0) = true) ∨ (l.all p = false ∧ ∃ k, k < l.length ∧ (∀ i, i < k → p (l.getD i 0) = true) ∧ p (l.getD k 0) = false) := by
  have e : ∀ i (h : i < l.length), l.getD i 0 = l[i] := fun i h => by rw [List.getD_eq_getElem?_getD, List.getElem?_eq_getElem h]; rfl
  rcases first_ix' (fun i => p (l.getD i 0) = true) l.length with h | ⟨k, h1, h2, h3⟩
  · left
    refine ⟨List.all_eq_true.2 fun x hx => ?_, h⟩
    obtain ⟨i, hi, rfl⟩ := List.getElem_of_mem hx
    rw [← e i hi]; exact h i hi
  · right
    have h3' : p (l.getD k 0) = false := by simpa using h3
    refine ⟨?_, k, h1, h2, h3'⟩
    rw [List.all_eq_false]
    exact ⟨l[k], List.getElem_mem h1, by rw [← e k h1, h3']; simp⟩
theorem homes_set {l : List Int} {n : Int} {i : Nat} (h : i < l.length) : ((l.take i).map (fun v => hmR v n) ++ List.replicate (l.length - i) 0).set i (hmR (l.getD i 0) n) = (l.take (i + 1)).map (fun v => hmR v n) ++ List.replicate (l.length - (i + 1)) 0 := by
  rw [take_succ_getD h, List.map_append, List.set_append_right _ _ (by simp; omega)]
  have e1 : i - ((l.take i).map fun v => hmR v n).length = 0 := by simp; omega
  rw [e1, show l.length - i = (l.length - (i + 1)) + 1 by omega, List.replicate_succ, List.set_cons_zero]
  have : (l.getD i default) = l.getD i 0 := rfl
  rw [this]; simp
def spS (l : List Int) (n : Int) (i : Nat) : St := ⟨[(0, .sl 1 (ints l)), (1, .int .i64 n), (6, .own 1 0), (19, .sl 1 (ints l)), (20, .int .i64 (l.length : Int)), (21, .int .i64 (i : Int))], [.row false (ints ((l.take i).map (fun v => hmR v n) ++ List.replicate (l.length - i) 0))], 0, [(0, 1, [0, 1, 6, 19, 20, 21], [(6, 0)])]⟩
theorem split_run {l : List Int} {n : Int} (hl : l.length ≤ 1000000) : runP tab 1239 [.sl 1 (ints l), .int .i64 n] [] = some (splA l n, []) := by
  refine runP_fn t1239 rfl ?_
  have gm := may_run (w := n)
  by_cases hn : 1 ≤ n ∧ n ≤ 16
  · rw [decide_eq_true hn] at gm
    have hlen : ∀ i, ((l.take i).map (fun v => hmR v n) ++ List.replicate (l.length - i) 0).length = l.length := fun i => by simp; omega
    have hstep : ∀ i, i < l.length → hmOk (l.getD i 0) n = true → Ev tab d1239_b0 (spS l n i) (fun x st => x = .normal ∧ st = spS l n (i + 1)) := by
      intro i hi ho
      have gh := home_run (v := l.getD i 0) (w := n)
      have hl2 := hlen i
      have hs := homes_set (n := n) hi
      rw [ho] at gh
      simp only [spS]
      rw [← hs]
      generalize (l.take i).map (fun v => hmR v n) ++ List.replicate (l.length - i) 0 = X at *
      simp (config := { maxSteps := 1000000 }) (disch := omega) only [go_sem, ↓reduceIte, Nat.reduceEqDiff, Nat.reduceAdd, Int.reduceToNat, reduceCtorEq, Nat.reduceLeDiff, Nat.reduceSub, Nat.reduceDiv, Nat.reduceMod, Nat.reduceMul, d1239_b0, gh, hl2]
    rcases all_first (fun v => hmOk v n) l with ⟨h1, h2⟩ | ⟨h1, k, h2, h3, h4⟩
    · have ha : splA l n = .tup [.vec 1 (owV (prts l n n.toNat)), .int .i64 0] := by rw [splA, if_pos (by simp [splOk, h1, hn])]
      rw [ha]
      simp (config := { maxSteps := 1000000 }) (disch := omega) only [go_sem, ↓reduceIte, Nat.reduceEqDiff, Nat.reduceAdd, Int.reduceToNat, reduceCtorEq, Nat.reduceLeDiff, Nat.reduceSub, Nat.reduceDiv, Nat.reduceMod, Nat.reduceMul, d1239, gm, tile_int0]
      refine Ev_loop0 (spS l n) l.length (by simp [spS]) (fun i hi => hstep i hi (h2 i hi)) ?_
      have e0 : (l.take l.length).map (fun v => hmR v n) ++ List.replicate (l.length - l.length) 0 = l.map fun v => hmR v n := by simp
      simp only [spS, e0]
      obtain ⟨k, rfl⟩ := Int.eq_ofNat_of_zero_le (show 0 ≤ n by omega)
      rw [Int.toNat_natCast]
      simp (config := { maxSteps := 1000000 }) (disch := omega) only [go_sem, ↓reduceIte, Nat.reduceEqDiff, Nat.reduceAdd, Int.reduceToNat, reduceCtorEq, Nat.reduceLeDiff, Nat.reduceSub, Nat.reduceDiv, Nat.reduceMod, Nat.reduceMul, d1239_b0]
      refine Ev_loop0 (fun i => ⟨[(0, .sl 1 (ints l)), (6, .own 1 0), (11, .own 1 1), (39, .int .i64 (k : Int)), (40, .int .i64 (i : Int))], [.row false (ints (l.map fun v => hmR v (k : Int))), .row false (owV (prts l k i))], 0, [(1, 2, [0, 6, 11, 39, 40], [(6, 0), (11, 1)]), (0, 1, [0, 1, 6, 19, 20, 21], [(6, 0)])]⟩) k rfl (fun i hi => ?_) ?_
      · have g := ownp_run (n := k) (w := i) hl
        simp (config := { maxSteps := 1000000 }) (disch := omega) only [go_sem, ↓reduceIte, Nat.reduceEqDiff, Nat.reduceAdd, Int.reduceToNat, reduceCtorEq, Nat.reduceLeDiff, Nat.reduceSub, Nat.reduceDiv, Nat.reduceMod, Nat.reduceMul, d1239_b1, g, prts_len, prts_succ]
      · simp (config := { maxSteps := 1000000 }) (disch := omega) only [go_sem, ↓reduceIte, Nat.reduceEqDiff, Nat.reduceAdd, Int.reduceToNat, reduceCtorEq, Nat.reduceLeDiff, Nat.reduceSub, Nat.reduceDiv, Nat.reduceMod, Nat.reduceMul, d1239_b1]
    · have ha : splA l n = .tup [.vec 1 [], .int .i64 1] := by rw [splA, if_neg (by simp [splOk, h1])]
      rw [ha]
      simp (config := { maxSteps := 1000000 }) (disch := omega) only [go_sem, ↓reduceIte, Nat.reduceEqDiff, Nat.reduceAdd, Int.reduceToNat, reduceCtorEq, Nat.reduceLeDiff, Nat.reduceSub, Nat.reduceDiv, Nat.reduceMod, Nat.reduceMul, d1239, gm, tile_int0]
      refine Ev_loop0 (spS l n) k (by simp [spS]) (fun i hi => hstep i (by omega) (h3 i hi)) ?_
      have gh := home_run (v := l.getD k 0) (w := n)
      rw [h4] at gh
      have hl2 := hlen k
      simp only [spS]
      generalize (l.take k).map (fun v => hmR v n) ++ List.replicate (l.length - k) 0 = X at *
      simp (config := { maxSteps := 1000000 }) (disch := omega) only [go_sem, ↓reduceIte, Nat.reduceEqDiff, Nat.reduceAdd, Int.reduceToNat, reduceCtorEq, Nat.reduceLeDiff, Nat.reduceSub, Nat.reduceDiv, Nat.reduceMod, Nat.reduceMul, d1239_b0, gh]
  · have ha : splA l n = .tup [.vec 1 [], .int .i64 1] := by rw [splA, if_neg (by simp [splOk]; intro h; omega)]
    rw [decide_eq_false hn] at gm
    rw [ha]
    simp (config := { maxSteps := 1000000 }) (disch := omega) only [go_sem, ↓reduceIte, Nat.reduceEqDiff, Nat.reduceAdd, Int.reduceToNat, reduceCtorEq, Nat.reduceLeDiff, Nat.reduceSub, Nat.reduceDiv, Nat.reduceMod, Nat.reduceMul, d1239, gm]
def uptoI (k : Nat) : List Int := (List.range k).map fun i : Nat => (i : Int)
theorem uptoI_succ (k : Nat) : uptoI (k + 1) = uptoI k ++ [(k : Int)] := by simp [uptoI, List.range_succ]
theorem uptoI_len (k : Nat) : (uptoI k).length = k := by simp [uptoI]
def partsA (n w : Int) : AV := if n < 0 ∨ 200 < n then .tup [.vec 1 [], .int .i64 1] else splA (uptoI n.toNat) w
theorem parts_run {n w : Int} : runP tab 1241 [.int .i64 n, .int .i64 w] [] = some (partsA n w, []) := by
  refine runP_fn t1241 rfl ?_
  unfold partsA
  by_cases h1 : n < 0
  · rw [if_pos (Or.inl h1)]
    simp (config := { maxSteps := 1000000 }) (disch := omega) only [go_sem, ↓reduceIte, Nat.reduceEqDiff, Nat.reduceAdd, Int.reduceToNat, reduceCtorEq, Nat.reduceLeDiff, Nat.reduceSub, Nat.reduceDiv, Nat.reduceMod, Nat.reduceMul, d1241]
  by_cases h2 : 200 < n
  · rw [if_pos (Or.inr h2)]
    simp (config := { maxSteps := 1000000 }) (disch := omega) only [go_sem, ↓reduceIte, Nat.reduceEqDiff, Nat.reduceAdd, Int.reduceToNat, reduceCtorEq, Nat.reduceLeDiff, Nat.reduceSub, Nat.reduceDiv, Nat.reduceMod, Nat.reduceMul, d1241]
  obtain ⟨k, rfl⟩ := Int.eq_ofNat_of_zero_le (show 0 ≤ n by omega)
  rw [if_neg (by omega), Int.toNat_natCast]
  have g := split_run (l := uptoI k) (n := w) (by rw [uptoI_len]; omega)
  simp (config := { maxSteps := 1000000 }) (disch := omega) only [go_sem, ↓reduceIte, Nat.reduceEqDiff, Nat.reduceAdd, Int.reduceToNat, reduceCtorEq, Nat.reduceLeDiff, Nat.reduceSub, Nat.reduceDiv, Nat.reduceMod, Nat.reduceMul, d1241]
  refine Ev_loop0 (fun i => ⟨[(1, .int .i64 w), (6, .own 1 0), (14, .int .i64 (k : Int)), (15, .int .i64 (i : Int))], [.row false (ints (uptoI i))], 0, [(0, 1, [1, 6, 14, 15], [(6, 0)])]⟩) k rfl (fun i hi => ?_) ?_
  · simp (config := { maxSteps := 1000000 }) (disch := omega) only [go_sem, ↓reduceIte, Nat.reduceEqDiff, Nat.reduceAdd, Int.reduceToNat, reduceCtorEq, Nat.reduceLeDiff, Nat.reduceSub, Nat.reduceDiv, Nat.reduceMod, Nat.reduceMul, d1241_b0, uptoI_len, uptoI_succ, ints_snoc]
  · unfold splA at g ⊢
    split at g <;> rename_i hs
    · rw [if_pos hs]
      simp (config := { maxSteps := 1000000 }) (disch := omega) only [go_sem, ↓reduceIte, Nat.reduceEqDiff, Nat.reduceAdd, Int.reduceToNat, reduceCtorEq, Nat.reduceLeDiff, Nat.reduceSub, Nat.reduceDiv, Nat.reduceMod, Nat.reduceMul, d1241_b0, g]
    · rw [if_neg hs]
      simp (config := { maxSteps := 1000000 }) (disch := omega) only [go_sem, ↓reduceIte, Nat.reduceEqDiff, Nat.reduceAdd, Int.reduceToNat, reduceCtorEq, Nat.reduceLeDiff, Nat.reduceSub, Nat.reduceDiv, Nat.reduceMod, Nat.reduceMul, d1241_b0, g]
def rsS (l : List Int) (n : Int) (i : Nat) : St := ⟨[(0, .sl 1 (ints l)), (1, .int .i64 n), (6, .int .i64 (i : Int))], [], 0, [(0, 0, [0, 1, 6], [])]⟩
def rtS (l : List Int) (n w : Nat) : St := ⟨[(0, .sl 1 (ints l)), (1, .int .i64 (n : Int)), (9, .own 1 0), (10, .int .i64 (w : Int))], [.row false (owV (prts l n w))], 0, [(1, 1, [0, 1, 9, 10], [(9, 0)]), (0, 0, [0, 1, 6], [])]⟩
def ruS (l : List Int) (n w i : Nat) : St := ⟨[(0, .sl 1 (ints l)), (1, .int .i64 (n : Int)), (9, .own 1 0), (10, .int .i64 (w : Int)), (11, .own 1 1), (12, .int .i64 (i : Int))], [.row false (owV (prts l n w)), .row false (ints (prt (l.take i) n w))], 0, [(2, 2, [0, 1, 9, 10, 11, 12], [(9, 0), (11, 1)]), (1, 1, [0, 1, 9, 10], [(9, 0)]), (0, 0, [0, 1, 6], [])]⟩
theorem rsplit_run {l : List Int} {n : Int} (hl : l.length ≤ 1000000) : runP tab 1240 [.sl 1 (ints l), .int .i64 n] [] = some (splA l n, []) := by
  refine runP_fn t1240 rfl ?_
  by_cases hn : 1 ≤ n ∧ n ≤ 16
  · have hstep : ∀ i, i < l.length → hmOk (l.getD i 0) n = true → Ev tab d1240_b0 (rsS l n i) (fun x st => x = .normal ∧ st = rsS l n (i + 1)) := by
      intro i hi ho
      have gh := rhome_run (v := l.getD i 0) (w := n)
      rw [ho] at gh
      simp only [rsS]
      simp (config := { maxSteps := 1000000 }) (disch := omega) only [go_sem, ↓reduceIte, Nat.reduceEqDiff, Nat.reduceAdd, Int.reduceToNat, reduceCtorEq, Nat.reduceLeDiff, Nat.reduceSub, Nat.reduceDiv, Nat.reduceMod, Nat.reduceMul, d1240_b0, gh]
    rcases all_first (fun v => hmOk v n) l with ⟨h1, h2⟩ | ⟨h1, k, h2, h3, h4⟩
    · have ha : splA l n = .tup [.vec 1 (owV (prts l n n.toNat)), .int .i64 0] := by rw [splA, if_pos (by simp [splOk, h1, hn])]
      rw [ha]
      simp (config := { maxSteps := 1000000 }) (disch := omega) only [go_sem, ↓reduceIte, Nat.reduceEqDiff, Nat.reduceAdd, Int.reduceToNat, reduceCtorEq, Nat.reduceLeDiff, Nat.reduceSub, Nat.reduceDiv, Nat.reduceMod, Nat.reduceMul, d1240]
      refine Ev_loop0 (rsS l n) l.length rfl (fun i hi => hstep i hi (h2 i hi)) ?_
      obtain ⟨k, rfl⟩ := Int.eq_ofNat_of_zero_le (show 0 ≤ n by omega)
      rw [Int.toNat_natCast]
      simp only [rsS]
      simp (config := { maxSteps := 1000000 }) (disch := omega) only [go_sem, ↓reduceIte, Nat.reduceEqDiff, Nat.reduceAdd, Int.reduceToNat, reduceCtorEq, Nat.reduceLeDiff, Nat.reduceSub, Nat.reduceDiv, Nat.reduceMod, Nat.reduceMul, d1240_b0]
      refine Ev_loop0 (rtS l k) k rfl (fun w hw => ?_) ?_
      · simp only [rtS]
        simp (config := { maxSteps := 1000000 }) (disch := omega) only [go_sem, ↓reduceIte, Nat.reduceEqDiff, Nat.reduceAdd, Int.reduceToNat, reduceCtorEq, Nat.reduceLeDiff, Nat.reduceSub, Nat.reduceDiv, Nat.reduceMod, Nat.reduceMul, d1240_b1]
        refine Ev_loop0 (ruS l k w) l.length (by simp [ruS, prt, ints_nil]) (fun i hi => ?_) ?_
        · have gh := rhome_run (v := l.getD i 0) (w := k)
          rw [h2 i hi] at gh
          have hb := prt_len l k w i
          simp only [ruS]
          by_cases e : hmR (l.getD i 0) k = w
          · have h1 := prt_yes hi e
            simp (config := { maxSteps := 1000000 }) (disch := omega) only [go_sem, ↓reduceIte, Nat.reduceEqDiff, Nat.reduceAdd, Int.reduceToNat, reduceCtorEq, Nat.reduceLeDiff, Nat.reduceSub, Nat.reduceDiv, Nat.reduceMod, Nat.reduceMul, d1240_b2, gh, e, h1, ints_snoc]
          · have h1 := prt_no hi e
            simp (config := { maxSteps := 1000000 }) (disch := omega) only [go_sem, ↓reduceIte, Nat.reduceEqDiff, Nat.reduceAdd, Int.reduceToNat, reduceCtorEq, Nat.reduceLeDiff, Nat.reduceSub, Nat.reduceDiv, Nat.reduceMod, Nat.reduceMul, d1240_b2, gh, e, h1]
        · simp only [ruS]
          simp (config := { maxSteps := 1000000 }) (disch := omega) only [go_sem, ↓reduceIte, Nat.reduceEqDiff, Nat.reduceAdd, Int.reduceToNat, reduceCtorEq, Nat.reduceLeDiff, Nat.reduceSub, Nat.reduceDiv, Nat.reduceMod, Nat.reduceMul, d1240_b2, List.take_length, prts_len, prts_succ]
      · simp only [rtS]
        simp (config := { maxSteps := 1000000 }) (disch := omega) only [go_sem, ↓reduceIte, Nat.reduceEqDiff, Nat.reduceAdd, Int.reduceToNat, reduceCtorEq, Nat.reduceLeDiff, Nat.reduceSub, Nat.reduceDiv, Nat.reduceMod, Nat.reduceMul, d1240_b1]
    · have ha : splA l n = .tup [.vec 1 [], .int .i64 1] := by rw [splA, if_neg (by simp [splOk, h1])]
      rw [ha]
      simp (config := { maxSteps := 1000000 }) (disch := omega) only [go_sem, ↓reduceIte, Nat.reduceEqDiff, Nat.reduceAdd, Int.reduceToNat, reduceCtorEq, Nat.reduceLeDiff, Nat.reduceSub, Nat.reduceDiv, Nat.reduceMod, Nat.reduceMul, d1240]
      refine Ev_loop0 (rsS l n) k rfl (fun i hi => hstep i (by omega) (h3 i hi)) ?_
      have gh := rhome_run (v := l.getD k 0) (w := n)
      rw [h4] at gh
      simp only [rsS]
      simp (config := { maxSteps := 1000000 }) (disch := omega) only [go_sem, ↓reduceIte, Nat.reduceEqDiff, Nat.reduceAdd, Int.reduceToNat, reduceCtorEq, Nat.reduceLeDiff, Nat.reduceSub, Nat.reduceDiv, Nat.reduceMod, Nat.reduceMul, d1240_b0, gh]
  · have ha : splA l n = .tup [.vec 1 [], .int .i64 1] := by rw [splA, if_neg (by simp [splOk]; intro h; omega)]
    rw [ha]
    by_cases h1 : n < 1
    · simp (config := { maxSteps := 1000000 }) (disch := omega) only [go_sem, ↓reduceIte, Nat.reduceEqDiff, Nat.reduceAdd, Int.reduceToNat, reduceCtorEq, Nat.reduceLeDiff, Nat.reduceSub, Nat.reduceDiv, Nat.reduceMod, Nat.reduceMul, d1240]
    · simp (config := { maxSteps := 1000000 }) (disch := omega) only [go_sem, ↓reduceIte, Nat.reduceEqDiff, Nat.reduceAdd, Int.reduceToNat, reduceCtorEq, Nat.reduceLeDiff, Nat.reduceSub, Nat.reduceDiv, Nat.reduceMod, Nat.reduceMul, d1240]
theorem rparts_run {n w : Int} : runP tab 1242 [.int .i64 n, .int .i64 w] [] = some (partsA n w, []) := by
  refine runP_fn t1242 rfl ?_
  unfold partsA
  by_cases h1 : n < 0
  · rw [if_pos (Or.inl h1)]
    simp (config := { maxSteps := 1000000 }) (disch := omega) only [go_sem, ↓reduceIte, Nat.reduceEqDiff, Nat.reduceAdd, Int.reduceToNat, reduceCtorEq, Nat.reduceLeDiff, Nat.reduceSub, Nat.reduceDiv, Nat.reduceMod, Nat.reduceMul, d1242]
  by_cases h2 : 200 < n
  · rw [if_pos (Or.inr h2)]
    simp (config := { maxSteps := 1000000 }) (disch := omega) only [go_sem, ↓reduceIte, Nat.reduceEqDiff, Nat.reduceAdd, Int.reduceToNat, reduceCtorEq, Nat.reduceLeDiff, Nat.reduceSub, Nat.reduceDiv, Nat.reduceMod, Nat.reduceMul, d1242]
  obtain ⟨k, rfl⟩ := Int.eq_ofNat_of_zero_le (show 0 ≤ n by omega)
  rw [if_neg (by omega), Int.toNat_natCast]
  have g := rsplit_run (l := uptoI k) (n := w) (by rw [uptoI_len]; omega)
  simp (config := { maxSteps := 1000000 }) (disch := omega) only [go_sem, ↓reduceIte, Nat.reduceEqDiff, Nat.reduceAdd, Int.reduceToNat, reduceCtorEq, Nat.reduceLeDiff, Nat.reduceSub, Nat.reduceDiv, Nat.reduceMod, Nat.reduceMul, d1242]
  refine Ev_loop0 (fun i => ⟨[(0, .int .i64 (k : Int)), (1, .int .i64 w), (6, .own 1 0), (7, .int .i64 (i : Int))], [.row false (ints (uptoI i))], 0, [(0, 1, [0, 1, 6, 7], [(6, 0)])]⟩) k rfl (fun i hi => ?_) ?_
  · simp (config := { maxSteps := 1000000 }) (disch := omega) only [go_sem, ↓reduceIte, Nat.reduceEqDiff, Nat.reduceAdd, Int.reduceToNat, reduceCtorEq, Nat.reduceLeDiff, Nat.reduceSub, Nat.reduceDiv, Nat.reduceMod, Nat.reduceMul, d1242_b0, uptoI_len, uptoI_succ, ints_snoc]
  · unfold splA at g ⊢
    split at g <;> rename_i hs
    · rw [if_pos hs]
      simp (config := { maxSteps := 1000000 }) (disch := omega) only [go_sem, ↓reduceIte, Nat.reduceEqDiff, Nat.reduceAdd, Int.reduceToNat, reduceCtorEq, Nat.reduceLeDiff, Nat.reduceSub, Nat.reduceDiv, Nat.reduceMod, Nat.reduceMul, d1242_b0, g]
    · rw [if_neg hs]
      simp (config := { maxSteps := 1000000 }) (disch := omega) only [go_sem, ↓reduceIte, Nat.reduceEqDiff, Nat.reduceAdd, Int.reduceToNat, reduceCtorEq, Nat.reduceLeDiff, Nat.reduceSub, Nat.reduceDiv, Nat.reduceMod, Nat.reduceMul, d1242_b0, g]
def spR (l : List Int) (n : Int) : List (List Int) := if splOk l n then prts l n n.toNat else []
def spE (l : List Int) (n : Int) : Int := if splOk l n then 0 else 1
theorem splA_eq (l : List Int) (n : Int) : splA l n = .tup [.vec 1 (owV (spR l n)), .int .i64 (spE l n)] := by unfold splA spR spE; split <;> rfl
def ptR (n w : Int) : List (List Int) := if n < 0 ∨ 200 < n then [] else spR (uptoI n.toNat) w
def ptE (n w : Int) : Int := if n < 0 ∨ 200 < n then 1 else spE (uptoI n.toNat) w
theorem partsA_eq (n w : Int) : partsA n w = .tup [.vec 1 (owV (ptR n w)), .int .i64 (ptE n w)] := by
  unfold partsA ptR ptE
  split
  · rfl
  · exact splA_eq _ _
theorem splOk_n {l : List Int} {n : Int} (h : splOk l n = true) : 1 ≤ n ∧ n ≤ 16 ∧ ∀ v ∈ l, hmOk v n = true := by
  simp only [splOk, Bool.and_eq_true, decide_eq_true_eq, List.all_eq_true] at h
  exact ⟨h.1.1, h.1.2, h.2⟩
theorem spR_len (l : List Int) (n : Int) : (spR l n).length ≤ 16 := by
  unfold spR
  split
  · rename_i h; have := splOk_n h; rw [prts_len]; omega
  · simp
theorem spR_row (l : List Int) (n : Int) (i : Nat) : ((spR l n).getD i []).length ≤ l.length := by
  unfold spR
  split
  · by_cases hi : i < n.toNat
    · rw [prts, List.getD_eq_getElem?_getD, List.getElem?_map, List.getElem?_range hi]
      exact List.length_filter_le _ _
    · rw [List.getD_eq_getElem?_getD, List.getElem?_eq_none (by rw [prts_len]; omega)]; simp
  · simp
theorem ptR_len (n w : Int) : (ptR n w).length ≤ 16 := by unfold ptR; split <;> first | simp | exact spR_len _ _
theorem ptR_row (n w : Int) (i : Nat) : ((ptR n w).getD i []).length ≤ 200 := by
  unfold ptR
  split
  · simp
  · have := spR_row (uptoI n.toNat) w i
    rw [uptoI_len] at this; omega
theorem split_run' {l : List Int} {n : Int} (hl : l.length ≤ 1000000) : runP tab 1239 [.sl 1 (ints l), .int .i64 n] [] = some (.tup [.vec 1 (owV (spR l n)), .int .i64 (spE l n)], []) := by rw [split_run hl, splA_eq]
theorem rsplit_run' {l : List Int} {n : Int} (hl : l.length ≤ 1000000) : runP tab 1240 [.sl 1 (ints l), .int .i64 n] [] = some (.tup [.vec 1 (owV (spR l n)), .int .i64 (spE l n)], []) := by rw [rsplit_run hl, splA_eq]
theorem parts_run' {n w : Int} : runP tab 1241 [.int .i64 n, .int .i64 w] [] = some (.tup [.vec 1 (owV (ptR n w)), .int .i64 (ptE n w)], []) := by rw [parts_run, partsA_eq]
theorem rparts_run' {n w : Int} : runP tab 1242 [.int .i64 n, .int .i64 w] [] = some (.tup [.vec 1 (owV (ptR n w)), .int .i64 (ptE n w)], []) := by rw [rparts_run, partsA_eq]
end Go.Proofs.Ytofomaiaobfkhaa
