/- Replies are put: the program, the document. -/
import Derived.Test.YtcfhocnbpplecaaXf
namespace Go.Proofs.Ytcfhocnbpplecaa
set_option linter.unusedSimpArgs false
set_option linter.unusedVariables false
set_option maxHeartbeats 4000000
set_option maxRecDepth 100000
theorem encI_snoc (l : List Int) (x : Int) : encI (l ++ [x]) = encI l ++ encN x.toNat := by simp [encI]
theorem encI_len {l : List Int} (h : ∀ x ∈ l, 0 ≤ x ∧ x ≤ 2147483647) : (encI l).length ≤ 5 * l.length := encL_len h
theorem laysI {l : List Int} (hl : l.length ≤ 1000000) (h : ∀ x ∈ l, 0 ≤ x ∧ x ≤ 2147483647) : runP tab 1421 [.sl 1 (ints l)] [] = some (.str (encI l), []) := lays_run hl h
theorem rnums_run {l : List Int} (hl : l.length ≤ 1000000) (h : ∀ x ∈ l, 0 ≤ x ∧ x ≤ 2147483647) : runP tab 1457 [.sl 1 (ints l)] [] = some (.str (encI l), []) := by
  refine runP_fn t1457 rfl ?_
  have L := ints_length l
  simp (config := { maxSteps := 1000000 }) (disch := omega) only [go_sem, ↓reduceIte, Nat.reduceEqDiff, Nat.reduceAdd, Int.reduceToNat, reduceCtorEq, Nat.reduceLeDiff, Nat.reduceSub, Nat.reduceDiv, Nat.reduceMod, Nat.reduceMul, d1457, L]
  refine Ev_loop0 (fun i => ⟨[(0, .sl 1 (ints l)), (3, .str (encI (l.take i))), (4, .int .i64 (i : Int))], [], 0, [(0, 0, [0, 3, 4], [])]⟩) l.length rfl (fun i hi => ?_) ?_
  · have e1 := ints_rdc0 hi
    obtain ⟨h0, h1⟩ := h (l.getD i 0) (by rw [List.getD_eq_getElem?_getD, List.getElem?_eq_getElem hi]; exact List.getElem_mem hi)
    have gn := rnumber_run h0 h1
    have k1 := encI_len (l := l.take i) (fun x hx => h x (List.mem_of_mem_take hx))
    rw [List.length_take] at k1
    have k2 := encN_len (n := (l.getD i 0).toNat) (by omega)
    rw [take_snoc 0 hi, encI_snoc]
    simp (config := { maxSteps := 1000000 }) (disch := omega) only [go_sem, ↓reduceIte, Nat.reduceEqDiff, Nat.reduceAdd, Int.reduceToNat, reduceCtorEq, Nat.reduceLeDiff, Nat.reduceSub, Nat.reduceDiv, Nat.reduceMod, Nat.reduceMul, d1457_b0, L, e1, gn]
  · rw [List.take_length]
    simp (config := { maxSteps := 1000000 }) (disch := omega) only [go_sem, ↓reduceIte, Nat.reduceEqDiff, Nat.reduceAdd, Int.reduceToNat, reduceCtorEq, Nat.reduceLeDiff, Nat.reduceSub, Nat.reduceDiv, Nat.reduceMod, Nat.reduceMul, d1457_b0, L]
theorem encH_snoc (l : List Hit) (x : Hit) : encH (l ++ [x]) = encH l ++ encI [x.v, x.d] := by simp [encH]
theorem encH_len {l : List Hit} (h : ∀ x ∈ l, okH x) : (encH l).length ≤ 10 * l.length := by
  induction l with
  | nil => simp [encH]
  | cons x l ih =>
    obtain ⟨h1, h2, h3, h4⟩ := h x (by simp)
    have h5 := encI_len (l := [x.v, x.d]) (by intro y hy; simp only [List.mem_cons, List.not_mem_nil, or_false] at hy; rcases hy with rfl | rfl <;> omega)
    have h2 := ih (fun y hy => h y (by simp [hy]))
    simp only [encH, List.flatMap_cons, List.length_append, List.length_cons, List.length_nil] at h2 h5 ⊢
    omega
theorem two_lay {a b : Int} (ha : 0 ≤ a ∧ a ≤ 2147483647) (hb : 0 ≤ b ∧ b ≤ 2147483647) : runP tab 1421 [.sl 1 [.int .i64 a, .int .i64 b]] [] = some (.str (encI [a, b]), []) ∧ runP tab 1457 [.sl 1 [.int .i64 a, .int .i64 b]] [] = some (.str (encI [a, b]), []) ∧ (encI [a, b]).length ≤ 10 := by
  have h : ∀ x ∈ [a, b], 0 ≤ x ∧ x ≤ 2147483647 := by intro y hy; simp only [List.mem_cons, List.not_mem_nil, or_false] at hy; rcases hy with rfl | rfl <;> omega
  exact ⟨laysI (l := [a, b]) (by simp) h, rnums_run (l := [a, b]) (by simp) h, encI_len h⟩
theorem three_lay {a b c : Int} (ha : 0 ≤ a ∧ a ≤ 2147483647) (hb : 0 ≤ b ∧ b ≤ 2147483647) (hc : 0 ≤ c ∧ c ≤ 2147483647) : runP tab 1421 [.sl 1 [.int .i64 a, .int .i64 b, .int .i64 c]] [] = some (.str (encI [a, b, c]), []) ∧ runP tab 1457 [.sl 1 [.int .i64 a, .int .i64 b, .int .i64 c]] [] = some (.str (encI [a, b, c]), []) ∧ (encI [a, b, c]).length ≤ 15 := by
  have h : ∀ x ∈ [a, b, c], 0 ≤ x ∧ x ≤ 2147483647 := by intro y hy; simp only [List.mem_cons, List.not_mem_nil, or_false] at hy; rcases hy with rfl | rfl | rfl <;> omega
  exact ⟨laysI (l := [a, b, c]) (by simp) h, rnums_run (l := [a, b, c]) (by simp) h, encI_len h⟩
def putRA (r : Rep) : List AV := if okR r = true then [.str (encR r), .int .i64 0] else [.str [], .int .i64 1]
def prS (l : List Hit) (p : Txt) (a c d : Int) (f : Bool) (i : Nat) : St := ⟨[(4, .str (p ++ encH (l.take i))), (38, .sl 2 (hts l)), (39, .int .i64 l.length), (40, .int .i64 (i : Int))], [.row false [.int .i64 a, .int .i64 c, .bool f, .int .i64 d, .sl 2 (hts l)]], 0, [(0, 1, [4, 38, 39, 40], [])]⟩
theorem pr_step {l : List Hit} {p : Txt} {a c d : Int} {f : Bool} (hp : p.length ≤ 100) (hl : l.length ≤ 100) (hh : ∀ x ∈ l, okH x) {i : Nat} (hi : i < l.length) : Ev tab d1410_b0 (prS l p a c d f i) (fun x st => x = .normal ∧ st = prS l p a c d f (i + 1)) := by
  have e := hts_get hi
  have hm : l.getD i default ∈ l := by rw [List.getD_eq_getElem?_getD, List.getElem?_eq_getElem hi]; exact List.getElem_mem hi
  obtain ⟨h1, h2, h3, h4⟩ := hh _ hm
  have k1 := encH_len (l := l.take i) (fun x hx => hh x (List.mem_of_mem_take hx))
  rw [List.length_take] at k1
  unfold prS
  rw [take_snoc default hi, encH_snoc]
  generalize l.getD i default = x at *
  obtain ⟨g, _, g3⟩ := two_lay (a := x.v) (b := x.d) (by omega) (by omega)
  simp (config := { maxSteps := 1000000 }) (disch := omega) only [go_sem, ↓reduceIte, Nat.reduceEqDiff, Nat.reduceAdd, Int.reduceToNat, reduceCtorEq, Nat.reduceLeDiff, Nat.reduceSub, Nat.reduceDiv, Nat.reduceMod, Nat.reduceMul, d1410_b0, e, g, List.append_assoc]
theorem putR_run {r : Rep} (hl : r.hits.length ≤ 1000000) : runP tab 1410 [.agg (repS r)] [] = some (.tup (putRA r), []) := by
  refine runP_fn t1410 rfl ?_
  have gm := rmay_run hl
  unfold putRA
  cases ho : okR r with
  | false =>
    rw [ho] at gm
    simp only [repS] at gm ⊢
    simp (config := { maxSteps := 1000000 }) (disch := omega) only [go_sem, ↓reduceIte, Nat.reduceEqDiff, Nat.reduceAdd, Int.reduceToNat, reduceCtorEq, Nat.reduceLeDiff, Nat.reduceSub, Nat.reduceDiv, Nat.reduceMod, Nat.reduceMul, d1410, gm, reduceCtorEq, if_false, if_true]
  | true =>
    rw [ho] at gm
    rw [if_pos rfl]
    obtain ⟨c0, c1, c2, c3, c4, c5, c6, c7⟩ := of_decide_eq_true ho
    obtain ⟨id, code, found, d, hits⟩ := r
    simp only at hl c0 c1 c2 c3 c4 c5 c6 c7
    simp only [repS] at gm ⊢
    obtain ⟨g1, _, k1⟩ := two_lay (a := id) (b := code) c0 (by omega)
    by_cases hc : code = 0
    · obtain ⟨g2, _, k2⟩ := three_lay (a := (fN found : Nat)) (b := d) (c := hits.length) (by unfold fN; split <;> omega) (by omega) (by omega)
      simp only [encR]
      rw [if_pos hc, ← List.append_assoc]
      cases found
      · rw [show ((fN false : Nat) : Int) = 0 from rfl] at g2 k2 ⊢
        simp (config := { maxSteps := 1000000 }) (disch := omega) only [go_sem, ↓reduceIte, Nat.reduceEqDiff, Nat.reduceAdd, Int.reduceToNat, reduceCtorEq, Nat.reduceLeDiff, Nat.reduceSub, Nat.reduceDiv, Nat.reduceMod, Nat.reduceMul, d1410, gm, g1, g2]
        refine Ev_loop0 (prS hits (encI [id, code] ++ encI [0, d, hits.length]) id code d false) hits.length (by simp [prS, encH]) (fun i hi => pr_step (by rw [List.length_append]; omega) c3 c7 hi) ?_
        unfold prS
        rw [List.take_length]
        simp (config := { maxSteps := 1000000 }) (disch := omega) only [go_sem, ↓reduceIte, Nat.reduceEqDiff, Nat.reduceAdd, Int.reduceToNat, reduceCtorEq, Nat.reduceLeDiff, Nat.reduceSub, Nat.reduceDiv, Nat.reduceMod, Nat.reduceMul, d1410_b0]
      · rw [show ((fN true : Nat) : Int) = 1 from rfl] at g2 k2 ⊢
        simp (config := { maxSteps := 1000000 }) (disch := omega) only [go_sem, ↓reduceIte, Nat.reduceEqDiff, Nat.reduceAdd, Int.reduceToNat, reduceCtorEq, Nat.reduceLeDiff, Nat.reduceSub, Nat.reduceDiv, Nat.reduceMod, Nat.reduceMul, d1410, gm, g1, g2]
        refine Ev_loop0 (prS hits (encI [id, code] ++ encI [1, d, hits.length]) id code d true) hits.length (by simp [prS, encH]) (fun i hi => pr_step (by rw [List.length_append]; omega) c3 c7 hi) ?_
        unfold prS
        rw [List.take_length]
        simp (config := { maxSteps := 1000000 }) (disch := omega) only [go_sem, ↓reduceIte, Nat.reduceEqDiff, Nat.reduceAdd, Int.reduceToNat, reduceCtorEq, Nat.reduceLeDiff, Nat.reduceSub, Nat.reduceDiv, Nat.reduceMod, Nat.reduceMul, d1410_b0]
    · simp only [encR]
      rw [if_neg hc, List.append_nil]
      simp (config := { maxSteps := 1000000 }) (disch := omega) only [go_sem, ↓reduceIte, Nat.reduceEqDiff, Nat.reduceAdd, Int.reduceToNat, reduceCtorEq, Nat.reduceLeDiff, Nat.reduceSub, Nat.reduceDiv, Nat.reduceMod, Nat.reduceMul, d1410, gm, g1]
def rpS (l : List Hit) (p : Txt) (a c d : Int) (f : Bool) (i : Nat) : St := ⟨[(1, .ref 0 0), (4, .str (p ++ encH (l.take i))), (6, .int .i64 (i : Int))], [.row false [.int .i64 a, .int .i64 c, .bool f, .int .i64 d, .sl 2 (hts l)]], 0, [(0, 1, [1, 4, 6], [(1, 0)])]⟩
theorem rp_step {l : List Hit} {p : Txt} {a c d : Int} {f : Bool} (hp : p.length ≤ 100) (hl : l.length ≤ 100) (hh : ∀ x ∈ l, okH x) {i : Nat} (hi : i < l.length) : Ev tab d1438_b0 (rpS l p a c d f i) (fun x st => x = .normal ∧ st = rpS l p a c d f (i + 1)) := by
  have e := hts_get hi
  have hm : l.getD i default ∈ l := by rw [List.getD_eq_getElem?_getD, List.getElem?_eq_getElem hi]; exact List.getElem_mem hi
  obtain ⟨h1, h2, h3, h4⟩ := hh _ hm
  have k1 := encH_len (l := l.take i) (fun x hx => hh x (List.mem_of_mem_take hx))
  rw [List.length_take] at k1
  unfold rpS
  rw [take_snoc default hi, encH_snoc]
  generalize l.getD i default = x at *
  obtain ⟨_, g, g3⟩ := two_lay (a := x.v) (b := x.d) (by omega) (by omega)
  simp (config := { maxSteps := 1000000 }) (disch := omega) only [go_sem, ↓reduceIte, Nat.reduceEqDiff, Nat.reduceAdd, Int.reduceToNat, reduceCtorEq, Nat.reduceLeDiff, Nat.reduceSub, Nat.reduceDiv, Nat.reduceMod, Nat.reduceMul, d1438_b0, e, g, List.append_assoc]
theorem rputR_run {r : Rep} (hl : r.hits.length ≤ 1000000) : runP tab 1438 [.agg (repS r)] [] = some (.tup (putRA r), []) := by
  refine runP_fn t1438 rfl ?_
  have gm := rref_run hl
  unfold putRA
  cases ho : okR r with
  | false =>
    rw [ho] at gm
    simp only [repS] at gm ⊢
    simp (config := { maxSteps := 1000000 }) (disch := omega) only [go_sem, ↓reduceIte, Nat.reduceEqDiff, Nat.reduceAdd, Int.reduceToNat, reduceCtorEq, Nat.reduceLeDiff, Nat.reduceSub, Nat.reduceDiv, Nat.reduceMod, Nat.reduceMul, d1438, gm, reduceCtorEq, if_false, if_true]
  | true =>
    rw [ho] at gm
    rw [if_pos rfl]
    obtain ⟨c0, c1, c2, c3, c4, c5, c6, c7⟩ := of_decide_eq_true ho
    obtain ⟨id, code, found, d, hits⟩ := r
    simp only at hl c0 c1 c2 c3 c4 c5 c6 c7
    simp only [repS] at gm ⊢
    obtain ⟨_, g1, k1⟩ := two_lay (a := id) (b := code) c0 (by omega)
    by_cases hc : code = 0
    · obtain ⟨_, g2, k2⟩ := three_lay (a := (fN found : Nat)) (b := d) (c := hits.length) (by unfold fN; split <;> omega) (by omega) (by omega)
      simp only [encR]
      rw [if_pos hc, ← List.append_assoc]
      cases found
      · rw [show ((fN false : Nat) : Int) = 0 from rfl] at g2 k2 ⊢
        simp (config := { maxSteps := 1000000 }) (disch := omega) only [go_sem, ↓reduceIte, Nat.reduceEqDiff, Nat.reduceAdd, Int.reduceToNat, reduceCtorEq, Nat.reduceLeDiff, Nat.reduceSub, Nat.reduceDiv, Nat.reduceMod, Nat.reduceMul, d1438, gm, g1, g2]
        refine Ev_loop0 (rpS hits (encI [id, code] ++ encI [0, d, hits.length]) id code d false) hits.length (by simp [rpS, encH]) (fun i hi => rp_step (by rw [List.length_append]; omega) c3 c7 hi) ?_
        unfold rpS
        rw [List.take_length]
        simp (config := { maxSteps := 1000000 }) (disch := omega) only [go_sem, ↓reduceIte, Nat.reduceEqDiff, Nat.reduceAdd, Int.reduceToNat, reduceCtorEq, Nat.reduceLeDiff, Nat.reduceSub, Nat.reduceDiv, Nat.reduceMod, Nat.reduceMul, d1438_b0]
      · rw [show ((fN true : Nat) : Int) = 1 from rfl] at g2 k2 ⊢
        simp (config := { maxSteps := 1000000 }) (disch := omega) only [go_sem, ↓reduceIte, Nat.reduceEqDiff, Nat.reduceAdd, Int.reduceToNat, reduceCtorEq, Nat.reduceLeDiff, Nat.reduceSub, Nat.reduceDiv, Nat.reduceMod, Nat.reduceMul, d1438, gm, g1, g2]
        refine Ev_loop0 (rpS hits (encI [id, code] ++ encI [1, d, hits.length]) id code d true) hits.length (by simp [rpS, encH]) (fun i hi => rp_step (by rw [List.length_append]; omega) c3 c7 hi) ?_
        unfold rpS
        rw [List.take_length]
        simp (config := { maxSteps := 1000000 }) (disch := omega) only [go_sem, ↓reduceIte, Nat.reduceEqDiff, Nat.reduceAdd, Int.reduceToNat, reduceCtorEq, Nat.reduceLeDiff, Nat.reduceSub, Nat.reduceDiv, Nat.reduceMod, Nat.reduceMul, d1438_b0]
    · simp only [encR]
      rw [if_neg hc, List.append_nil]
      simp (config := { maxSteps := 1000000 }) (disch := omega) only [go_sem, ↓reduceIte, Nat.reduceEqDiff, Nat.reduceAdd, Int.reduceToNat, reduceCtorEq, Nat.reduceLeDiff, Nat.reduceSub, Nat.reduceDiv, Nat.reduceMod, Nat.reduceMul, d1438, gm, g1]
end Go.Proofs.Ytcfhocnbpplecaa
