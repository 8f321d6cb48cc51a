/- The document's levels: edges, lowered round by round; numbers that rise. -/
import Derived.Test.YtgjahkebhlphgaaVf
import Derived.Test.YtgjahkebhlphgaaIb
namespace Go.Proofs.Ytgjahkebhlphgaa
set_option linter.unusedSimpArgs false
set_option linter.unusedVariables false
set_option maxHeartbeats 4000000
set_option maxRecDepth 100000
theorem rising_snoc {l : List Int} {i : Nat} (h : i < l.length) : rising (l.take (i + 1)) = ins (rising (l.take i)) (l.getD i 0) := foldl_snoc ins 0 h []
theorem rising_run {l : List Int} (hb : l.length ≤ 1000000) : runP tab 1021 [.sl 1 (ints l)] [] = some (.vec 1 (ints (rising l)), []) := by
  refine runP_fn t1021 rfl ?_
  simp (config := { maxSteps := 1000000 }) (disch := omega) only [go_sem, ↓reduceIte, Nat.reduceEqDiff, Nat.reduceAdd, Int.reduceToNat, reduceCtorEq, Nat.reduceLeDiff, Nat.reduceSub, Nat.reduceDiv, Nat.reduceMod, Nat.reduceMul, d1021]
  refine Ev_loop0 (fun i => ⟨[(0, .sl 1 (ints l)), (3, .own 1 0), (4, .int .i64 (i : Int))], [.row false (ints (rising (l.take i)))], 0, [(0, 1, [0, 3, 4], [(3, 0)])]⟩) l.length (by simp [rising, ints]) (fun i hi => ?_) ?_
  · have hl := rising_len (l.take i)
    simp only [List.length_take] at hl
    rw [rising_snoc hi]
    have a1 := lwb_le (rising (l.take i)) (l.getD i 0)
    have a2 := fun k => lwb_before (o := rising (l.take i)) (x := l.getD i 0) (i := k)
    have a3 := lwb_at (o := rising (l.take i)) (x := l.getD i 0)
    unfold ins
    generalize rising (l.take i) = o at *
    generalize hxx : l.getD i 0 = x at *
    generalize hj : lwb o x = j at *
    simp (config := { maxSteps := 1000000 }) (disch := omega) only [go_sem, ↓reduceIte, Nat.reduceEqDiff, Nat.reduceAdd, Int.reduceToNat, reduceCtorEq, Nat.reduceLeDiff, Nat.reduceSub, Nat.reduceDiv, Nat.reduceMod, Nat.reduceMul, d1021_b0]
    refine Ev_loop0 (fun k => ⟨[(0, .sl 1 (ints l)), (3, .own 1 0), (4, .int .i64 (i : Int)), (5, .int .i64 (k : Int))], [.row false (ints o)], 0, [(1, 1, [0, 3, 4, 5], [(3, 0)]), (0, 1, [0, 3, 4], [(3, 0)])]⟩) j rfl (fun k hk => ?_) ?_
    · have := a2 k hk
      simp (config := { maxSteps := 1000000 }) (disch := omega) only [go_sem, ↓reduceIte, Nat.reduceEqDiff, Nat.reduceAdd, Int.reduceToNat, reduceCtorEq, Nat.reduceLeDiff, Nat.reduceSub, Nat.reduceDiv, Nat.reduceMod, Nat.reduceMul, d1021_b1, hxx]
    · by_cases hjl : j < o.length
      · have a3 := a3 hjl
        by_cases hx : o.getD j 0 = x
        · rw [if_pos ⟨hjl, hx⟩]
          simp (config := { maxSteps := 1000000 }) (disch := omega) only [go_sem, ↓reduceIte, Nat.reduceEqDiff, Nat.reduceAdd, Int.reduceToNat, reduceCtorEq, Nat.reduceLeDiff, Nat.reduceSub, Nat.reduceDiv, Nat.reduceMod, Nat.reduceMul, d1021_b1, hxx, hx]
        · rw [if_neg (fun h => hx h.2), show o.take j ++ x :: o.drop j = o.take j ++ [x] ++ o.drop j by simp]
          simp (config := { maxSteps := 1000000 }) (disch := omega) only [go_sem, ↓reduceIte, Nat.reduceEqDiff, Nat.reduceAdd, Int.reduceToNat, reduceCtorEq, Nat.reduceLeDiff, Nat.reduceSub, Nat.reduceDiv, Nat.reduceMod, Nat.reduceMul, d1021_b1, hxx]
      · rw [if_neg (fun h => hjl h.1)]
        obtain rfl : j = o.length := by omega
        simp (config := { maxSteps := 1000000 }) (disch := omega) only [go_sem, ↓reduceIte, Nat.reduceEqDiff, Nat.reduceAdd, Int.reduceToNat, reduceCtorEq, Nat.reduceLeDiff, Nat.reduceSub, Nat.reduceDiv, Nat.reduceMod, Nat.reduceMul, d1021_b1, hxx, List.drop_length, List.take_length]
  · simp (config := { maxSteps := 1000000 }) (disch := omega) only [go_sem, ↓reduceIte, Nat.reduceEqDiff, Nat.reduceAdd, Int.reduceToNat, reduceCtorEq, Nat.reduceLeDiff, Nat.reduceSub, Nat.reduceDiv, Nat.reduceMod, Nat.reduceMul, d1021_b0, List.take_length]
theorem prs_fst {l : List Ed} {i : Nat} (h : i < l.length) : rdc (prs (l.drop i)) none = some (.int .i64 (l.getD i default).1) := by
  rw [List.drop_eq_getElem_cons h, prs_cons, List.getD_eq_getElem?_getD, List.getElem?_eq_getElem h]; rfl
theorem prs_snd {l : List Ed} {i : Nat} (h : i < l.length) : rdc ((prs l).drop (i * 2 + 1)) none = some (.int .i64 (l.getD i default).2) := by
  rw [← List.drop_drop, prs_drop, List.drop_eq_getElem_cons h, prs_cons, List.getD_eq_getElem?_getD, List.getElem?_eq_getElem h]; rfl
def eds (r : Rw) (b : Bool) : List Ed := if b then (edU r (plc r)).map fun e => (e.2, e.1) else edU r (plc r)
theorem eds_run {r : Rw} {b : Bool} (hr : okR r) : runP tab 1354 [.agg (rwS r), .bool b] [] = some (if chk r = true then .tup [.vec 2 (prs (eds r b)), .int .i64 0] else .tup [.vec 2 [], .int .i64 40], []) := by
  refine runP_fn t1354 rfl ?_
  have g := redges_run hr
  unfold toldE at g
  simp only [rwS] at g
  by_cases hc : chk r = true
  · rw [if_pos hc] at g ⊢
    have ok := chk_iff.1 hc
    have hl := edU_len ok.f (v := plc r) (by have := ok.f.lo; unfold plc; omega)
    have h3 := ok.f.tl
    have h4 := ok.f.ole (v := plc r) (by have := ok.f.lo; unfold plc; omega)
    rw [show r.off.length - 1 = plc r from rfl] at g
    unfold eds
    cases b with
    | false =>
      simp (config := { maxSteps := 1000000 }) (disch := omega) only [go_sem, ↓reduceIte, Nat.reduceEqDiff, Nat.reduceAdd, Int.reduceToNat, reduceCtorEq, Nat.reduceLeDiff, Nat.reduceSub, Nat.reduceDiv, Nat.reduceMod, Nat.reduceMul, d1354, rwS, g]
    | true =>
      generalize edU r (plc r) = E at *
      simp (config := { maxSteps := 1000000 }) (disch := omega) only [go_sem, ↓reduceIte, Nat.reduceEqDiff, Nat.reduceAdd, Int.reduceToNat, reduceCtorEq, Nat.reduceLeDiff, Nat.reduceSub, Nat.reduceDiv, Nat.reduceMod, Nat.reduceMul, d1354, rwS, g]
      refine Ev_loop0 (fun i => ⟨[(6, .own 2 1), (8, .own 2 2), (9, .int .i64 (i : Int))], [.row false (rwS r), .row false (prs E), .row false (prs ((E.take i).map fun e => (e.2, e.1)))], 0, [(0, 3, [6, 8, 9], [(6, 1), (8, 2)])]⟩) E.length (by simp [rwS, prs]) (fun i hi => ?_) ?_
      · have e1 := prs_fst hi
        have e2 := prs_snd hi
        have hm : ((E.take i).map fun e => (e.2, e.1)).length = i := by rw [List.length_map, List.length_take]; omega
        have e3 : ((E.take (i + 1)).map fun e => (e.2, e.1)) = ((E.take i).map fun e => (e.2, e.1)) ++ [((E.getD i default).2, (E.getD i default).1)] := by
          rw [take_snoc default hi, List.map_append]; rfl
        rw [e3]
        generalize ((E.take i).map fun e => (e.2, e.1)) = X at *
        generalize E.getD i default = e at *
        simp (config := { maxSteps := 1000000 }) (disch := omega) only [go_sem, ↓reduceIte, Nat.reduceEqDiff, Nat.reduceAdd, Int.reduceToNat, reduceCtorEq, Nat.reduceLeDiff, Nat.reduceSub, Nat.reduceDiv, Nat.reduceMod, Nat.reduceMul, d1354_b0, rwS, e1, e2, prs_snoc, hm]
      · rw [List.take_length]
        simp (config := { maxSteps := 1000000 }) (disch := omega) only [go_sem, ↓reduceIte, Nat.reduceEqDiff, Nat.reduceAdd, Int.reduceToNat, reduceCtorEq, Nat.reduceLeDiff, Nat.reduceSub, Nat.reduceDiv, Nat.reduceMod, Nat.reduceMul, d1354_b0, rwS]
  · rw [if_neg hc] at g ⊢
    simp (config := { maxSteps := 1000000 }) (disch := omega) only [go_sem, ↓reduceIte, Nat.reduceEqDiff, Nat.reduceAdd, Int.reduceToNat, reduceCtorEq, Nat.reduceLeDiff, Nat.reduceSub, Nat.reduceDiv, Nat.reduceMod, Nat.reduceMul, d1354, rwS, g]
noncomputable def lvT (r : Rw) (s : Int) (L : List Int) : AV := if chk r = true then (if 0 ≤ s ∧ s < plc r then .tup [.vec 1 (ints L), .int .i64 0] else .tup [.vec 1 [], .int .i64 1]) else .tup [.vec 1 [], .int .i64 40]
theorem eds_ok {r : Rw} (ok : r.ok) (b : Bool) : (∀ e ∈ eds r b, e.2 ∈ nbr r b e.1 ∧ 0 ≤ e.1 ∧ e.1 < plc r) ∧ ∀ u : Int, 0 ≤ u → u < plc r → ∀ v ∈ nbr r b u, (u, v) ∈ eds r b := by
  have mem : ∀ u v : Int, (u, v) ∈ edU r (plc r) ↔ (0 ≤ u ∧ u < plc r) ∧ v ∈ nbr r false u := by
    intro u v
    simp only [edU, edV, List.mem_flatMap, List.mem_range, List.mem_map, Prod.mk.injEq]
    constructor
    · rintro ⟨w, hw, x, hx, rfl, rfl⟩
      exact ⟨⟨by omega, by omega⟩, by simpa [nbr] using hx⟩
    · rintro ⟨⟨h1, h2⟩, h3⟩
      exact ⟨u.toNat, by omega, v, by simpa [nbr] using h3, by omega, rfl⟩
  cases b with
  | false =>
    refine ⟨fun e he => ?_, fun u h1 h2 v hv => (mem u v).2 ⟨⟨h1, h2⟩, hv⟩⟩
    obtain ⟨⟨h1, h2⟩, h3⟩ := (mem e.1 e.2).1 he
    exact ⟨h3, h1, h2⟩
  | true =>
    have M := nbr_mirror ok true
    have H := nbr_plc ok true
    have H0 := nbr_plc ok false
    refine ⟨fun e he => ?_, fun u h1 h2 v hv => ?_⟩
    · obtain ⟨⟨a, c⟩, ha, rfl⟩ := List.mem_map.1 he
      obtain ⟨⟨h1, h2⟩, h3⟩ := (mem a c).1 ha
      have hc := H0 a h1 h2 c h3
      exact ⟨(M c a hc.1 hc.2 h1 h2).2 h3, hc.1, hc.2⟩
    · have hv2 := H u h1 h2 v hv
      exact List.mem_map.2 ⟨(v, u), (mem v u).2 ⟨hv2, (M u v h1 h2 hv2.1 hv2.2).1 hv⟩, rfl⟩
theorem eds_len {r : Rw} (ok : r.ok) (b : Bool) : (eds r b).length ≤ 2000 := by
  have hl := edU_len ok.f (v := plc r) (by have := ok.f.lo; unfold plc; omega)
  have h3 := ok.f.tl
  have h4 := ok.f.ole (v := plc r) (by have := ok.f.lo; unfold plc; omega)
  unfold eds
  cases b
  · simp; omega
  · simp; omega
theorem rlx_len (l : List (Int × Int)) : ∀ o : List Int, (l.foldl rlx o).length = o.length := by
  induction l with
  | nil => intro o; rfl
  | cons e l ih => intro o; rw [List.foldl_cons, ih]; unfold rlx; split <;> simp
theorem rounds_len (l : List (Int × Int)) (o : List Int) : ∀ t, (rounds l o t).length = o.length
  | 0 => rfl
  | t + 1 => by rw [rounds, rlx_len, rounds_len]
end Go.Proofs.Ytgjahkebhlphgaa
