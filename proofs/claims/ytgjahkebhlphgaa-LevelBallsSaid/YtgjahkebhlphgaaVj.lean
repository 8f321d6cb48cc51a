/- Fronts, told. -/
import Derived.Test.YtgjahkebhlphgaaVi
namespace Go.Proofs.Ytgjahkebhlphgaa
set_option linter.unusedSimpArgs false
set_option linter.unusedVariables false
set_option maxHeartbeats 4000000
set_option maxRecDepth 100000
noncomputable def frT (r : Rw) (l L : List Int) : AV := if pchk r l = 0 then .tup [.vec 1 (ints L), .int .i64 0] else .tup [.vec 1 [], .int .i64 (pchk r l)]
def frE (r : Rw) (b : Bool) (l : List Int) (k : Nat) : List Int := (((eds r b).take k).filter fun e => decide (e.1 ∈ l)).map (·.2)
theorem frE_len (r : Rw) (b : Bool) (l : List Int) (k : Nat) : (frE r b l k).length ≤ k := by
  unfold frE
  rw [List.length_map]
  have := List.length_filter_le (fun e : Ed => decide (e.1 ∈ l)) ((eds r b).take k)
  rw [List.length_take] at this
  omega
theorem frE_yes {r : Rw} {b : Bool} {l : List Int} {k : Nat} (hk : k < (eds r b).length) (h : ((eds r b).getD k default).1 ∈ l) : frE r b l (k + 1) = frE r b l k ++ [((eds r b).getD k default).2] := by
  unfold frE
  rw [take_snoc default hk, List.filter_append, List.map_append]
  simp only [List.filter_cons, h, decide_true, if_true, List.filter_nil, List.map_cons, List.map_nil]
theorem frE_no {r : Rw} {b : Bool} {l : List Int} {k : Nat} (hk : k < (eds r b).length) (h : ¬ ((eds r b).getD k default).1 ∈ l) : frE r b l (k + 1) = frE r b l k := by
  unfold frE
  rw [take_snoc default hk, List.filter_append, List.map_append]
  simp only [List.filter_cons, h, decide_false, Bool.false_eq_true, if_false, List.filter_nil, List.map_nil, List.append_nil]
noncomputable def frontL (r : Rw) (b : Bool) (l : List Int) : List Int := rising (frE r b l (eds r b).length)
theorem pchk_cases (r : Rw) (l : List Int) : (pchk r l = 40 ∧ ¬ chk r = true) ∨ (pchk r l = 1 ∧ chk r = true ∧ allPl ((r.off.length : Int) - 1) l = false) ∨ (pchk r l = 0 ∧ chk r = true ∧ allPl ((r.off.length : Int) - 1) l = true) := by
  unfold pchk
  by_cases hc : chk r = true
  · rw [if_pos hc]
    cases h : allPl ((r.off.length : Int) - 1) l with
    | false => exact .inr (.inl ⟨by simp, hc, rfl⟩)
    | true => exact .inr (.inr ⟨by simp, hc, rfl⟩)
  · rw [if_neg hc]; exact .inl ⟨rfl, hc⟩
theorem allPl_mem {n : Int} {l : List Int} (h : allPl n l = true) : ∀ v ∈ l, 0 ≤ v ∧ v < n := by
  intro v hv
  have := List.all_eq_true.1 h v hv
  simpa using this
theorem sne_rep {n : Nat} {x : Int} : sne (List.replicate n false) x = false := by
  simp [sne, List.getD_eq_getElem?_getD, List.getElem?_replicate]; split <;> rfl
theorem sorted_rise {l m : List Int} (hd : l.Nodup) (hm : ∀ x, x ∈ l ↔ x ∈ m) : sorted ltI l = rising m := by
  refine inc_ext ?_ (rising_inc m) fun x => by rw [(sorted_perm l).mem_iff, rising_mem, hm]
  have h1 := sorted_srtd ordrI l
  have h2 : (sorted ltI l).Nodup := (sorted_perm l).nodup_iff.2 hd
  unfold srtd at h1
  exact (h1.and h2).imp fun {a b} h => by
    obtain ⟨h3, h4⟩ := h
    simp only [ltI, decide_eq_false_iff_not] at h3
    omega
theorem front_eq {r : Rw} (ok : r.ok) (b : Bool) {l : List Int} (h : ∀ v ∈ l, 0 ≤ v ∧ v < plc r) : sorted ltI (bey (nbr r b) l (List.replicate (plc r) false)).2 = frontL r b l := by
  have B := bey_spec (nb := nbr r b) (l := l) (s := List.replicate (plc r) false) (fun v hv x hx => by
    rw [List.length_replicate]
    exact nbr_plc ok b v (h v hv).1 (h v hv).2 x hx)
  refine sorted_rise B.nd fun x => ?_
  rw [B.next, List.mem_flatMap]
  obtain ⟨k1, k2⟩ := eds_ok ok b
  unfold frE
  rw [List.take_length, List.mem_map]
  simp only [List.mem_filter, decide_eq_true_eq]
  constructor
  · rintro ⟨_, v, hv, hx⟩
    exact ⟨(v, x), ⟨k2 v (h v hv).1 (h v hv).2 x hx, hv⟩, rfl⟩
  · rintro ⟨e, ⟨he, hv⟩, rfl⟩
    exact ⟨sne_rep, e.1, hv, (k1 e he).1⟩
theorem bey_len {r : Rw} (ok : r.ok) (b : Bool) {l : List Int} (hl : l.length ≤ 1000000) (h : ∀ v ∈ l, 0 ≤ v ∧ v < plc r) : (bey (nbr r b) l (List.replicate (plc r) false)).2.length ≤ 60000 := by
  have B := bey_spec (nb := nbr r b) (l := l) (s := List.replicate (plc r) false) (fun v hv x hx => by
    rw [List.length_replicate]
    exact nbr_plc ok b v (h v hv).1 (h v hv).2 x hx)
  have hi := ok.f.hi
  have := B.nd.length_le_of_subset (l₂ := (List.range (plc r)).map fun i : Nat => (i : Int)) (fun x hx => by
    obtain ⟨_, hx⟩ := (B.next x).1 hx
    obtain ⟨v, hv, hx⟩ := List.mem_flatMap.1 hx
    have := nbr_plc ok b v (h v hv).1 (h v hv).2 x hx
    exact List.mem_map.2 ⟨x.toNat, by simp; omega, by omega⟩)
  simp at this
  unfold plc at *
  omega
theorem front_run {r : Rw} {l : List Int} {b : Bool} (hr : okR r) (hl : l.length ≤ 1000000) : runP tab 1339 [.agg (rwS r), .sl 1 (ints l), .bool b] [] = some (frT r l (frontL r b l), []) := by
  refine runP_fn t1339 rfl ?_
  have g1 := pcheck_run (r := r) (l := l) hr hl
  unfold frT
  simp only [rwS] at g1
  rcases pchk_cases r l with ⟨e, hc⟩ | ⟨e, hc, ha⟩ | ⟨e, hc, ha⟩
  · rw [e] at g1 ⊢
    rw [if_neg (by decide)]
    simp (config := { maxSteps := 1000000 }) (disch := omega) only [go_sem, ↓reduceIte, Nat.reduceEqDiff, Nat.reduceAdd, Int.reduceToNat, reduceCtorEq, Nat.reduceLeDiff, Nat.reduceSub, Nat.reduceDiv, Nat.reduceMod, Nat.reduceMul, d1339, rwS, g1]
  · rw [e] at g1 ⊢
    rw [if_neg (by decide)]
    simp (config := { maxSteps := 1000000 }) (disch := omega) only [go_sem, ↓reduceIte, Nat.reduceEqDiff, Nat.reduceAdd, Int.reduceToNat, reduceCtorEq, Nat.reduceLeDiff, Nat.reduceSub, Nat.reduceDiv, Nat.reduceMod, Nat.reduceMul, d1339, rwS, g1]
  · rw [e] at g1 ⊢
    rw [if_pos rfl]
    have ok := chk_iff.1 hc
    have lo := ok.f.lo
    have hi := ok.f.hi
    have hn : ((r.off.length : Int) - 1) = (plc r : Int) := by unfold plc; omega
    have hv := allPl_mem ha
    rw [hn] at hv
    have g2 := many_run hr
    rw [hn] at g2
    have g3 := lead_run hr b
    have g4 := byA_run (b := b) ok hl hv (s := List.replicate (plc r) false) (by simp)
    have hbl := bey_len ok b hl hv
    rw [← front_eq ok b hv]
    simp only [rwS, ldC] at g2 g3 g4
    have hpl : plc r ≤ 1000 := by unfold plc; omega
    generalize bey (nbr r b) l (List.replicate (plc r) false) = t at *
    have g5 := isf_run hbl
    simp only [List.toList_toArray] at g5
    simp (config := { maxSteps := 1000000 }) (disch := omega) only [go_sem, ↓reduceIte, Nat.reduceEqDiff, Nat.reduceAdd, Int.reduceToNat, reduceCtorEq, Nat.reduceLeDiff, Nat.reduceSub, Nat.reduceDiv, Nat.reduceMod, Nat.reduceMul, d1339, rwS, ldC, g1, g2, g3, g4, g5]
theorem rfront_run {r : Rw} {l : List Int} {b : Bool} (hr : okR r) (hl : l.length ≤ 1000000) : runP tab 1340 [.agg (rwS r), .sl 1 (ints l), .bool b] [] = some (frT r l (frontL r b l), []) := by
  refine runP_fn t1340 rfl ?_
  have ge := eds_run (b := b) hr
  unfold frT
  simp only [rwS] at ge
  rcases pchk_cases r l with ⟨e, hc⟩ | ⟨e, hc, ha⟩ | ⟨e, hc, ha⟩
  · rw [e, if_neg (by decide)]
    rw [if_neg hc] at ge
    simp (config := { maxSteps := 1000000 }) (disch := omega) only [go_sem, ↓reduceIte, Nat.reduceEqDiff, Nat.reduceAdd, Int.reduceToNat, reduceCtorEq, Nat.reduceLeDiff, Nat.reduceSub, Nat.reduceDiv, Nat.reduceMod, Nat.reduceMul, d1340, rwS, ge]
  · rw [e, if_neg (by decide)]
    rw [if_pos hc] at ge
    have ok := chk_iff.1 hc
    have lo := ok.f.lo
    have hi := ok.f.hi
    have hn : ((r.off.length : Int) - 1) = (plc r : Int) := by unfold plc; omega
    rw [hn] at ha
    simp (config := { maxSteps := 1000000 }) (disch := omega) only [go_sem, ↓reduceIte, Nat.reduceEqDiff, Nat.reduceAdd, Int.reduceToNat, reduceCtorEq, Nat.reduceLeDiff, Nat.reduceSub, Nat.reduceDiv, Nat.reduceMod, Nat.reduceMul, d1340, rwS, ge]
    rcases first_at 0 (fun v => decide (0 ≤ v ∧ v < (plc r : Int))) l with ⟨q1, q2⟩ | ⟨k, q1, q2, q3, q4⟩
    · rw [show allPl (plc r : Int) l = true from q2] at ha; cases ha
    · refine Ev_loop0 (fun i => ⟨[(1, .sl 1 (ints l)), (3, .ref 0 0), (8, .own 2 1), (10, .int .i64 (i : Int))], [.row false (rwS r), .row false (prs (eds r b))], 0, [(0, 2, [1, 3, 8, 10], [(3, 0), (8, 1)])]⟩) k (by simp [rwS]) (fun i hi2 => ?_) ?_
      · have q := q2 i hi2
        simp only [decide_eq_true_eq] at q
        obtain ⟨qa, qb⟩ := q
        simp (config := { maxSteps := 1000000 }) (disch := omega) only [go_sem, ↓reduceIte, Nat.reduceEqDiff, Nat.reduceAdd, Int.reduceToNat, reduceCtorEq, Nat.reduceLeDiff, Nat.reduceSub, Nat.reduceDiv, Nat.reduceMod, Nat.reduceMul, d1340_b0, rwS, hn]
      · simp only [decide_eq_false_iff_not] at q3
        by_cases qa : l.getD k 0 < 0
        · simp (config := { maxSteps := 1000000 }) (disch := omega) only [go_sem, ↓reduceIte, Nat.reduceEqDiff, Nat.reduceAdd, Int.reduceToNat, reduceCtorEq, Nat.reduceLeDiff, Nat.reduceSub, Nat.reduceDiv, Nat.reduceMod, Nat.reduceMul, d1340_b0, rwS, hn]
        · simp (config := { maxSteps := 1000000 }) (disch := omega) only [go_sem, ↓reduceIte, Nat.reduceEqDiff, Nat.reduceAdd, Int.reduceToNat, reduceCtorEq, Nat.reduceLeDiff, Nat.reduceSub, Nat.reduceDiv, Nat.reduceMod, Nat.reduceMul, d1340_b0, rwS, hn]
  · rw [e, if_pos rfl]
    rw [if_pos hc] at ge
    have ok := chk_iff.1 hc
    have lo := ok.f.lo
    have hi := ok.f.hi
    have hn : ((r.off.length : Int) - 1) = (plc r : Int) := by unfold plc; omega
    rw [hn] at ha
    have hv := allPl_mem ha
    have hE := eds_len ok b
    simp (config := { maxSteps := 1000000 }) (disch := omega) only [go_sem, ↓reduceIte, Nat.reduceEqDiff, Nat.reduceAdd, Int.reduceToNat, reduceCtorEq, Nat.reduceLeDiff, Nat.reduceSub, Nat.reduceDiv, Nat.reduceMod, Nat.reduceMul, d1340, rwS, ge]
    refine Ev_loop0 (fun i => ⟨[(1, .sl 1 (ints l)), (3, .ref 0 0), (8, .own 2 1), (10, .int .i64 (i : Int))], [.row false (rwS r), .row false (prs (eds r b))], 0, [(0, 2, [1, 3, 8, 10], [(3, 0), (8, 1)])]⟩) l.length (by simp [rwS]) (fun i hi2 => ?_) ?_
    · obtain ⟨qa, qb⟩ := hv _ (getD_mem (d := 0) hi2)
      simp (config := { maxSteps := 1000000 }) (disch := omega) only [go_sem, ↓reduceIte, Nat.reduceEqDiff, Nat.reduceAdd, Int.reduceToNat, reduceCtorEq, Nat.reduceLeDiff, Nat.reduceSub, Nat.reduceDiv, Nat.reduceMod, Nat.reduceMul, d1340_b0, rwS, hn]
    · simp (config := { maxSteps := 1000000 }) (disch := omega) only [go_sem, ↓reduceIte, Nat.reduceEqDiff, Nat.reduceAdd, Int.reduceToNat, reduceCtorEq, Nat.reduceLeDiff, Nat.reduceSub, Nat.reduceDiv, Nat.reduceMod, Nat.reduceMul, d1340_b0, rwS, hn]
      refine Ev_loop0 (fun i => ⟨[(1, .sl 1 (ints l)), (8, .own 2 1), (11, .own 1 2), (12, .int .i64 (i : Int))], [.row false (rwS r), .row false (prs (eds r b)), .row false (ints (frE r b l i))], 0, [(1, 3, [1, 8, 11, 12], [(8, 1), (11, 2)]), (0, 2, [1, 3, 8, 10], [(3, 0), (8, 1)])]⟩) (eds r b).length (by simp [rwS, frE, ints]) (fun i hi2 => ?_) ?_
      · have e1 := prs_fst hi2
        have e2 := prs_snd hi2
        have g5 := in5_run (l := l) (x := ((eds r b).getD i default).1) hl
        have hfl := frE_len r b l i
        by_cases hm : ((eds r b).getD i default).1 ∈ l
        · rw [frE_yes hi2 hm]
          rw [decide_eq_true hm] at g5
          generalize (eds r b).getD i default = x at *
          generalize frE r b l i = X at *
          generalize eds r b = E at *
          simp (config := { maxSteps := 1000000 }) (disch := omega) only [go_sem, ↓reduceIte, Nat.reduceEqDiff, Nat.reduceAdd, Int.reduceToNat, reduceCtorEq, Nat.reduceLeDiff, Nat.reduceSub, Nat.reduceDiv, Nat.reduceMod, Nat.reduceMul, d1340_b1, rwS, e1, e2, g5]
        · rw [frE_no hi2 hm]
          rw [decide_eq_false hm] at g5
          generalize (eds r b).getD i default = x at *
          generalize frE r b l i = X at *
          generalize eds r b = E at *
          simp (config := { maxSteps := 1000000 }) (disch := omega) only [go_sem, ↓reduceIte, Nat.reduceEqDiff, Nat.reduceAdd, Int.reduceToNat, reduceCtorEq, Nat.reduceLeDiff, Nat.reduceSub, Nat.reduceDiv, Nat.reduceMod, Nat.reduceMul, d1340_b1, rwS, e1, e2, g5]
      · have hfl := frE_len r b l (eds r b).length
        have g6 := rising_run (l := frE r b l (eds r b).length) (by omega)
        unfold frontL
        generalize frE r b l (eds r b).length = X at *
        generalize eds r b = E at *
        simp (config := { maxSteps := 1000000 }) (disch := omega) only [go_sem, ↓reduceIte, Nat.reduceEqDiff, Nat.reduceAdd, Int.reduceToNat, reduceCtorEq, Nat.reduceLeDiff, Nat.reduceSub, Nat.reduceDiv, Nat.reduceMod, Nat.reduceMul, d1340_b1, rwS, g6]
end Go.Proofs.Ytgjahkebhlphgaa
