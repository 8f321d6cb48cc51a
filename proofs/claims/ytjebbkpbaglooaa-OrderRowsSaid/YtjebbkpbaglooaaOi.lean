/- Layer 11: OrderRows. -/
import Derived.Test.YtjebbkpbaglooaaOh
namespace Go.Proofs.Ytjebbkpbaglooaa
set_option linter.unusedSimpArgs false
set_option linter.unusedVariables false
set_option maxHeartbeats 4000000
set_option maxRecDepth 100000
def lexE (a b : Ed) : Prop := a.1 < b.1 ∨ (a.1 = b.1 ∧ a.2 < b.2)
theorem edU_mem {r : Rw} {n : Nat} {e : Ed} : e ∈ edU r n ↔ ∃ u : Nat, u < n ∧ e.1 = (u : Int) ∧ e.2 ∈ rowI r.off r.to u := by
  simp only [edU, edV, List.mem_flatMap, List.mem_range, List.mem_map]
  constructor
  · rintro ⟨u, hu, w, hw, rfl⟩; exact ⟨u, hu, rfl, hw⟩
  · rintro ⟨u, hu, h1, h2⟩; exact ⟨u, hu, e.2, h2, Prod.ext h1.symm rfl⟩
theorem edU_lex {r : Rw} (h : r.ok) : ∀ {n : Nat}, n < r.off.length → (edU r n).Pairwise lexE
  | 0, _ => by simp [edU]
  | n + 1, hn => by
    rw [edU_succ, List.pairwise_append]
    refine ⟨edU_lex h (by omega), ?_, fun a ha b hb => ?_⟩
    · rw [edV, List.pairwise_map]
      exact (h.f.inc hn).imp fun hab => .inr ⟨rfl, hab⟩
    · obtain ⟨u, hu, e1, e2⟩ := edU_mem.1 ha
      simp only [edV, List.mem_map] at hb
      obtain ⟨w, hw, rfl⟩ := hb
      left
      simp only [e1]; omega
theorem out_rows {r : Rw} (h : r.ok) {v : Nat} (hv : v + 1 < r.off.length) : ((edU r (r.off.length - 1)).filter fun e => e.1 == (v : Int)).length = (rowI r.off r.to v).length := by
  have e : ((edU r (r.off.length - 1)).filter fun e => e.1 == (v : Int)).map (·.2) = rowI r.off r.to v := by
    refine inc_ext ?_ (h.f.inc hv) fun w => ?_
    · rw [List.pairwise_map]
      have := (edU_lex h (n := r.off.length - 1) (by omega)).filter fun e => e.1 == (v : Int)
      refine this.imp_of_mem fun {a b} ha hb hab => ?_
      have h1 := (List.mem_filter.1 ha).2
      have h2 := (List.mem_filter.1 hb).2
      simp only [beq_iff_eq] at h1 h2
      unfold lexE at hab
      omega
    · simp only [List.mem_map, List.mem_filter, beq_iff_eq]
      constructor
      · rintro ⟨a, ⟨h1, h2⟩, rfl⟩
        obtain ⟨u, hu, e1, e2⟩ := edU_mem.1 h1
        have : u = v := by omega
        rwa [this] at e2
      · intro hw
        exact ⟨((v : Int), w), ⟨edU_mem.2 ⟨v, by omega, rfl, hw⟩, rfl⟩, rfl⟩
  rw [← e, List.length_map]
theorem in_rows {r : Rw} (h : r.ok) {v : Nat} (hv : v + 1 < r.off.length) : ((edU r (r.off.length - 1)).filter fun e => e.2 == (v : Int)).length = (rowI r.roff r.rev v).length := by
  have hl := h.l
  have e : ((edU r (r.off.length - 1)).filter fun e => e.2 == (v : Int)).map (·.1) = rowI r.roff r.rev v := by
    refine inc_ext ?_ (h.b.inc (by omega)) fun w => ?_
    · rw [List.pairwise_map]
      have := (edU_lex h (n := r.off.length - 1) (by omega)).filter fun e => e.2 == (v : Int)
      refine this.imp_of_mem fun {a b} ha hb hab => ?_
      have h1 := (List.mem_filter.1 ha).2
      have h2 := (List.mem_filter.1 hb).2
      simp only [beq_iff_eq] at h1 h2
      unfold lexE at hab
      omega
    · simp only [List.mem_map, List.mem_filter, beq_iff_eq]
      constructor
      · rintro ⟨a, ⟨h1, h2⟩, rfl⟩
        obtain ⟨u, hu, e1, e2⟩ := edU_mem.1 h1
        rw [h2] at e2
        rw [e1]
        exact (rows_mirror h (by omega) (by omega)).1 e2
      · intro hw
        have hp := h.b.row_pl (by omega) hw
        obtain ⟨u, rfl⟩ := Int.eq_ofNat_of_zero_le hp.1
        have := (rows_mirror h (v := u) (w := v) (by omega) (by omega)).2 hw
        exact ⟨((u : Int), (v : Int)), ⟨edU_mem.2 ⟨u, by omega, rfl, this⟩, rfl⟩, rfl⟩
  rw [← e, List.length_map]
theorem wys_rows {r : Rw} (h : r.ok) {v : Nat} (hv : v + 1 < r.off.length) : wysN (edU r (r.off.length - 1)) v = (rowI r.off r.to v).length + (rowI r.roff r.rev v).length := by
  rw [wysN, out_rows h hv, in_rows h hv]
def prsB (r : Rw) : List Ed := sorted ltP (wpr (edU r (r.off.length - 1)) (r.off.length - 1))
theorem byA_eq (r : Rw) : byA r = snds (prsB r) := rfl
theorem prsB_len (r : Rw) : (prsB r).length = r.off.length - 1 := by rw [prsB, sorted_len, wpr_len]
theorem byA_len (r : Rw) : (byA r).length = r.off.length - 1 := by rw [byA_eq, snds, List.length_map, prsB_len]
theorem snds_wpr (E : List Ed) (n : Nat) : snds (wpr E n) = upI n := by simp [snds, wpr, upI]
theorem byA_ord (r : Rw) : OrdL (byA r) := by
  rw [ordL_perm, byA_len]
  have := (sorted_perm (lt := ltP) (wpr (edU r (r.off.length - 1)) (r.off.length - 1))).map (·.2)
  have e := snds_wpr (edU r (r.off.length - 1)) (r.off.length - 1)
  unfold snds at e
  rw [e] at this
  exact this
theorem prsB_at {r : Rw} {i : Nat} (hi : i < r.off.length - 1) : ∃ v : Nat, v < r.off.length - 1 ∧ (byA r).getD i 0 = (v : Int) ∧ (prsB r).getD i default = ((wysN (edU r (r.off.length - 1)) v : Int), (v : Int)) := by
  have hl := prsB_len r
  have hm : (prsB r).getD i default ∈ prsB r := getD_mem (by omega)
  have hm2 := (sorted_perm (lt := ltP) _).mem_iff.1 hm
  simp only [wpr, List.mem_map, List.mem_range] at hm2
  obtain ⟨v, hv, e⟩ := hm2
  refine ⟨v, hv, ?_, e.symm⟩
  have : (byA r).getD i 0 = ((prsB r).getD i default).2 := by
    rw [byA_eq, snds, List.getD_eq_getElem?_getD, List.getElem?_map, List.getElem?_eq_getElem (by omega), List.getD_eq_getElem?_getD, List.getElem?_eq_getElem (by omega)]
    rfl
  rw [this, ← e]
theorem prsB_step {r : Rw} {i : Nat} (hi : i + 1 < r.off.length - 1) : ltP ((prsB r).getD (i + 1) default) ((prsB r).getD i default) = false := by
  have hl := prsB_len r
  have := List.pairwise_iff_getElem.1 (sorted_srtd ordrP (wpr (edU r (r.off.length - 1)) (r.off.length - 1))) i (i + 1) (by rw [← prsB]; omega) (by rw [← prsB]; omega) (by omega)
  rw [List.getD_eq_getElem?_getD, List.getElem?_eq_getElem (by omega), List.getD_eq_getElem?_getD, List.getElem?_eq_getElem (by omega)]
  exact this
def orS (r : Rw) (i : Nat) : St := ⟨[(1, .ref 0 0), (3, .own 1 1), (5, .int .i64 ((i : Int) + 1))], [.row false (rwS r), .row false (ints (byA r))], 0, [(0, 2, [1, 3, 5], [(1, 0), (3, 1)])]⟩
theorem or_step {r : Rw} (hr : okR r) (ok : r.ok) {i : Nat} (hi : i + 1 < r.off.length - 1) : Ev tab d1172_b0 (orS r i) (fun x st => x = .normal ∧ st = orS r (i + 1)) := by
  have hc := chk_yes ok
  have hoff := ok.f.hi
  have hl := ok.l
  have hbl := byA_len r
  obtain ⟨u, u1, u2, u3⟩ := prsB_at (r := r) (i := i) (by omega)
  obtain ⟨v, v1, v2, v3⟩ := prsB_at (r := r) (i := i + 1) hi
  have hs := prsB_step hi
  rw [u3, v3] at hs
  simp only [ltP, decide_eq_false_iff_not] at hs
  have hne : u ≠ v := fun e => by
    have := nodup_at (byA_ord r).2 (i := i) (j := i + 1) (by omega) (by omega) (by rw [u2, v2, e])
    omega
  have w1 := wys_rows ok (v := u) (by omega)
  have w2 := wys_rows ok (v := v) (by omega)
  rw [w1, w2] at hs
  have a1 := row_le ok (v := u) (by omega)
  have a2 := row_le' ok (v := u) (by omega)
  have a3 := row_le ok (v := v) (by omega)
  have a4 := row_le' ok (v := v) (by omega)
  have t1 := out_run (v := (u : Int)) hr ⟨by omega, by omega⟩
  have t2 := in_run (v := (u : Int)) hr ⟨by omega, by omega⟩
  have t3 := out_run (v := (v : Int)) hr ⟨by omega, by omega⟩
  have t4 := in_run (v := (v : Int)) hr ⟨by omega, by omega⟩
  rw [told1, if_pos ⟨hc, by omega, by omega⟩, Int.toNat_natCast] at t1 t2 t3 t4
  simp only [orS]
  have ei : ((i + 1 : Nat) : Int) + 1 = (i : Int) + 1 + 1 := by omega
  rw [ei]
  simp only [rwS] at t1 t2 t3 t4
  generalize rowI r.off r.to u = A at *
  generalize rowI r.roff r.rev u = B at *
  generalize rowI r.off r.to v = C at *
  generalize rowI r.roff r.rev v = D at *
  generalize byA r = L at *
  by_cases heq : (A.length : Int) + (B.length : Int) = (C.length : Int) + (D.length : Int)
  · have hlt : ¬ (v : Int) ≤ (u : Int) := by omega
    simp (config := { maxSteps := 1000000 }) (disch := omega) only [go_sem, ↓reduceIte, Nat.reduceEqDiff, Nat.reduceAdd, Int.reduceToNat, reduceCtorEq, Nat.reduceLeDiff, Nat.reduceSub, Nat.reduceDiv, Nat.reduceMod, Nat.reduceMul, d1172_b0, rwS, Int.add_sub_cancel, tn1, u2, v2, t1, t2, t3, t4, heq, hlt]
  · simp (config := { maxSteps := 1000000 }) (disch := omega) only [go_sem, ↓reduceIte, Nat.reduceEqDiff, Nat.reduceAdd, Int.reduceToNat, reduceCtorEq, Nat.reduceLeDiff, Nat.reduceSub, Nat.reduceDiv, Nat.reduceMod, Nat.reduceMul, d1172_b0, rwS, Int.add_sub_cancel, tn1, u2, v2, t1, t2, t3, t4, heq]
theorem orows_run {r : Rw} (hf : rwFit r) : runP tab 1172 [.agg (rwS r)] [] = some (.bool true, []) := by
  refine runP_fn t1172 rfl ?_
  have gb := bigR_run hf
  have gt := exm_run
  simp only [rwS] at gb
  cases hb : bigR r with
  | true =>
    rw [hb] at gb
    simp (config := { maxSteps := 1000000 }) (disch := omega) only [go_sem, ↓reduceIte, Nat.reduceEqDiff, Nat.reduceAdd, Int.reduceToNat, reduceCtorEq, Nat.reduceLeDiff, Nat.reduceSub, Nat.reduceDiv, Nat.reduceMod, Nat.reduceMul, d1172, rwS, gb, gt]
  | false =>
    rw [hb] at gb
    have hr := bigR_ok hb
    have gc := check_run (r := r) (by have := hr.a; omega) (by have := hr.b; omega) (by have := hr.c; omega) (by have := hr.d; omega)
    simp only [rwS] at gc
    cases hc : chk r with
    | false =>
      rw [hc] at gc
      simp (config := { maxSteps := 1000000 }) (disch := omega) only [go_sem, ↓reduceIte, Nat.reduceEqDiff, Nat.reduceAdd, Int.reduceToNat, reduceCtorEq, Nat.reduceLeDiff, Nat.reduceSub, Nat.reduceDiv, Nat.reduceMod, Nat.reduceMul, d1172, rwS, gb, gt, gc]
    | true =>
      rw [hc] at gc
      have ok := chk_iff.1 hc
      have lo := ok.f.lo
      have hi := ok.f.hi
      have hl := byA_len r
      have g1 := by_run hr
      rw [toldB, if_pos hc] at g1
      have g2 := isord_run (l := byA r) (n := (r.off.length : Int) - 1) (by omega)
      rw [show isN (byA r) ((r.off.length : Int) - 1) = true by
        have : ((byA r).length : Int) = (r.off.length : Int) - 1 := by omega
        simp [isN, this, isO_yes (byA_ord r)]] at g2
      have step := fun i => or_step hr ok (i := i)
      simp only [orS] at step
      simp only [rwS] at g1
      generalize byA r = L at *
      simp (config := { maxSteps := 1000000 }) (disch := omega) only [go_sem, ↓reduceIte, Nat.reduceEqDiff, Nat.reduceAdd, Int.reduceToNat, reduceCtorEq, Nat.reduceLeDiff, Nat.reduceSub, Nat.reduceDiv, Nat.reduceMod, Nat.reduceMul, d1172, rwS, gb, gc, g1, g2]
      refine Ev_loop0 (fun i => ⟨[(1, .ref 0 0), (3, .own 1 1), (5, .int .i64 ((i : Int) + 1))], [.row false (rwS r), .row false (ints L)], 0, [(0, 2, [1, 3, 5], [(1, 0), (3, 1)])]⟩) (r.off.length - 2) (by simp [rwS]) (fun i hi => step i (by omega)) ?_
      simp (config := { maxSteps := 1000000 }) (disch := omega) only [go_sem, ↓reduceIte, Nat.reduceEqDiff, Nat.reduceAdd, Int.reduceToNat, reduceCtorEq, Nat.reduceLeDiff, Nat.reduceSub, Nat.reduceDiv, Nat.reduceMod, Nat.reduceMul, d1172_b0, rwS, gt]
end Go.Proofs.Ytjebbkpbaglooaa
