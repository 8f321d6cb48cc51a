/- Layer 11: the document's By. -/
import Derived.Test.YtjebbkpbaglooaaOk
namespace Go.Proofs.Ytjebbkpbaglooaa
set_option linter.unusedSimpArgs false
set_option linter.unusedVariables false
set_option maxHeartbeats 4000000
set_option maxRecDepth 100000
def wysL (E : List Ed) (v : Nat) : List Int := (List.range v).map fun u : Nat => (wysN E u : Int)
theorem wysL_len (E : List Ed) (v : Nat) : (wysL E v).length = v := by simp [wysL]
theorem wysL_succ (E : List Ed) (v : Nat) : wysL E (v + 1) = wysL E v ++ [(wysN E v : Int)] := by simp [wysL, List.range_succ]
theorem wysL_at {E : List Ed} {n v : Nat} (h : v < n) : (wysL E n).getD v 0 = (wysN E v : Int) := by simp [wysL, List.getD_eq_getElem?_getD, h]
def rnkR (E : List Ed) (d : Nat) (v : Nat) : List Int := ((List.range v).filter fun u : Nat => wysN E u == d).map fun u : Nat => (u : Int)
theorem rnkR_succ (E : List Ed) (d v : Nat) : rnkR E d (v + 1) = rnkR E d v ++ (if wysN E v = d then [(v : Int)] else []) := by
  unfold rnkR
  rw [List.range_succ, List.filter_append, List.map_append]
  by_cases h : wysN E v = d <;> simp [h]
theorem rnkR_len (E : List Ed) (d v : Nat) : (rnkR E d v).length ≤ v := by
  unfold rnkR
  rw [List.length_map]
  have := List.length_filter_le (fun u : Nat => wysN E u == d) (List.range v)
  rwa [List.length_range] at this
def rnkA (E : List Ed) (n : Nat) : Nat → List Int
  | 0 => []
  | j + 1 => rnkA E n j ++ rnkR E (4000 - j) n
def prR (E : List Ed) (d : Nat) (n : Nat) : List Ed := ((List.range n).filter fun u : Nat => wysN E u == d).map fun u : Nat => ((wysN E u : Int), (u : Int))
def prA (E : List Ed) (n : Nat) : Nat → List Ed
  | 0 => []
  | j + 1 => prA E n j ++ prR E (4000 - j) n
theorem snds_prA (E : List Ed) (n : Nat) : ∀ j, snds (prA E n j) = rnkA E n j
  | 0 => rfl
  | j + 1 => by
    rw [prA, rnkA, snds_app, snds_prA E n j]
    congr 1
    simp [snds, prR, rnkR]
theorem prR_mem {E : List Ed} {d n : Nat} {e : Ed} : e ∈ prR E d n ↔ ∃ u : Nat, u < n ∧ wysN E u = d ∧ e = ((wysN E u : Int), (u : Int)) := by
  simp only [prR, List.mem_map, List.mem_filter, List.mem_range, beq_iff_eq]
  constructor
  · rintro ⟨u, ⟨h1, h2⟩, rfl⟩; exact ⟨u, h1, h2, rfl⟩
  · rintro ⟨u, h1, h2, rfl⟩; exact ⟨u, ⟨h1, h2⟩, rfl⟩
theorem prA_mem {E : List Ed} {n : Nat} {e : Ed} : ∀ {j : Nat}, j ≤ 4001 → (e ∈ prA E n j ↔ ∃ u : Nat, u < n ∧ 4001 - j ≤ wysN E u ∧ wysN E u ≤ 4000 ∧ e = ((wysN E u : Int), (u : Int)))
  | 0, _ => by
    constructor
    · intro h; simp [prA] at h
    · rintro ⟨u, h1, h2, h3, h4⟩; omega
  | j + 1, hj => by
    rw [prA, List.mem_append, prA_mem (j := j) (by omega), prR_mem]
    constructor
    · rintro (⟨u, h1, h2, h3, h4⟩ | ⟨u, h1, h2, h3⟩)
      · exact ⟨u, h1, by omega, h3, h4⟩
      · exact ⟨u, h1, by omega, by omega, h3⟩
    · rintro ⟨u, h1, h2, h3, h4⟩
      by_cases h : wysN E u = 4000 - j
      · exact .inr ⟨u, h1, h, h4⟩
      · exact .inl ⟨u, h1, by omega, h3, h4⟩
theorem prR_asc (E : List Ed) (d n : Nat) : asc ltP (prR E d n) := by
  unfold asc prR
  rw [List.pairwise_map]
  have := (List.pairwise_lt_range (n := n)).filter fun u : Nat => wysN E u == d
  refine this.imp_of_mem fun {a b} ha hb hab => ?_
  have h1 := (List.mem_filter.1 ha).2
  have h2 := (List.mem_filter.1 hb).2
  simp only [beq_iff_eq] at h1 h2
  simp only [ltP, decide_eq_true_eq]
  omega
theorem prA_asc (E : List Ed) (n : Nat) : ∀ {j : Nat}, j ≤ 4001 → asc ltP (prA E n j)
  | 0, _ => List.Pairwise.nil
  | j + 1, hj => by
    rw [prA]
    refine asc_app.2 ⟨prA_asc E n (by omega), prR_asc E _ n, fun x hx y hy => ?_⟩
    obtain ⟨u, h1, h2, h3, rfl⟩ := (prA_mem (by omega)).1 hx
    obtain ⟨w, h5, h6, rfl⟩ := prR_mem.1 hy
    simp only [ltP, decide_eq_true_eq]
    omega
theorem wpr_asc (E : List Ed) (n : Nat) : asc ltP (sorted ltP (wpr E n)) := by
  have hp := sorted_perm (lt := ltP) (wpr E n)
  have hd : (wpr E n).Nodup := by
    unfold wpr List.Nodup
    rw [List.pairwise_map]
    exact (List.nodup_range (n := n)).imp fun h e => h (by have := congrArg Prod.snd e; simp only at this; omega)
  have h1 := sorted_srtd ordrP (wpr E n)
  have h2 : (sorted ltP (wpr E n)).Nodup := (hp.nodup_iff).2 hd
  refine (List.Pairwise.and h1 h2).imp fun {x y} h => ?_
  cases hxy : ltP x y with
  | true => rfl
  | false => exact absurd (ordrP.tri _ _ hxy h.1) h.2
theorem byA_rnk (E : List Ed) (n : Nat) (hE : E.length ≤ 2000) {m : Nat} (hm : m = 4001) : snds (sorted ltP (wpr E n)) = rnkA E n m := by
  rw [← snds_prA]
  refine congrArg snds ?_
  refine asc_ext ordrP (wpr_asc E n) (prA_asc E n (by omega)) fun x => ?_
  rw [(sorted_perm (lt := ltP) _).mem_iff, prA_mem (by omega)]
  simp only [wpr, List.mem_map, List.mem_range]
  constructor
  · rintro ⟨u, hu, rfl⟩
    have := wysN_le E u
    exact ⟨u, hu, by omega, by omega, rfl⟩
  · rintro ⟨u, hu, _, _, rfl⟩; exact ⟨u, hu, rfl⟩
theorem rnkA_len {E : List Ed} {n : Nat} (hE : E.length ≤ 2000) {j : Nat} (hj : j ≤ 4001) : (rnkA E n j).length ≤ n := by
  rw [← snds_prA, snds, List.length_map]
  have : (prA E n j).Sublist (sorted ltP (wpr E n)) := asc_sub ordrP (prA_asc E n hj) (wpr_asc E n) fun x hx => by
    obtain ⟨u, h1, h2, h3, rfl⟩ := (prA_mem hj).1 hx
    refine (sorted_perm (lt := ltP) _).mem_iff.2 ?_
    simp only [wpr, List.mem_map, List.mem_range]
    exact ⟨u, h1, rfl⟩
  have h2 := this.length_le
  rwa [sorted_len, wpr_len] at h2
theorem rby_run {r : Rw} (hr : okR r) : runP tab 1178 [.agg (rwS r)] [] = some (toldB r, []) := by
  refine runP_fn t1178 rfl ?_
  have gc := rcheck_run hr
  have hoff := hr.a
  simp only [rwS] at gc
  unfold toldB
  cases hc : chk r with
  | false =>
    rw [hc] at gc
    rw [if_neg (by simp)]
    simp (config := { maxSteps := 1000000 }) (disch := omega) only [go_sem, ↓reduceIte, Nat.reduceEqDiff, Nat.reduceAdd, Int.reduceToNat, reduceCtorEq, Nat.reduceLeDiff, Nat.reduceSub, Nat.reduceDiv, Nat.reduceMod, Nat.reduceMul, d1178, rwS, gc]
  | true =>
    rw [hc] at gc
    rw [if_pos rfl]
    have ok := chk_iff.1 hc
    have lo := ok.f.lo
    have hi := ok.f.hi
    have htl := ok.f.tl
    have hl := ok.l
    have hEl := edU_len ok.f (v := r.off.length - 1) (by omega)
    have hole := ok.f.ole (v := r.off.length - 1) (by omega)
    obtain ⟨m, hm⟩ : ∃ m : Nat, m = 4001 := ⟨_, rfl⟩
    have hby := byA_rnk (edU r (r.off.length - 1)) (r.off.length - 1) (by omega) hm
    have hw := fun v => wys_rows ok (v := v)
    have hlen := fun j => rnkA_len (E := edU r (r.off.length - 1)) (n := r.off.length - 1) (by omega) (j := j)
    unfold byA
    rw [hby]
    obtain ⟨n, hn⟩ : ∃ n : Nat, r.off.length = n + 1 := ⟨r.off.length - 1, by omega⟩
    rw [hn, Nat.add_sub_cancel] at hw hlen hEl hole ⊢
    have hwb := fun v => wysN_le (edU r n) v
    generalize edU r n = E at *
    have ent : ∀ v, v < n → (0 ≤ gi r.off v ∧ gi r.off v ≤ gi r.off (v + 1) ∧ gi r.off (v + 1) ≤ 2000 ∧ 0 ≤ gi r.roff v ∧ gi r.roff v ≤ gi r.roff (v + 1) ∧ gi r.roff (v + 1) ≤ 2000) ∧ gi r.off (v + 1) - gi r.off v + gi r.roff (v + 1) - gi r.roff v = (wysN E v : Int) := fun v hv => by
      have a1 := ok.f.gn (v := v) (by omega)
      have a2 := ok.f.gn (v := v + 1) (by omega)
      have a3 := ok.b.gn (v := v) (by omega)
      have a4 := ok.b.gn (v := v + 1) (by omega)
      have b1 := ok.f.om (v := v) (by omega)
      have b2 := ok.b.om (v := v) (by omega)
      have c1 := ok.f.ole (v := v + 1) (by omega)
      have c2 := ok.b.ole (v := v + 1) (by omega)
      have c3 := ok.b.tl
      have d1 := hw v (by omega)
      rw [ok.f.row_len (by omega), ok.b.row_len (by omega)] at d1
      omega
    have hno : r.off.length = n + 1 := hn
    have hnr : r.roff.length = n + 1 := by omega
    simp (config := { maxSteps := 1000000 }) (disch := omega) only [go_sem, ↓reduceIte, Nat.reduceEqDiff, Nat.reduceAdd, Int.reduceToNat, reduceCtorEq, Nat.reduceLeDiff, Nat.reduceSub, Nat.reduceDiv, Nat.reduceMod, Nat.reduceMul, d1178, rwS, gc, hn, Int.add_sub_cancel]
    refine Ev_loop0 (fun v => ⟨[(1, .ref 0 0), (4, .int .i64 (n : Int)), (5, .own 1 1), (6, .int .i64 (v : Int))], [.row false (rwS r), .row false (ints (wysL E v))], 0, [(0, 2, [1, 4, 5, 6], [(1, 0), (5, 1)])]⟩) n (by simp [rwS, wysL, ints]) (fun v hv => ?_) ?_
    · have hle := wysL_len E v
      obtain ⟨⟨q1, q2, q3, q4, q5, q6⟩, q7⟩ := ent v hv
      rw [wysL_succ, ← q7]
      unfold gi at *
      simp (config := { maxSteps := 1000000 }) (disch := omega) only [go_sem, ↓reduceIte, Nat.reduceEqDiff, Nat.reduceAdd, Int.reduceToNat, reduceCtorEq, Nat.reduceLeDiff, Nat.reduceSub, Nat.reduceDiv, Nat.reduceMod, Nat.reduceMul, d1178_b0, rwS, tn1]
    · simp (config := { maxSteps := 1000000 }) (disch := omega) only [go_sem, ↓reduceIte, Nat.reduceEqDiff, Nat.reduceAdd, Int.reduceToNat, reduceCtorEq, Nat.reduceLeDiff, Nat.reduceSub, Nat.reduceDiv, Nat.reduceMod, Nat.reduceMul, d1178_b0, rwS]
      refine Ev_loop0 (fun j => ⟨[(4, .int .i64 (n : Int)), (5, .own 1 1), (7, .own 1 2), (8, .int .i64 (4000 - (j : Int)))], [.row false (rwS r), .row false (ints (wysL E n)), .row false (ints (rnkA E n j))], 0, [(1, 3, [4, 5, 7, 8], [(5, 1), (7, 2)]), (0, 2, [1, 4, 5, 6], [(1, 0), (5, 1)])]⟩) m (by simp [rwS, rnkA, ints]) (fun j hj => ?_) ?_
      · have hwl := wysL_len E n
        have hat := fun v => wysL_at (E := E) (n := n) (v := v)
        have hla := hlen (j + 1) (by omega)
        rw [rnkA] at hla ⊢
        have hd : ∀ v, v < n → (decide ((wysN E v : Int) = 4000 - (j : Int)) = decide (wysN E v = 4000 - j)) := fun v hv => by
          congr 1
          refine propext ⟨fun h => by omega, fun h => by omega⟩
        have e8 : (4000 : Int) - ((j + 1 : Nat) : Int) = 4000 - (j : Int) - 1 := by omega
        rw [e8]
        have hr0 := rnkR_succ E (4000 - j)
        have hz : rnkR E (4000 - j) 0 = [] := rfl
        have hll := fun v => rnkR_len E (4000 - j) v
        generalize rnkA E n j = A at *
        generalize hL : wysL E n = L at *
        have hla2 : A.length ≤ n := by rw [List.length_append] at hla; omega
        simp (config := { maxSteps := 1000000 }) (disch := omega) only [go_sem, ↓reduceIte, Nat.reduceEqDiff, Nat.reduceAdd, Int.reduceToNat, reduceCtorEq, Nat.reduceLeDiff, Nat.reduceSub, Nat.reduceDiv, Nat.reduceMod, Nat.reduceMul, d1178_b1, rwS]
        refine Ev_loop0 (fun v => ⟨[(4, .int .i64 (n : Int)), (5, .own 1 1), (7, .own 1 2), (8, .int .i64 (4000 - (j : Int))), (9, .int .i64 (v : Int))], [.row false (rwS r), .row false (ints L), .row false (ints (A ++ rnkR E (4000 - j) v))], 0, [(2, 3, [4, 5, 7, 8, 9], [(5, 1), (7, 2)]), (1, 3, [4, 5, 7, 8], [(5, 1), (7, 2)]), (0, 2, [1, 4, 5, 6], [(1, 0), (5, 1)])]⟩) n (by simp [rwS, hz]) (fun v hv => ?_) ?_
        · have q1 := hat v hv
          have q2 := hll v
          rw [hr0 v]
          generalize rnkR E (4000 - j) v = B at *
          by_cases h : wysN E v = 4000 - j
          · have h2 : (wysN E v : Int) = 4000 - (j : Int) := by omega
            rw [if_pos h]
            rw [h2] at q1
            simp (config := { maxSteps := 1000000 }) (disch := omega) only [go_sem, ↓reduceIte, Nat.reduceEqDiff, Nat.reduceAdd, Int.reduceToNat, reduceCtorEq, Nat.reduceLeDiff, Nat.reduceSub, Nat.reduceDiv, Nat.reduceMod, Nat.reduceMul, d1178_b2, rwS, q1, List.append_assoc]
          · have h2 : ¬ (wysN E v : Int) = 4000 - (j : Int) := by omega
            rw [if_neg h, List.append_nil]
            simp (config := { maxSteps := 1000000 }) (disch := omega) only [go_sem, ↓reduceIte, Nat.reduceEqDiff, Nat.reduceAdd, Int.reduceToNat, reduceCtorEq, Nat.reduceLeDiff, Nat.reduceSub, Nat.reduceDiv, Nat.reduceMod, Nat.reduceMul, d1178_b2, rwS, q1, h2]
        · simp (config := { maxSteps := 1000000 }) (disch := omega) only [go_sem, ↓reduceIte, Nat.reduceEqDiff, Nat.reduceAdd, Int.reduceToNat, reduceCtorEq, Nat.reduceLeDiff, Nat.reduceSub, Nat.reduceDiv, Nat.reduceMod, Nat.reduceMul, d1178_b2, rwS]
      · have q := hlen m (by omega)
        subst hm
        generalize rnkA E n 4001 = A at *
        simp (config := { maxSteps := 1000000 }) (disch := omega) only [go_sem, ↓reduceIte, Nat.reduceEqDiff, Nat.reduceAdd, Int.reduceToNat, reduceCtorEq, Nat.reduceLeDiff, Nat.reduceSub, Nat.reduceDiv, Nat.reduceMod, Nat.reduceMul, d1178_b1, rwS]
end Go.Proofs.Ytjebbkpbaglooaa
