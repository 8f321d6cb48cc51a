/- Layer 11: what is an order; places. -/
import Derived.Test.YtjebbkpbaglooaaOa
import Derived.Test.YtjebbkpbaglooaaVb
namespace Go.Proofs.Ytjebbkpbaglooaa
set_option linter.unusedSimpArgs false
set_option linter.unusedVariables false
set_option maxHeartbeats 4000000
set_option maxRecDepth 100000
def upI (n : Nat) : List Int := (List.range n).map fun i : Nat => ((i : Nat) : Int)
theorem upI_len (n : Nat) : (upI n).length = n := by simp [upI]
theorem upI_mem {n : Nat} {x : Int} : x ∈ upI n ↔ 0 ≤ x ∧ x < n := by
  simp only [upI, List.mem_map, List.mem_range]
  constructor
  · rintro ⟨a, h, rfl⟩; omega
  · intro h; exact ⟨x.toNat, by omega, by omega⟩
theorem upI_nodup (n : Nat) : (upI n).Nodup := by
  unfold upI List.Nodup
  rw [List.pairwise_map]
  exact (List.nodup_range (n := n)).imp fun h e => h (by omega)
theorem upI_at {n i : Nat} (h : i < n) : (upI n).getD i 0 = (i : Int) := by
  rw [upI, List.getD_eq_getElem?_getD, List.getElem?_map, List.getElem?_range h]; rfl
theorem upI_succ (n : Nat) : upI (n + 1) = upI n ++ [(n : Int)] := by simp [upI, List.range_succ]
theorem upI_inc (n : Nat) : (upI n).Pairwise (· < ·) := by
  unfold upI
  rw [List.pairwise_map]
  exact (List.pairwise_lt_range (n := n)).imp fun h => by omega
def ltZ (a b : Int) : Bool := decide (a < b)
theorem ordrZ : Ordr ltZ := by
  refine ⟨fun x => by simp [ltZ], fun x y z h1 h2 => ?_, fun x y h1 h2 => ?_⟩
  · simp only [ltZ, decide_eq_true_eq] at *; omega
  · simp only [ltZ, decide_eq_false_iff_not] at *; omega
def OrdL (l : List Int) : Prop := (∀ x ∈ l, 0 ≤ x ∧ x < l.length) ∧ l.Nodup
theorem ordL_perm {l : List Int} : OrdL l ↔ l.Perm (upI l.length) := by
  constructor
  · rintro ⟨h1, h2⟩
    have hp := sorted_perm (lt := ltZ) l
    have hd : (sorted ltZ l).Pairwise (· < ·) := by
      have a1 := sorted_srtd ordrZ l
      have a2 : (sorted ltZ l).Nodup := (hp.nodup_iff).2 h2
      refine (List.Pairwise.and a1 a2).imp fun {x y} h => ?_
      have h3 := h.1
      have h4 := h.2
      simp only [ltZ, decide_eq_false_iff_not] at h3
      omega
    have hs := inc_sub hd (upI_inc l.length) fun x hx => upI_mem.2 (h1 x (hp.mem_iff.1 hx))
    have he := hs.eq_of_length (by rw [upI_len, hp.length_eq])
    rw [← he]
    exact hp.symm
  · intro h
    exact ⟨fun x hx => upI_mem.1 (h.mem_iff.1 hx), (h.nodup_iff).2 (upI_nodup _)⟩
open Classical in
noncomputable def isO (l : List Int) : Bool := decide (OrdL l)
def seenB (l : List Int) (n i : Nat) : List Bool := (List.range n).map fun v : Nat => decide ((v : Int) ∈ l.take i)
theorem seenB_len (l : List Int) (n i : Nat) : (seenB l n i).length = n := by simp [seenB]
theorem seenB_at {l : List Int} {n i v : Nat} (h : v < n) : (seenB l n i).getD v false = decide ((v : Int) ∈ l.take i) := by
  rw [seenB, List.getD_eq_getElem?_getD, List.getElem?_map, List.getElem?_range h]; rfl
theorem seenB_succ {l : List Int} {n i v : Nat} (hi : i < l.length) (hv : l.getD i 0 = (v : Int)) : (seenB l n i).set v true = seenB l n (i + 1) := by
  refine List.ext_getElem (by simp [seenB]) fun j a b => ?_
  simp only [seenB, List.getElem_set, List.getElem_map, List.getElem_range, take_snoc 0 hi, hv, List.mem_append, List.mem_singleton]
  by_cases e : v = j
  · subst e; simp
  · rw [if_neg e]
    have : ¬ ((j : Int) = (v : Int)) := by omega
    simp [this]
def okI (l : List Int) (i : Nat) : Prop := 0 ≤ l.getD i 0 ∧ l.getD i 0 < l.length ∧ l.getD i 0 ∉ l.take i
theorem ordL_iff {l : List Int} : OrdL l ↔ ∀ i, i < l.length → okI l i := by
  constructor
  · rintro ⟨h1, h2⟩ i hi
    have hm := h1 _ (getD_mem (d := 0) hi)
    refine ⟨hm.1, hm.2, fun hmem => ?_⟩
    have e := take_snoc (0 : Int) hi
    have hp : (l.take (i + 1)).Nodup := h2.sublist (List.take_sublist _ _)
    rw [e, List.nodup_append] at hp
    exact hp.2.2 _ hmem _ (by simp) rfl
  · intro h
    constructor
    · intro x hx
      obtain ⟨i, hi, rfl⟩ := memI.1 hx
      exact ⟨(h i hi).1, (h i hi).2.1⟩
    · have : ∀ k, k ≤ l.length → (l.take k).Nodup := by
        intro k
        induction k with
        | zero => intro _; simp
        | succ k ih =>
          intro hk
          rw [take_snoc 0 (by omega), List.nodup_append]
          refine ⟨ih (by omega), by simp, fun a ha b hb => ?_⟩
          simp only [List.mem_singleton] at hb
          subst hb
          rintro rfl
          exact (h k (by omega)).2.2 ha
      have := this l.length (Nat.le_refl _)
      rwa [List.take_length] at this
def isoS (l : List Int) (i : Nat) : St := ⟨[(1, .int .i64 (l.length : Int)), (5, .own 1 0), (14, .sl 1 (ints l)), (15, .int .i64 (l.length : Int)), (16, .int .i64 (i : Int))], [.row false (bls (seenB l l.length i))], 0, [(0, 1, [1, 5, 14, 15, 16], [(5, 0)])]⟩
theorem iso_step {l : List Int} {i : Nat} (hb : l.length ≤ 1000000) (hi : i < l.length) (h : okI l i) : Ev tab d1123_b0 (isoS l i) (fun x st => x = .normal ∧ st = isoS l (i + 1)) := by
  obtain ⟨m1, m2, hno⟩ := h
  obtain ⟨v, hv⟩ := Int.eq_ofNat_of_zero_le m1
  have hs := seenB_succ (n := l.length) hi hv
  rw [hv] at hno m1 m2
  have ha := seenB_at (l := l) (n := l.length) (i := i) (v := v) (by omega)
  rw [decide_eq_false hno] at ha
  have hle := seenB_len l l.length i
  unfold isoS
  rw [← hs]
  simp (config := { maxSteps := 1000000 }) (disch := omega) only [go_sem, ↓reduceIte, Nat.reduceEqDiff, Nat.reduceAdd, Int.reduceToNat, reduceCtorEq, Nat.reduceLeDiff, Nat.reduceSub, Nat.reduceDiv, Nat.reduceMod, Nat.reduceMul, d1123_b0, hv, ha, hle]
noncomputable def isN (l : List Int) (n : Int) : Bool := decide ((l.length : Int) = n) && isO l
theorem isord_run {l : List Int} {n : Int} (hb : l.length ≤ 1000000) : runP tab 1123 [.sl 1 (ints l), .int .i64 n] [] = some (.bool (isN l n), []) := by
  refine runP_fn t1123 rfl ?_
  by_cases hn : (l.length : Int) = n
  · subst hn
    have hz : bls (List.replicate l.length false) = bls (seenB l l.length 0) := by simp [seenB, List.map_const']
    simp (config := { maxSteps := 1000000 }) (disch := omega) only [go_sem, ↓reduceIte, Nat.reduceEqDiff, Nat.reduceAdd, Int.reduceToNat, reduceCtorEq, Nat.reduceLeDiff, Nat.reduceSub, Nat.reduceDiv, Nat.reduceMod, Nat.reduceMul, d1123, tile_bls, hz]
    rcases first_ix' (okI l) l.length with h | ⟨m, h1, h2, h3⟩
    · have e : isN l (l.length : Int) = true := by simp [isN, isO, ordL_iff.2 h]
      rw [e]
      refine Ev_loop0 (isoS l) l.length rfl (fun i hi => iso_step hb hi (h i hi)) ?_
      have hle := seenB_len l l.length l.length
      simp (config := { maxSteps := 1000000 }) (disch := omega) only [go_sem, ↓reduceIte, Nat.reduceEqDiff, Nat.reduceAdd, Int.reduceToNat, reduceCtorEq, Nat.reduceLeDiff, Nat.reduceSub, Nat.reduceDiv, Nat.reduceMod, Nat.reduceMul, d1123_b0, isoS]
    · have e : isN l (l.length : Int) = false := by
        have : ¬ OrdL l := fun hc => h3 (ordL_iff.1 hc m h1)
        simp [isN, isO, this]
      rw [e]
      refine Ev_loop0 (isoS l) m rfl (fun i hi => iso_step hb (by omega) (h2 i hi)) ?_
      have hle := seenB_len l l.length m
      by_cases c1 : l.getD m 0 < 0
      · simp (config := { maxSteps := 1000000 }) (disch := omega) only [go_sem, ↓reduceIte, Nat.reduceEqDiff, Nat.reduceAdd, Int.reduceToNat, reduceCtorEq, Nat.reduceLeDiff, Nat.reduceSub, Nat.reduceDiv, Nat.reduceMod, Nat.reduceMul, d1123_b0, isoS]
      by_cases c2 : l.length ≤ l.getD m 0
      · simp (config := { maxSteps := 1000000 }) (disch := omega) only [go_sem, ↓reduceIte, Nat.reduceEqDiff, Nat.reduceAdd, Int.reduceToNat, reduceCtorEq, Nat.reduceLeDiff, Nat.reduceSub, Nat.reduceDiv, Nat.reduceMod, Nat.reduceMul, d1123_b0, isoS]
      obtain ⟨v, hv⟩ := Int.eq_ofNat_of_zero_le (show 0 ≤ l.getD m 0 by omega)
      have c3 : l.getD m 0 ∈ l.take m := Classical.not_not.1 fun hc => h3 ⟨by omega, by omega, hc⟩
      have ha := seenB_at (l := l) (n := l.length) (i := m) (v := v) (by omega)
      rw [hv] at c1 c2 c3
      rw [decide_eq_true c3] at ha
      simp (config := { maxSteps := 1000000 }) (disch := omega) only [go_sem, ↓reduceIte, Nat.reduceEqDiff, Nat.reduceAdd, Int.reduceToNat, reduceCtorEq, Nat.reduceLeDiff, Nat.reduceSub, Nat.reduceDiv, Nat.reduceMod, Nat.reduceMul, d1123_b0, isoS, hv, ha, hle]
  · have e : isN l n = false := by simp [isN, hn]
    rw [e]
    simp (config := { maxSteps := 1000000 }) (disch := omega) only [go_sem, ↓reduceIte, Nat.reduceEqDiff, Nat.reduceAdd, Int.reduceToNat, reduceCtorEq, Nat.reduceLeDiff, Nat.reduceSub, Nat.reduceDiv, Nat.reduceMod, Nat.reduceMul, d1123]
def plcs (l : List Int) : Nat → List Int
  | 0 => List.replicate l.length 0
  | i + 1 => (plcs l i).set (l.getD i 0).toNat (i : Int)
theorem plcs_len (l : List Int) : ∀ i, (plcs l i).length = l.length
  | 0 => by simp [plcs]
  | i + 1 => by rw [plcs, List.length_set, plcs_len l i]
noncomputable def plA (l : List Int) : AV := if isO l = true then .tup [.vec 1 (ints (plcs l l.length)), .int .i64 0] else .tup [.vec 1 [], .int .i64 1]
theorem isN_self (l : List Int) : isN l (l.length : Int) = isO l := by simp [isN]
theorem isO_mem {l : List Int} (h : isO l = true) {i : Nat} (hi : i < l.length) : 0 ≤ l.getD i 0 ∧ l.getD i 0 < l.length := by
  have h : OrdL l := by simpa [isO] using h
  exact h.1 _ (getD_mem (d := 0) hi)
theorem places_run1 {l : List Int} (hb : l.length ≤ 1000000) : runP tab 1179 [.sl 1 (ints l)] [] = some (plA l, []) := by
  refine runP_fn t1179 rfl ?_
  have g := isord_run (n := (l.length : Int)) hb
  rw [isN_self] at g
  unfold plA
  cases ho : isO l with
  | false =>
    rw [ho] at g
    rw [if_neg (by simp)]
    simp (config := { maxSteps := 1000000 }) (disch := omega) only [go_sem, ↓reduceIte, Nat.reduceEqDiff, Nat.reduceAdd, Int.reduceToNat, reduceCtorEq, Nat.reduceLeDiff, Nat.reduceSub, Nat.reduceDiv, Nat.reduceMod, Nat.reduceMul, d1179, g]
  | true =>
    rw [ho] at g
    rw [if_pos rfl]
    simp (config := { maxSteps := 1000000 }) (disch := omega) only [go_sem, ↓reduceIte, Nat.reduceEqDiff, Nat.reduceAdd, Int.reduceToNat, reduceCtorEq, Nat.reduceLeDiff, Nat.reduceSub, Nat.reduceDiv, Nat.reduceMod, Nat.reduceMul, d1179, g, tile_ints]
    refine Ev_loop0 (fun i => ⟨[(4, .own 1 0), (15, .sl 1 (ints l)), (16, .int .i64 (l.length : Int)), (17, .int .i64 (i : Int))], [.row false (ints (plcs l i))], 0, [(0, 1, [4, 15, 16, 17], [(4, 0)])]⟩) l.length rfl (fun i hi => ?_) ?_
    · obtain ⟨m1, m2⟩ := isO_mem ho hi
      have hle := plcs_len l i
      have e : plcs l (i + 1) = (plcs l i).set (l.getD i 0).toNat (i : Int) := rfl
      obtain ⟨v, hv⟩ := Int.eq_ofNat_of_zero_le m1
      rw [e, hv, Int.toNat_natCast]
      rw [hv] at m1 m2
      simp (config := { maxSteps := 1000000 }) (disch := omega) only [go_sem, ↓reduceIte, Nat.reduceEqDiff, Nat.reduceAdd, Int.reduceToNat, reduceCtorEq, Nat.reduceLeDiff, Nat.reduceSub, Nat.reduceDiv, Nat.reduceMod, Nat.reduceMul, d1179_b0, hle, hv]
    · have hle := plcs_len l l.length
      simp (config := { maxSteps := 1000000 }) (disch := omega) only [go_sem, ↓reduceIte, Nat.reduceEqDiff, Nat.reduceAdd, Int.reduceToNat, reduceCtorEq, Nat.reduceLeDiff, Nat.reduceSub, Nat.reduceDiv, Nat.reduceMod, Nat.reduceMul, d1179_b0, hle]
end Go.Proofs.Ytjebbkpbaglooaa
