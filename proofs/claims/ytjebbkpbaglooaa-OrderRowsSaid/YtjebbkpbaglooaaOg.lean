/- Layer 11: the document's rows; OrderBack. -/
import Derived.Test.YtjebbkpbaglooaaOf
import Derived.Test.YtjebbkpbaglooaaLb
namespace Go.Proofs.Ytjebbkpbaglooaa
set_option linter.unusedSimpArgs false
set_option linter.unusedVariables false
set_option maxHeartbeats 4000000
set_option maxRecDepth 100000
def R11 : Rw := ⟨[0, 1, 2, 3], [1, 0, 1], [0, 1, 3, 3], [1, 0, 2]⟩
theorem R11_ok : okR R11 := ⟨by decide, by decide, by decide, by decide⟩
theorem R11_chk : chk R11 = true := chkK (by decide)
theorem E11_ok : okE 3 [(0, 1), (1, 0), (2, 1)] := ⟨by decide, by decide, by decide, fun i hi => by
  match i, hi with
  | 0, _ => decide
  | 1, _ => decide
  | 2, _ => decide, fun i hi => by
  match i, hi with
  | 0, _ => decide
  | 1, _ => decide⟩
theorem R11_by : byA R11 = [1, 0, 2] := by
  have e : wpr (edU R11 (R11.off.length - 1)) (R11.off.length - 1) = [(2, 0), (3, 1), (1, 2)] := by decide
  have s : srtd ltP [((3 : Int), (1 : Int)), (2, 0), (1, 2)] := by
    unfold srtd
    decide
  rw [byA, e, srtd_uni ordrP (sorted_srtd ordrP [((2 : Int), (0 : Int)), (3, 1), (1, 2)]) s ((sorted_perm _).trans (by decide))]
  rfl
theorem isO_yes {l : List Int} (h : OrdL l) : isO l = true := by simp [isO, h]
theorem ordL_small {l : List Int} (h : (l.all fun x => decide (0 ≤ x ∧ x < l.length)) = true) (h2 : l.Nodup) : OrdL l :=
  ⟨fun x hx => by simpa using List.all_eq_true.1 h x hx, h2⟩
theorem exm_run : runP tab 1185 [] [] = some (.bool true, []) := by
  refine runP_fn t1185 rfl ?_
  have g1 : runP tab 1198 [.agg (grS 3 [(0, 1), (1, 0), (2, 1)])] [] = some (.tup [.agg [.vec 1 (ints R11.off), .vec 1 (ints R11.to), .vec 1 (ints R11.roff), .vec 1 (ints R11.rev)], .int .i64 0], []) := make_run E11_ok
  have g2 := by_run R11_ok
  rw [toldB, if_pos R11_chk, R11_by] at g2
  have g3 := nth_run (n := 3) (k := 0) ⟨by decide, by decide⟩ ⟨by decide, by decide⟩
  rw [nthA, if_pos (by decide), show nthR (3 : Int).toNat (upI (3 : Int).toNat) (0 : Int).toNat = [0, 1, 2] by decide] at g3
  have g4 := nth_run (n := 3) (k := 3) ⟨by decide, by decide⟩ ⟨by decide, by decide⟩
  rw [nthA, if_pos (by decide), show nthR (3 : Int).toNat (upI (3 : Int).toNat) (3 : Int).toNat = [1, 2, 0] by decide] at g4
  have g5 := nth_run (n := 3) (k := 6) ⟨by decide, by decide⟩ ⟨by decide, by decide⟩
  rw [nthA, if_neg (by decide)] at g5
  have g6 := turns_run (l := [1, 2, 0]) (by decide)
  rw [turA, if_pos ⟨by decide, isO_yes (ordL_small (by decide) (by decide))⟩, show rankR (upI ([1, 2, 0] : List Int).length) [1, 2, 0] = 3 by decide] at g6
  have g7 := isord_run (l := [1, 0, 2]) (n := 3) (by decide)
  have g8 := isord_run (l := [1, 0, 2]) (n := 4) (by decide)
  have o1 : isO [1, 0, 2] = true := isO_yes (ordL_small (by decide) (by decide))
  rw [show isN [1, 0, 2] 3 = true by simp [isN, o1]] at g7
  rw [show isN [1, 0, 2] 4 = false by simp [isN]] at g8
  have i1 := ints_run (a := [1, 0, 2]) (b := [1, 0, 2]) (by decide) (by decide)
  have i2 := ints_run (a := [0, 1, 2]) (b := [0, 1, 2]) (by decide) (by decide)
  have i3 := ints_run (a := [1, 2, 0]) (b := [1, 2, 0]) (by decide) (by decide)
  simp only [beq_self_eq_true, ints, List.map_cons, List.map_nil] at g2 g3 g4 g5 g6 g7 g8 i1 i2 i3
  simp only [grS, prs, List.flatMap_cons, List.flatMap_nil, List.cons_append, List.nil_append, nls, List.replicate, Int.cast_ofNat_Int] at g1
  simp only [rwS, R11, ints, List.map_cons, List.map_nil] at g1 g2
  simp (config := { maxSteps := 1000000 }) (disch := omega) only [go_sem, ↓reduceIte, Nat.reduceEqDiff, Nat.reduceAdd, Int.reduceToNat, reduceCtorEq, Nat.reduceLeDiff, Nat.reduceSub, Nat.reduceDiv, Nat.reduceMod, Nat.reduceMul, d1185, g1, g2, g3, g4, g5, g6, g7, g8, i1, i2, i3]
theorem plcs_get {l : List Int} (h : OrdL l) : ∀ {k i : Nat}, k ≤ l.length → i < k → (plcs l k).getD (l.getD i 0).toNat 0 = (i : Int)
  | 0, i, _, hi => absurd hi (Nat.not_lt_zero _)
  | k + 1, i, hk, hi => by
    have m1 := h.1 _ (getD_mem (d := 0) (show i < l.length by omega))
    have m2 := h.1 _ (getD_mem (d := 0) (show k < l.length by omega))
    rw [plcs, List.getD_eq_getElem?_getD, List.getElem?_set]
    by_cases e : i = k
    · subst e
      rw [if_pos rfl, if_pos (by rw [plcs_len]; omega)]; rfl
    · have hne : (l.getD k 0).toNat ≠ (l.getD i 0).toNat := fun e2 => by
        have : k = i := nodup_at h.2 (by omega) (by omega) (by omega)
        omega
      rw [if_neg hne, ← List.getD_eq_getElem?_getD]
      exact plcs_get h (by omega) (by omega)
theorem ord_at {l : List Int} (h : OrdL l) {j : Nat} (hj : j < l.length) : ∃ i, i < l.length ∧ l.getD i 0 = (j : Int) := by
  have hm : (j : Int) ∈ l := (ordL_perm.1 h).mem_iff.2 (upI_mem.2 ⟨by omega, by omega⟩)
  exact memI.1 hm
theorem plcs_at {l : List Int} (h : OrdL l) {i j : Nat} (hi : i < l.length) (e : l.getD i 0 = (j : Int)) : (plcs l l.length).getD j 0 = (i : Int) := by
  have := plcs_get h (Nat.le_refl _) hi
  rwa [e, Int.toNat_natCast] at this
theorem plcs_ord {l : List Int} (h : OrdL l) : OrdL (plcs l l.length) := by
  rw [ordL_iff]
  intro j hj
  rw [plcs_len] at hj
  obtain ⟨i, hi, e⟩ := ord_at h hj
  have e2 := plcs_at h hi e
  refine ⟨by rw [e2]; omega, by rw [e2, plcs_len]; omega, fun hm => ?_⟩
  obtain ⟨q, hq, eq⟩ := memI.1 hm
  rw [List.length_take, plcs_len] at hq
  have eq2 : (plcs l l.length).getD q 0 = (plcs l l.length).getD j 0 := by
    rw [← eq, List.getD_eq_getElem?_getD, List.getD_eq_getElem?_getD, List.getElem?_take, if_pos (by omega)]
  obtain ⟨i2, hi2, e3⟩ := ord_at h (show q < l.length by omega)
  have e4 := plcs_at h hi2 e3
  rw [e4, e2] at eq2
  have : i2 = i := by omega
  subst this
  rw [e] at e3
  omega
theorem plcs_back {l : List Int} (h : OrdL l) : plcs (plcs l l.length) (plcs l l.length).length = l := by
  have hp := plcs_ord h
  have hl := plcs_len l l.length
  refine List.ext_getElem (by rw [plcs_len, hl]) fun i h1 h2 => ?_
  have m1 := h.1 _ (getD_mem (d := 0) h2)
  obtain ⟨j, ej⟩ := Int.eq_ofNat_of_zero_le m1.1
  have e2 := plcs_at h h2 ej
  have e3 := plcs_at hp (i := j) (j := i) (by rw [hl]; omega) e2
  rw [List.getD_eq_getElem?_getD, List.getElem?_eq_getElem h1] at e3
  rw [List.getD_eq_getElem?_getD, List.getElem?_eq_getElem h2] at ej
  have e3 : (plcs (plcs l l.length) (plcs l l.length).length)[i] = (j : Int) := e3
  have ej : l[i] = (j : Int) := ej
  rw [e3, ej]
theorem oback_run {l : List Int} (hb : l.length ≤ 9223372036854775807) : runP tab 1171 [.sl 1 (ints l)] [] = some (.bool true, []) := by
  refine runP_fn t1171 rfl ?_
  have gt := exm_run
  by_cases h1 : 100 < l.length
  · simp (config := { maxSteps := 1000000 }) (disch := omega) only [go_sem, ↓reduceIte, Nat.reduceEqDiff, Nat.reduceAdd, Int.reduceToNat, reduceCtorEq, Nat.reduceLeDiff, Nat.reduceSub, Nat.reduceDiv, Nat.reduceMod, Nat.reduceMul, d1171]
  have g1 := places_run1 (l := l) (by omega)
  have g2 := isord_run (l := l) (n := (l.length : Int)) (by omega)
  rw [isN_self] at g2
  unfold plA at g1
  cases ho : isO l with
  | false =>
    rw [ho, if_neg (by simp)] at g1
    rw [ho] at g2
    simp (config := { maxSteps := 1000000 }) (disch := omega) only [go_sem, ↓reduceIte, Nat.reduceEqDiff, Nat.reduceAdd, Int.reduceToNat, reduceCtorEq, Nat.reduceLeDiff, Nat.reduceSub, Nat.reduceDiv, Nat.reduceMod, Nat.reduceMul, d1171, g1, g2, gt]
  | true =>
    rw [ho, if_pos rfl] at g1
    have h : OrdL l := by simpa [isO] using ho
    have hp := plcs_ord h
    have hk := plcs_back h
    have hl := plcs_len l l.length
    have hat := fun (i : Nat) (j : Nat) => plcs_at h (i := i) (j := j)
    have g3 := places_run1 (l := plcs l l.length) (by omega)
    rw [plA, if_pos (isO_yes hp), hk] at g3
    have g4 := isord_run (l := plcs l l.length) (n := (l.length : Int)) (by omega)
    rw [show isN (plcs l l.length) (l.length : Int) = true by simp [isN, hl, isO_yes hp]] at g4
    have g5 := ints_run (a := l) (b := l) (by omega) (by omega)
    rw [beq_self_eq_true] at g5
    have hm := fun (i : Nat) (hi : i < l.length) => h.1 _ (getD_mem (d := 0) hi)
    generalize plcs l l.length = p at *
    simp (config := { maxSteps := 1000000 }) (disch := omega) only [go_sem, ↓reduceIte, Nat.reduceEqDiff, Nat.reduceAdd, Int.reduceToNat, reduceCtorEq, Nat.reduceLeDiff, Nat.reduceSub, Nat.reduceDiv, Nat.reduceMod, Nat.reduceMul, d1171, g1, g3]
    refine Ev_loop0 (fun i => ⟨[(0, .sl 1 (ints l)), (3, .own 1 0), (5, .own 1 1), (6, .int .i64 0), (7, .int .i64 (i : Int))], [.row false (ints p), .row false (ints l)], 0, [(0, 2, [0, 3, 5, 6, 7], [(3, 0), (5, 1)])]⟩) l.length rfl (fun i hi => ?_) ?_
    · obtain ⟨m1, m2⟩ := hm i hi
      obtain ⟨j, ej⟩ := Int.eq_ofNat_of_zero_le m1
      have e2 := hat i j hi ej
      rw [ej] at m1 m2
      simp (config := { maxSteps := 1000000 }) (disch := omega) only [go_sem, ↓reduceIte, Nat.reduceEqDiff, Nat.reduceAdd, Int.reduceToNat, reduceCtorEq, Nat.reduceLeDiff, Nat.reduceSub, Nat.reduceDiv, Nat.reduceMod, Nat.reduceMul, d1171_b0, ej, e2]
    · simp (config := { maxSteps := 1000000 }) (disch := omega) only [go_sem, ↓reduceIte, Nat.reduceEqDiff, Nat.reduceAdd, Int.reduceToNat, reduceCtorEq, Nat.reduceLeDiff, Nat.reduceSub, Nat.reduceDiv, Nat.reduceMod, Nat.reduceMul, d1171_b0, gt, g4, g5]
end Go.Proofs.Ytjebbkpbaglooaa
