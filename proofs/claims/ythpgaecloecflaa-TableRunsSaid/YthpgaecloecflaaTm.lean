/- Layer 14's laws: TableKeys. -/
import Derived.Test.YthpgaecloecflaaTl
import Derived.Test.YthpgaecloecflaaTf
namespace Go.Proofs.Ythpgaecloecflaa
set_option linter.unusedSimpArgs false
set_option linter.unusedVariables false
set_option maxHeartbeats 4000000
set_option maxRecDepth 100000
theorem lessK_run (x y : Ky) : runP tab 1045 [.agg (kyC x), .agg (kyC y)] [] = some (.bool (ltT x y), []) := by
  refine runP_fn t1045 rfl ?_
  by_cases h1 : x.s < y.s
  · have e : ltT x y = true := by simp [ltT]; omega
    rw [e]; simp (config := { maxSteps := 1000000 }) (disch := omega) only [go_sem, ↓reduceIte, Nat.reduceEqDiff, Nat.reduceAdd, Int.reduceToNat, reduceCtorEq, Nat.reduceLeDiff, Nat.reduceSub, Nat.reduceDiv, Nat.reduceMod, Nat.reduceMul, d1045, kyC]
  by_cases h2 : x.s = y.s
  case neg =>
    have e : ltT x y = false := by simp [ltT]; omega
    rw [e]; simp (config := { maxSteps := 1000000 }) (disch := omega) only [go_sem, ↓reduceIte, Nat.reduceEqDiff, Nat.reduceAdd, Int.reduceToNat, reduceCtorEq, Nat.reduceLeDiff, Nat.reduceSub, Nat.reduceDiv, Nat.reduceMod, Nat.reduceMul, d1045, kyC]
  by_cases h3 : x.d < y.d
  · have e : ltT x y = true := by simp [ltT]; omega
    rw [e]; simp (config := { maxSteps := 1000000 }) (disch := omega) only [go_sem, ↓reduceIte, Nat.reduceEqDiff, Nat.reduceAdd, Int.reduceToNat, reduceCtorEq, Nat.reduceLeDiff, Nat.reduceSub, Nat.reduceDiv, Nat.reduceMod, Nat.reduceMul, d1045, kyC, h2]
  by_cases h4 : x.d = y.d
  case neg =>
    have e : ltT x y = false := by simp [ltT]; omega
    rw [e]; simp (config := { maxSteps := 1000000 }) (disch := omega) only [go_sem, ↓reduceIte, Nat.reduceEqDiff, Nat.reduceAdd, Int.reduceToNat, reduceCtorEq, Nat.reduceLeDiff, Nat.reduceSub, Nat.reduceDiv, Nat.reduceMod, Nat.reduceMul, d1045, kyC, h2]
  by_cases h5 : x.v < y.v
  · have e : ltT x y = true := by simp [ltT]; omega
    rw [e]; simp (config := { maxSteps := 1000000 }) (disch := omega) only [go_sem, ↓reduceIte, Nat.reduceEqDiff, Nat.reduceAdd, Int.reduceToNat, reduceCtorEq, Nat.reduceLeDiff, Nat.reduceSub, Nat.reduceDiv, Nat.reduceMod, Nat.reduceMul, d1045, kyC, h2, h4]
  · have e : ltT x y = false := by simp [ltT]; omega
    rw [e]; simp (config := { maxSteps := 1000000 }) (disch := omega) only [go_sem, ↓reduceIte, Nat.reduceEqDiff, Nat.reduceAdd, Int.reduceToNat, reduceCtorEq, Nat.reduceLeDiff, Nat.reduceSub, Nat.reduceDiv, Nat.reduceMod, Nat.reduceMul, d1045, kyC, h2, h4]
def kyT (P : List Pl) : List Ky := sorted ltT (kyO P)
theorem kyO_nodup {P : List Pl} (h : Ring P) : (kyO P).Nodup := by
  unfold kyO List.Nodup
  rw [List.pairwise_map, List.pairwise_filter]
  refine List.pairwise_iff_getElem.2 fun i j hi hj hij hu hv e => ?_
  rw [at_get hi] at hu e
  rw [at_get hj] at hv e
  have := RH_uni h hi hj (by omega) (by omega) hu hv e
  omega
theorem kyT_asc {P : List Pl} (h : Ring P) : asc ltT (kyT P) := by
  have h1 := sorted_srtd ordrT (kyO P)
  have h2 : (sorted ltT (kyO P)).Nodup := (sorted_perm _).nodup_iff.2 (kyO_nodup h)
  refine List.Pairwise.imp₂ (R := fun x y => ltT y x = false) (S := fun x y : Ky => x ≠ y) (fun x y hx hy => ?_) h1 h2
  cases hl : ltT x y with
  | true => rfl
  | false => exact absurd (ordrT.tri x y hl hx) hy
theorem kyT_len (P : List Pl) : (kyT P).length = usN P := by
  unfold kyT usN kyO
  rw [sorted_len, List.length_map, List.countP_eq_length_filter]
theorem kyT_mem {P : List Pl} (h : Ring P) (k : Ky) : k ∈ kyT P ↔ (val P k).isSome = true := by
  unfold kyT
  rw [(sorted_perm _).mem_iff]
  unfold kyO
  rw [List.mem_map, Option.isSome_iff_exists]
  constructor
  · rintro ⟨x, hx, rfl⟩
    obtain ⟨h1, h2⟩ := List.mem_filter.1 hx
    obtain ⟨i, hi, e⟩ := List.getElem_of_mem h1
    refine ⟨x.n, (val_some h).2 ⟨i, hi, ?_⟩⟩
    rw [← at_get hi, e]
    obtain ⟨u, q, n⟩ := x
    simp only at h2
    rw [h2]
  · rintro ⟨n, hn⟩
    obtain ⟨i, hi, e⟩ := (val_some h).1 hn
    refine ⟨⟨true, k, n⟩, List.mem_filter.2 ⟨?_, rfl⟩, rfl⟩
    rw [← e, ← at_get hi]; exact List.getElem_mem hi
theorem keysT_run {m ks : Int} {P : List Pl} (hl : P.length ≤ 1000) : runP tab 1043 [tbI m ks P] [] = some (.vec 3 (kys (kyT P)), []) := keys_run hl
end Go.Proofs.Ythpgaecloecflaa
