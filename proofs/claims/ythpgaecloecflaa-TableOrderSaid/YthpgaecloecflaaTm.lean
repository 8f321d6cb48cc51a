/- Layer 14's laws: TableKeys. -/
import Derived.Test.YthpgaecloecflaaTl
import Derived.Test.YthpgaecloecflaaTf
namespace Go.Proofs.Ythpgaecloecflaa
set_option linter.unusedSimpArgs false
set_option linter.unusedVariables false
set_option maxHeartbeats 4000000
set_option maxRecDepth 100000
theorem lessK_run (x y : Ky) : runP tab 1045 [.agg (kyC x), .agg (kyC y)] [] = some (.bool (ltT x y), []) := by
  refine runP_fn t1045 rfl ?_
  by_cases h1 : x.s < y.s
  · have e : ltT x y = true := by simp [ltT]; omega
    rw [e]; simp (config := { maxSteps := 1000000 }) (disch := omega) only [go_sem, ↓reduceIte, Nat.reduceEqDiff, Nat.reduceAdd, Int.reduceToNat, reduceCtorEq, Nat.reduceLeDiff, Nat.reduceSub, Nat.reduceDiv, Nat.reduceMod, Nat.reduceMul, d1045, kyC]
  by_cases h2 : x.s = y.s
  case neg =>
    have e : ltT x y = false := by simp [ltT]; omega
    rw [e]; simp (config := { maxSteps := 1000000 }) (disch := omega) only [go_sem, ↓reduceIte, Nat.reduceEqDiff, Nat.reduceAdd, Int.reduceToNat, reduceCtorEq, Nat.reduceLeDiff, Nat.reduceSub, Nat.reduceDiv, Nat.reduceMod, Nat.reduceMul, d1045, kyC]
  by_cases h3 : x.d < y.d
  · have e : ltT x y = true := by simp [ltT]; omega
    rw [e]; simp (config := { maxSteps := 1000000 }) (disch := omega) only [go_sem, ↓reduceIte, Nat.reduceEqDiff, Nat.reduceAdd, Int.reduceToNat, reduceCtorEq, Nat.reduceLeDiff, Nat.reduceSub, Nat.reduceDiv, Nat.reduceMod, Nat.reduceMul, d1045, kyC, h2]
  by_cases h4 : x.d = y.d
  case neg =>
    have e : ltT x y = false := by simp [ltT]; omega
    rw [e]; simp (config := { maxSteps := 1000000 }) (disch := omega) only [go_sem, ↓reduceIte, Nat.reduceEqDiff, Nat.reduceAdd, Int.reduceToNat, reduceCtorEq, Nat.reduceLeDiff, Nat.reduceSub, Nat.reduceDiv, Nat.reduceMod, Nat.reduceMul, d1045, kyC, h2]
  by_cases h5 : x.v < y.v
  · have e : ltT x y = true := by simp [ltT]; omega
    rw [e]; simp (config := { maxSteps := 1000000 }) (disch := omega) only [go_sem, ↓reduceIte, Nat.reduceEqDiff, Nat.reduceAdd, Int.reduceToNat, reduceCtorEq, Nat.reduceLeDiff, Nat.reduceSub, Nat.reduceDiv, Nat.reduceMod, Nat.reduceMul, d1045, kyC, h2, h4]
  · have e : ltT x y = false := by simp [ltT]; omega
    rw [e]; simp (config := { maxSteps := 1000000 }) (disch := omega) only [go_sem, ↓reduceIte, Nat.reduceEqDiff, Nat.reduceAdd, Int.reduceToNat, reduceCtorEq, Nat.reduceLeDiff, Nat.reduceSub, Nat.reduceDiv, Nat.reduceMod, Nat.reduceMul, d1045, kyC, h2, h4]
def kyT (P : List Pl) : List Ky := sorted ltT (kyO P)
theorem kyO_nodup {P : List Pl} (h : Ring P) : (kyO P).Nodup := by
  unfold kyO List.Nodup
  rw [List.pairwise_map, List.pairwise_filter]
  refine List.pairwise_iff_getElem.2 fun i j hi hj hij hu hv e => ?_
  rw [at_get hi] at hu e
  rw [at_get hj] at hv e
  have := RH_uni h hi hj (by omega) (by omega) hu hv e
  omega
theorem kyT_asc {P : List Pl} (h : Ring P) : asc ltT (kyT P) := by
  have h1 := sorted_srtd ordrT (kyO P)
  have h2 : (sorted ltT (kyO P)).Nodup := (sorted_perm _).nodup_iff.2 (kyO_nodup h)
  refine List.Pairwise.imp₂ (R := fun x y => ltT y x = false) (S := fun x y : Ky => x ≠ y) (fun x y hx hy => ?_) h1 h2
  cases hl : ltT x y with
  | true => rfl
  | false => exact absurd (ordrT.tri x y hl hx) hy
theorem kyT_len (P : List Pl) : (kyT P).length = usN P := by
  unfold kyT usN kyO
  rw [sorted_len, List.length_map, List.countP_eq_length_filter]
theorem kyT_mem {P : List Pl} (h : Ring P) (k : Ky) : k ∈ kyT P ↔ (val P k).isSome = true := by
  unfold kyT
  rw [(sorted_perm _).mem_iff]
  unfold kyO
  rw [List.mem_map, Option.isSome_iff_exists]
  constructor
  · rintro ⟨x, hx, rfl⟩
    obtain ⟨h1, h2⟩ := List.mem_filter.1 hx
    obtain ⟨i, hi, e⟩ := List.getElem_of_mem h1
    refine ⟨x.n, (val_some h).2 ⟨i, hi, ?_⟩⟩
    rw [← at_get hi, e]
    obtain ⟨u, q, n⟩ := x
    simp only at h2
    rw [h2]
  · rintro ⟨n, hn⟩
    obtain ⟨i, hi, e⟩ := (val_some h).1 hn
    refine ⟨⟨true, k, n⟩, List.mem_filter.2 ⟨?_, rfl⟩, rfl⟩
    rw [← e, ← at_get hi]; exact List.getElem_mem hi
theorem kyT_lt {P : List Pl} (h : Ring P) {i : Nat} (hi : i + 1 < (kyT P).length) : ltT ((kyT P).getD i default) ((kyT P).getD (i + 1) default) = true := by
  have := List.pairwise_iff_getElem.1 (kyT_asc h) i (i + 1) (by omega) hi (by omega)
  rw [List.getD_eq_getElem?_getD, List.getD_eq_getElem?_getD, List.getElem?_eq_getElem hi, List.getElem?_eq_getElem (by omega)]
  exact this
theorem keysT_run {m ks : Int} {P : List Pl} (hl : P.length ≤ 1000) : runP tab 1043 [tbI m ks P] [] = some (.vec 3 (kys (kyT P)), []) := keys_run hl
def ky7 (K : List Ky) : Nat → List Ky
  | 0 => K
  | i + 1 => (ky7 K i).set i { (ky7 K i).getD i default with v := -7 }
theorem ky7_len (K : List Ky) : ∀ i, (ky7 K i).length = K.length
  | 0 => rfl
  | i + 1 => by rw [ky7, List.length_set, ky7_len K i]
theorem kys_setv (x : Int) : ∀ (l : List Ky) (i : Nat), i < l.length → (kys l).set (i * 3 + 2) (.int .i64 x) = kys (l.set i { l.getD i default with v := x })
  | [], i, h => by simp at h
  | y :: l, 0, h => rfl
  | y :: l, i + 1, h => by
    have ih := kys_setv x l i (by simpa using h)
    rw [List.set_cons_succ, kys_cons, List.getD_cons_succ, kys_cons, ← ih, show (i + 1) * 3 + 2 = i * 3 + 2 + 1 + 1 + 1 by omega]
    simp only [List.set_cons_succ]
def tyS (l : List Opr) (k : Ky) (m : Nat) (f : Nat → Int × List Pl) (i : Nat) : St := ⟨[(0, .int .i64 m), (1, .sl 5 (ops l)), (5, .ref 0 0), (7, .ref 1 0), (9, .int .i64 (i : Int))], [.row false (kyC k), tbB m (f i).1 (f i).2], 0, [(0, 2, [0, 1, 5, 7, 9], [(5, 0), (7, 1)])]⟩
def tyM0 : List Mark := [(0, 2, [0, 1, 5, 7, 9], [(5, 0), (7, 1)])]
def inB (K : List Ky) (k : Ky) : Bool := K.any fun q => decide (q = k)
theorem inB_snoc {K : List Ky} {k : Ky} {i : Nat} (h : i < K.length) : inB (K.take (i + 1)) k = (inB (K.take i) k || decide (K.getD i default = k)) := by
  unfold inB; rw [take_snoc default h, List.any_append]; simp
def tyI (k : Ky) (m : Nat) (ks : Int) (P : List Pl) (K : List Ky) (i : Nat) : St := ⟨[(0, .int .i64 m), (5, .ref 0 0), (7, .ref 1 0), (10, .own 3 2), (11, .bool (inB (K.take i) k)), (12, .int .i64 (i : Int))], [.row false (kyC k), tbB m ks P, .row false (kys K)], 0, (1, 3, [0, 5, 7, 10, 11, 12], [(5, 0), (7, 1), (10, 2)]) :: tyM0⟩
def tyJ (k : Ky) (m : Nat) (ks : Int) (P : List Pl) (K : List Ky) (b c : Bool) (i : Nat) : St := ⟨[(0, .int .i64 m), (7, .ref 1 0), (10, .own 3 2), (11, .bool b), (16, .bool c), (17, .int .i64 (i : Int))], [.row false (kyC k), tbB m ks P, .row false (kys (ky7 K i))], 0, (2, 3, [0, 7, 10, 11, 16, 17], [(7, 1), (10, 2)]) :: (1, 3, [0, 5, 7, 10, 11, 12], [(5, 0), (7, 1), (10, 2)]) :: tyM0⟩
theorem tkeys_law {mo : Int} {l : List Opr} {k : Ky} (hl : l.length ≤ 9223372036854775807) : runP tab 1030 [.int .i64 mo, .sl 5 (ops l), .agg (kyC k)] [] = some (.bool true, []) := by
  refine runP_fn t1030 rfl ?_
  have gt := tables_run
  have L := ops_len l
  have e0 : ∀ x y : Int, (x == y) = decide (x = y) := fun x y => by rw [Bool.eq_iff_iff]; simp
  by_cases hm : mo < 1 ∨ 400 < mo
  · have gn := new_no hm
    simp only [kyC]
    simp (config := { maxSteps := 1000000 }) (disch := omega) only [go_sem, ↓reduceIte, Nat.reduceEqDiff, Nat.reduceAdd, Int.reduceToNat, reduceCtorEq, Nat.reduceLeDiff, Nat.reduceSub, Nat.reduceDiv, Nat.reduceMod, Nat.reduceMul, d1030, gn, gt]
  obtain ⟨m, rfl⟩ : ∃ m : Nat, mo = m := ⟨mo.toNat, by omega⟩
  have gn := new_run (m := m) (by omega) (by omega)
  by_cases hlen : l.length ≤ 200
  case neg =>
    simp only [kyC]
    simp (config := { maxSteps := 1000000 }) (disch := omega) only [go_sem, ↓reduceIte, Nat.reduceEqDiff, Nat.reduceAdd, Int.reduceToNat, reduceCtorEq, Nat.reduceLeDiff, Nat.reduceSub, Nat.reduceDiv, Nat.reduceMod, Nat.reduceMul, d1030, gn, gt]
  obtain ⟨f, f0, fT, fR⟩ := script_ex (m := m) (by omega) (by omega) l
  simp only [kyC]
  simp (config := { maxSteps := 1000000 }) (disch := omega) only [go_sem, ↓reduceIte, Nat.reduceEqDiff, Nat.reduceAdd, Int.reduceToNat, reduceCtorEq, Nat.reduceLeDiff, Nat.reduceSub, Nat.reduceDiv, Nat.reduceMod, Nat.reduceMul, d1030, gn, gt]
  refine Ev_loop0 (fun i => tyS l k m f i) l.length (by simp [tyS, f0, tbB, kyC]) (fun i hi => ?_) ?_
  · have e := ops_rdc hi
    have g := fR i hi
    unfold tyS
    generalize f i = s at *
    generalize f (i + 1) = s' at *
    generalize l.getD i default = op at *
    simp only [opC, tbB, kyC] at e g ⊢
    simp (config := { maxSteps := 1000000 }) (disch := omega) only [go_sem, ↓reduceIte, Nat.reduceEqDiff, Nat.reduceAdd, Int.reduceToNat, reduceCtorEq, Nat.reduceLeDiff, Nat.reduceSub, Nat.reduceDiv, Nat.reduceMod, Nat.reduceMul, d1030_b0, L, e, g]
  · have T := fT l.length (Nat.le_refl _)
    unfold tyS
    clear fR fT f0
    generalize f l.length = s at *
    obtain ⟨ks, P⟩ := s
    simp only at T ⊢
    have hP : P.length ≤ 1000 := by have := T.len; have := T.m4; omega
    have b1 := keysT_run (m := (m : Int)) (ks := ks) (P := P) hP
    have b2 := getV T k
    have b3 := tlen_run (m := (m : Int)) (ks := ks) (P := P)
    have hK := kyT_len P
    have hmem := kyT_mem T.ring
    have hlt := fun i => kyT_lt (i := i) T.ring
    have hget : ∀ i, i < (kyT P).length → ∃ n, runP tab 1037 [tbI m ks P, .agg (kyC ((kyT P).getD i default))] [] = some (.tup [.int .i64 n, .bool true], []) := fun i hi => by
      have h1 : (kyT P).getD i default ∈ kyT P := getD_mem' hi
      obtain ⟨n, hn⟩ := Option.isSome_iff_exists.1 ((hmem _).1 h1)
      refine ⟨n, ?_⟩
      have := getV T ((kyT P).getD i default)
      rw [hn] at this; exact this
    have hc := T.cnt
    have hle := T.le
    have hin : inB (kyT P) k = (val P k).isSome := by
      rw [Bool.eq_iff_iff, ← hmem k, inB, List.any_eq_true]
      constructor
      · rintro ⟨q, h1, h2⟩; exact of_decide_eq_true h2 ▸ h1
      · intro h; exact ⟨k, h, by simp⟩
    clear hmem
    generalize kyT P = K at *
    have LK := kys_len K
    simp only [tbB, tbI, kyC] at b1 b2 b3 hget ⊢
    simp (config := { maxSteps := 1000000 }) (disch := omega) only [go_sem, ↓reduceIte, Nat.reduceEqDiff, Nat.reduceAdd, Int.reduceToNat, reduceCtorEq, Nat.reduceLeDiff, Nat.reduceSub, Nat.reduceDiv, Nat.reduceMod, Nat.reduceMul, d1030_b0, L, b1, LK]
    refine Ev_loop0 (fun i => tyI k m ks P K i) K.length (by simp [tyI, tyM0, inB, tbB, kyC]) (fun i hi => ?_) ?_
    · obtain ⟨n, g⟩ := hget i hi
      have e := kys_at hi
      have e5 : 0 < i → ((i : Int) - 1).toNat = i - 1 := fun _ => by omega
      have e6 : 0 < i → rdc (kys (K.drop (i - 1))) (some 3) = some (.agg (kyC (K.getD (i - 1) default))) := fun h => kys_at (by omega)
      have e7 : 0 < i → ltT (K.getD (i - 1) default) (K.getD i default) = true := fun h => by
        have := hlt (i - 1) (by omega)
        rwa [show i - 1 + 1 = i by omega] at this
      have gl := lessK_run (K.getD (i - 1) default) (K.getD i default)
      have ek := (ke_eq (K.getD i default) k).symm
      unfold tyI
      rw [inB_snoc hi]
      generalize inB (K.take i) k = q at *
      generalize decide (K.getD i default = k) = q2 at *
      generalize K.getD i default = a at *
      generalize K.getD (i - 1) default = a' at *
      simp only [tbB, kyC] at e e6 g gl ⊢
      by_cases hz : 0 < i
      · have e5 := e5 hz
        have e6 := e6 hz
        rw [e7 hz] at gl
        cases q <;> simp (config := { maxSteps := 1000000 }) (disch := omega) only [go_sem, ↓reduceIte, Nat.reduceEqDiff, Nat.reduceAdd, Int.reduceToNat, reduceCtorEq, Nat.reduceLeDiff, Nat.reduceSub, Nat.reduceDiv, Nat.reduceMod, Nat.reduceMul, d1030_b1, tyM0, LK, e, g, e5, e6, gl, aeqL, aeq, encA, digA, e0, ek, Bool.true_or, Bool.false_or]
      · obtain rfl : i = 0 := by omega
        rw [List.drop_zero] at e
        cases q <;> simp (config := { maxSteps := 1000000 }) (disch := omega) only [go_sem, ↓reduceIte, Nat.reduceEqDiff, Nat.reduceAdd, Int.reduceToNat, reduceCtorEq, Nat.reduceLeDiff, Nat.reduceSub, Nat.reduceDiv, Nat.reduceMod, Nat.reduceMul, d1030_b1, tyM0, LK, e, g, aeqL, aeq, encA, digA, e0, ek, Bool.true_or, Bool.false_or]
    · unfold tyI
      rw [List.take_length]
      rw [hin]
      clear hget hlt hin
      generalize val P k = vo at *
      have fin : ∀ q : Bool, Ev tab (.loop d1030_b2) (tyJ k m ks P K q q 0) (fun x st => x = .exit 4 ∧ st = ⟨[(101, .bool false), (100, .int .i64 K.length), (99, .own 3 2), (98, .int .i64 K.length)] ++ (tyJ k m ks P K q q K.length).env, (tyJ k m ks P K q q K.length).hp, 0, (tyJ k m ks P K q q K.length).mks⟩) := fun q => by
        refine Ev_loop0 (fun i => tyJ k m ks P K q q i) K.length rfl (fun i hi => ?_) ?_
        · have ps := kys_setv (-7) (ky7 K i) i (by rw [ky7_len]; exact hi)
          have L7 := kys_len (ky7 K i)
          rw [ky7_len] at L7
          have p3 : allL (pidlt 3) ((kys (ky7 K i)).set (i * 3 + 2) (.int .i64 (-7))) = true := by rw [ps]; exact kys_idlt' _ _
          unfold tyJ
          rw [ky7, ← ps]
          generalize ky7 K i = K7 at *
          simp only [tbB, kyC] at ⊢
          simp (config := { maxSteps := 1000000 }) (disch := omega) only [go_sem, ↓reduceIte, Nat.reduceEqDiff, Nat.reduceAdd, Int.reduceToNat, reduceCtorEq, Nat.reduceLeDiff, Nat.reduceSub, Nat.reduceDiv, Nat.reduceMod, Nat.reduceMul, d1030_b2, tyM0, L7, p3]
        · have L7 := kys_len (ky7 K K.length)
          rw [ky7_len] at L7
          unfold tyJ
          generalize ky7 K K.length = K7 at *
          simp only [tbB, kyC] at ⊢
          simp (config := { maxSteps := 1000000 }) (disch := omega) only [go_sem, ↓reduceIte, Nat.reduceEqDiff, Nat.reduceAdd, Int.reduceToNat, reduceCtorEq, Nat.reduceLeDiff, Nat.reduceSub, Nat.reduceDiv, Nat.reduceMod, Nat.reduceMul, d1030_b2, tyM0, L7, List.cons_append, List.nil_append]
      have L7 := kys_len (ky7 K K.length)
      rw [ky7_len] at L7
      simp only [tbB, kyC, getA] at b2 ⊢
      cases vo <;>
      · simp only [Option.isSome] at b2 ⊢
        simp (config := { maxSteps := 1000000 }) (disch := omega) only [go_sem, ↓reduceIte, Nat.reduceEqDiff, Nat.reduceAdd, Int.reduceToNat, reduceCtorEq, Nat.reduceLeDiff, Nat.reduceSub, Nat.reduceDiv, Nat.reduceMod, Nat.reduceMul, d1030_b1, tyM0, LK, b2]
        refine Ev_mono (fin _) ?_
        rintro x st ⟨rfl, rfl⟩
        unfold tyJ
        generalize ky7 K K.length = K7 at *
        simp only [tbB, kyC] at ⊢
        simp (config := { maxSteps := 1000000 }) (disch := omega) only [go_sem, ↓reduceIte, Nat.reduceEqDiff, Nat.reduceAdd, Int.reduceToNat, reduceCtorEq, Nat.reduceLeDiff, Nat.reduceSub, Nat.reduceDiv, Nat.reduceMod, Nat.reduceMul, tyM0, L7, LK, gt, b1, b3, List.cons_append, List.nil_append]
end Go.Proofs.Ythpgaecloecflaa
