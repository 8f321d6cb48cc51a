/- Layer 16: MailHomes. -/
import Derived.Test.YtpbdbhpneihopaaYn
namespace Go.Proofs.Ytpbdbhpneihopaa
set_option linter.unusedSimpArgs false
set_option linter.unusedVariables false
set_option maxHeartbeats 4000000
set_option maxRecDepth 100000
theorem part_perm {α : Type} (h : α → Nat) : ∀ (w : Nat) (l : List α), (∀ x ∈ l, h x < w) → ((List.range w).map fun u => l.filter fun x => decide (h x = u)).flatten.Perm l
  | 0, l, hl => by
    cases l with
    | nil => simp
    | cons x l => exact absurd (hl x (by simp)) (Nat.not_lt_zero _)
  | w + 1, l, hl => by
    rw [List.range_succ, List.map_append, List.flatten_append]
    have ih := part_perm h w (l.filter fun x => !decide (h x = w)) (fun x hx => by
      simp only [List.mem_filter, Bool.not_eq_true', decide_eq_false_iff_not] at hx
      have := hl x hx.1
      omega)
    have e : (List.range w).map (fun u => (l.filter fun x => !decide (h x = w)).filter fun x => decide (h x = u)) = (List.range w).map fun u => l.filter fun x => decide (h x = u) := by
      refine List.map_congr_left fun u hu => ?_
      rw [List.mem_range] at hu
      rw [List.filter_filter]
      refine List.filter_congr fun x _ => ?_
      by_cases hx : h x = u
      · have : ¬ h x = w := by omega
        simp [hx]; omega
      · simp [hx]
    rw [e] at ih
    simp only [List.map_cons, List.map_nil, List.flatten_cons, List.flatten_nil, List.append_nil]
    refine ((ih.append_right _).trans List.perm_append_comm).trans ?_
    exact List.filter_append_perm (fun x => decide (h x = w)) l
theorem spR_perm {l : List Ml} {w : Nat} (hw : 1 ≤ w ∧ w ≤ 16) (ho : okMs l = true) : (spR l w l.length).flatten.Perm l := by
  unfold spR
  rw [List.take_length]
  have e : (List.range w).map (fun u : Nat => l.filter fun m => decide (hmR m.v w = (u : Int))) = (List.range w).map fun u => l.filter fun m => decide ((hmR m.v w).toNat = u) := by
    refine List.map_congr_left fun u hu => List.filter_congr fun m hm => ?_
    obtain ⟨x, hx, hh, _⟩ := home_nat hw (okMs_mem ho m hm)
    rw [hh, decide_eq_decide]
    omega
  rw [e]
  exact part_perm (fun m => (hmR m.v w).toNat) w l fun m hm => by
    obtain ⟨x, hx, hh, _⟩ := home_nat hw (okMs_mem ho m hm)
    rw [hh]; simpa using hx
theorem spR_home {l : List Ml} {w u : Nat} (hw : 1 ≤ w ∧ w ≤ 16) (hu : u < w) (ho : okMs l = true) : ∀ m ∈ (spR l w l.length).getD u [], hmR m.v w = (u : Int) ∧ hmOk m.v w = true := by
  intro m hm
  rw [spR_at hu, List.take_length, List.mem_filter] at hm
  obtain ⟨x, hx, hh, hk⟩ := home_nat hw (okMs_mem ho m hm.1)
  exact ⟨of_decide_eq_true hm.2, hk⟩
theorem getD_memM {l : List Ml} {k : Nat} (h : k < l.length) : l.getD k default ∈ l := by
  rw [List.getD_eq_getElem?_getD, List.getElem?_eq_getElem h]; exact List.getElem_mem h
theorem set_cut1 {l : List AV} {u : Nat} {x : AV} (h : u < l.length) : ((l.set u x).drop u).take 1 = [x] := by
  rw [List.drop_eq_getElem_cons (by simpa using h)]; simp
def mhS (l : List Ml) (w : Nat) (R : List (List Ml)) (i : Nat) : St := ⟨[(0, .sl 4 (mls l)), (1, .int .i64 (w : Int)), (5, .own 1 0), (7, .own 4 1), (8, .int .i64 (i : Int))], [.row false (ocV R), .row false (mls (R.take i).flatten)], 0, [(0, 2, [0, 1, 5, 7, 8], [(5, 0), (7, 1)])]⟩
def mkS (l : List Ml) (w : Nat) (R : List (List Ml)) (i k : Nat) : St := ⟨[(0, .sl 4 (mls l)), (1, .int .i64 (w : Int)), (5, .own 1 0), (7, .own 4 1), (8, .int .i64 (i : Int)), (9, .int .i64 (k : Int))], [.row false (ocV R), .row false (mls (R.take i).flatten)], 0, [(1, 2, [0, 1, 5, 7, 8, 9], [(5, 0), (7, 1)]), (0, 2, [0, 1, 5, 7, 8], [(5, 0), (7, 1)])]⟩
theorem mk_step {l : List Ml} {w : Nat} {R : List (List Ml)} {i k : Nat} (hR : R.length = w) (hw : 1 ≤ w ∧ w ≤ 16) (hi : i < w) (hk : k < (R.getD i []).length) (hb : (R.getD i []).length ≤ 100) (ha : ((R.take i).flatten).length ≤ 100) (hh : ∀ m ∈ R.getD i [], hmR m.v w = (i : Int) ∧ hmOk m.v w = true) : Ev tabM d1607_b1 (mkS l w R i k) (fun x st => x = .normal ∧ st = mkS l w R i (k + 1)) := by
  have c1 := ocV_cut (R := R) (u := i) (by omega)
  have es := ocV_self (R := R) (u := i) (by omega)
  have hn : R.getD i [] ≠ [] := by intro e; rw [e] at hk; simp at hk
  have hP := ocV_pkset (n := 2) (id := 2) (hp := [.dead, .row false (mls (R.take i).flatten), .row false (mls (R.getD i []))]) (by omega) (R := R) (u := i) (by omega) rfl hn rfl
  have m1 : (ocV R).length = w := by rw [ocV_len]; exact hR
  have hI := allL_setno (p := pidlt 2) (x := .own 4 2) rfl (cs := ocV R) (u := i) (by omega)
  have er1 := set_rdc (l := ocV R) (u := i) (x := .own 4 2) (by omega)
  have hm := hh ((R.getD i []).getD k default) (getD_memM hk)
  have er2 := set_cut1 (l := ocV R) (u := i) (x := .own 4 2) (by omega)
  have g := up (home_run (v := ((R.getD i []).getD k default).v) (w := (w : Int)))
  rw [hm.1, hm.2] at g
  have q : rdc (List.drop (k * 4 + 2) (mls (R.getD i []))) none = some (.int .i64 ((R.getD i []).getD k default).v) := by
    rw [← List.drop_drop, mls_drop, mls_open hk]; rfl
  simp only [mkS]
  generalize R.getD i [] = r at *
  generalize (R.take i).flatten = A at *
  have lr := mls_len r
  simp only [rcV, if_neg hn] at c1
  generalize r.getD k default = m at *
  simp (config := { maxSteps := 1000000 }) (disch := omega) only [go_sem, ↓reduceIte, Nat.reduceEqDiff, Nat.reduceAdd, Int.reduceToNat, reduceCtorEq, Nat.reduceLeDiff, Nat.reduceSub, Nat.reduceDiv, Nat.reduceMod, Nat.reduceMul, d1607_b1, c1, er1, er2, List.set_set, m1, hP, hI, q, g, lr]
theorem mapL_setv (f : AV → AV) (x : AV) : ∀ (cs : List AV) (u : Nat), mapL f (cs.set u x) = (mapL f cs).set u (x.mapv f)
  | [], _ => rfl
  | c :: cs, 0 => rfl
  | c :: cs, u + 1 => by
    simp only [List.set_cons_succ, mapL, mapL_setv f x cs u]
theorem mh_step {l : List Ml} {w : Nat} {R : List (List Ml)} {i : Nat} (hR : R.length = w) (hw : 1 ≤ w ∧ w ≤ 16) (hi : i < w) (hb : (R.getD i []).length ≤ 100) (ha : ((R.take i).flatten).length ≤ 100) (hh : ∀ m ∈ R.getD i [], hmR m.v w = (i : Int) ∧ hmOk m.v w = true) : Ev tabM d1607_b0 (mhS l w R i) (fun x st => x = .normal ∧ st = mhS l w R (i + 1)) := by
  have hst := fun k (hk : k < (R.getD i []).length) => mk_step (l := l) hR hw hi hk hb ha hh
  have hf := flat_succ (rows := R) (i := i) (by omega)
  have c1 := ocV_cut (R := R) (u := i) (by omega)
  have es := ocV_self (R := R) (u := i) (by omega)
  have m1 : (ocV R).length = w := by rw [ocV_len]; exact hR
  have hI := allL_setno (p := pidlt 2) (x := .own 4 2) rfl (cs := ocV R) (u := i) (by omega)
  have hP := fun (A : List AV) (hne : R.getD i [] ≠ []) => ocV_pkset (n := 2) (id := 2) (hp := [.dead, .row false A, .row false (mls (R.getD i [])), .dead]) (by omega) (R := R) (u := i) (by omega) rfl hne rfl
  have lA := mls_len (R.take i).flatten
  simp only [mhS]
  rw [hf, ← mls_app]
  simp (config := { maxSteps := 1000000 }) (disch := omega) only [go_sem, ↓reduceIte, Nat.reduceEqDiff, Nat.reduceAdd, Int.reduceToNat, reduceCtorEq, Nat.reduceLeDiff, Nat.reduceSub, Nat.reduceDiv, Nat.reduceMod, Nat.reduceMul, d1607_b0]
  refine Ev_loop0 (mkS l w R i) (R.getD i []).length rfl hst ?_
  simp only [mkS]
  clear hst
  generalize (R.take i).flatten = A at *
  generalize hr : R.getD i [] = r at *
  have lr := mls_len r
  by_cases hn : r = []
  · subst hn
    simp only [rcV, if_true] at c1 es
    have er1 := set_rdc (l := ocV R) (u := i) (x := .nils) (by omega)
    rw [es] at er1
    simp (config := { maxSteps := 1000000 }) (disch := omega) only [go_sem, ↓reduceIte, Nat.reduceEqDiff, Nat.reduceAdd, Int.reduceToNat, reduceCtorEq, Nat.reduceLeDiff, Nat.reduceSub, Nat.reduceDiv, Nat.reduceMod, Nat.reduceMul, d1607_b1, c1, es, er1, m1, List.length_nil]
  · simp only [rcV, if_neg hn] at c1
    have er1 := set_rdc (l := ocV R) (u := i) (x := .own 4 2) (by omega)
    have er2 := set_cut1 (l := ocV R) (u := i) (x := .own 4 2) (by omega)
    have hP := fun A => hP A hn
    have hS : mapL (ren1 (swp 3 1)) ((ocV R).set i (.own 4 2)) = (ocV R).set i (.own 4 2) := by rw [mapL_setv, ocV_ren']; rfl
    simp (config := { maxSteps := 1000000 }) (disch := omega) only [go_sem, ↓reduceIte, Nat.reduceEqDiff, Nat.reduceAdd, Int.reduceToNat, reduceCtorEq, Nat.reduceLeDiff, Nat.reduceSub, Nat.reduceDiv, Nat.reduceMod, Nat.reduceMul, d1607_b1, c1, er1, er2, List.set_set, m1, hP, hI, lr, hS]
theorem homes_law {l : List Ml} {w : Int} (hl : l.length ≤ 9223372036854775807) (hw : I64 w) : runP tabM 1607 [.sl 4 (mls l), .int .i64 w] [] = some (.bool true, []) := by
  refine runP_fn (show tabM 1607 = _ from t1607) rfl ?_
  have L := mls_len l
  have Ld : l.length * 4 / 4 = l.length := by omega
  obtain ⟨hw1, hw2⟩ := hw
  by_cases h1 : 100 < l.length
  · simp (config := { maxSteps := 1000000 }) (disch := omega) only [go_sem, ↓reduceIte, Nat.reduceEqDiff, Nat.reduceAdd, Int.reduceToNat, reduceCtorEq, Nat.reduceLeDiff, Nat.reduceSub, Nat.reduceDiv, Nat.reduceMod, Nat.reduceMul, d1607, L, Ld]
  have gm := mails_run
  by_cases hb : ¬ (1 ≤ w ∧ w ≤ 16) ∨ okMs l = false
  · have g := up (split_bad (l := l) (by omega) hb)
    simp (config := { maxSteps := 1000000 }) (disch := omega) only [go_sem, ↓reduceIte, Nat.reduceEqDiff, Nat.reduceAdd, Int.reduceToNat, reduceCtorEq, Nat.reduceLeDiff, Nat.reduceSub, Nat.reduceDiv, Nat.reduceMod, Nat.reduceMul, d1607, L, Ld, g, gm]
  · obtain ⟨hw16, ho⟩ : (1 ≤ w ∧ w ≤ 16) ∧ okMs l = true := by
      constructor
      · exact Classical.byContradiction fun h => hb (.inl h)
      · cases h : okMs l with
        | true => rfl
        | false => exact absurd (.inr h) hb
    obtain ⟨k, rfl⟩ : ∃ k : Nat, w = k := ⟨w.toNat, by omega⟩
    have hk : 1 ≤ k ∧ k ≤ 16 := by omega
    have g := up (split_run (l := l) (by omega) hk ho)
    have hR := spR_len l k l.length
    have hp := spR_perm hk ho
    have hfl := hp.length_eq
    have hrow := fun i => spR_row l k l.length i
    have hh := fun i (hi : i < k) => spR_home (l := l) hk hi ho
    have gc1 := cmb_run (l := (spR l k l.length).flatten) (by omega)
    rw [cmb_perm hp] at gc1
    have gc2 := cmb_run (l := l) (by omega)
    have c2 := cmb_len l
    have gs := up (same16_run (a := cmb l) (b := cmb l) (by omega) (by omega))
    rw [decide_eq_true rfl] at gs
    generalize spR l k l.length = R at *
    have m1 : (ocV R).length = k := by rw [ocV_len]; exact hR
    have hfle := fun i => flat_le (rows := R) (n := 100) (by omega) i
    have Lf := mls_len R.flatten
    have e0 : ocV R = ocV R := rfl
    simp (config := { maxSteps := 1000000 }) (disch := omega) only [go_sem, ↓reduceIte, Nat.reduceEqDiff, Nat.reduceAdd, Int.reduceToNat, reduceCtorEq, Nat.reduceLeDiff, Nat.reduceSub, Nat.reduceDiv, Nat.reduceMod, Nat.reduceMul, d1607, L, Ld, g]
    refine Ev_loop0 (mhS l k R) k (by simp [mhS, mls]) (fun i hi => mh_step hR hk hi (by have := hrow i; omega) (hfle i) (hh i hi)) ?_
    unfold mhS
    rw [List.take_of_length_le (by omega : R.length ≤ k)]
    simp (config := { maxSteps := 1000000 }) (disch := omega) only [go_sem, ↓reduceIte, Nat.reduceEqDiff, Nat.reduceAdd, Int.reduceToNat, reduceCtorEq, Nat.reduceLeDiff, Nat.reduceSub, Nat.reduceDiv, Nat.reduceMod, Nat.reduceMul, d1607_b0, m1, gm, Lf, hfl, L, Ld, gc1, gc2, gs]
end Go.Proofs.Ytpbdbhpneihopaa
