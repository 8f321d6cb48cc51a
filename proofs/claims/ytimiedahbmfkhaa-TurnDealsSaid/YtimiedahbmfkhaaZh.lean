/- Layer 17: TurnDeals. -/
import Derived.Test.YtimiedahbmfkhaaZf
namespace Go.Proofs.Ytimiedahbmfkhaa
set_option linter.unusedSimpArgs false
set_option linter.unusedVariables false
set_option maxHeartbeats 4000000
set_option maxRecDepth 100000
theorem up_one {m k : Nat} (hm : 0 < m) : ((k + 1) / m = k / m ∧ (k + 1) % m = k % m + 1 ∧ k % m + 1 < m) ∨ ((k + 1) / m = k / m + 1 ∧ (k + 1) % m = 0 ∧ k % m + 1 = m) := by
  have h1 := Nat.div_add_mod k m
  have h2 := Nat.mod_lt k hm
  by_cases h : k % m + 1 < m
  · left
    have e : k + 1 = m * (k / m) + (k % m + 1) := by omega
    refine ⟨?_, ?_, h⟩
    · conv => lhs; rw [e]
      rw [Nat.mul_add_div hm, Nat.div_eq_of_lt h]; rfl
    · conv => lhs; rw [e]
      rw [Nat.mul_add_mod, Nat.mod_eq_of_lt h]
  · right
    have e : k + 1 = m * (k / m) + m := by omega
    refine ⟨?_, ?_, by omega⟩
    · conv => lhs; rw [e]
      rw [Nat.mul_add_div hm, Nat.div_self hm]
    · conv => lhs; rw [e]
      rw [Nat.mul_add_mod, Nat.mod_self]
theorem deal_cnt {m : Nat} (hm : 0 < m) {v : Nat} (hv : v < m) : ∀ k : Nat, ((List.range k).filter fun j => j % m == v).length = k / m + (if v < k % m then 1 else 0)
  | 0 => by simp
  | k + 1 => by
    have ih := deal_cnt hm hv k
    rw [List.range_succ, List.filter_append, List.length_append, ih]
    have hx : ((List.filter (fun j => j % m == v) [k]).length) = if k % m = v then 1 else 0 := by
      by_cases h : k % m = v <;> simp [h]
    rw [hx]
    rcases up_one (k := k) hm with ⟨a, b, c⟩ | ⟨a, b, c⟩ <;> rw [a, b] <;> split <;> split <;> (try split) <;> omega
theorem deal_num {m : Nat} (hm : 0 < m) : ∀ {k i : Nat}, i < k → ((List.range k).filter fun j => j % m == i % m)[i / m]? = some i
  | 0, _, h => by omega
  | k + 1, i, h => by
    rw [List.range_succ, List.filter_append]
    by_cases hi : i < k
    · have ih := deal_num hm hi
      rw [List.getElem?_append_left (by
        by_cases hh : i / m < ((List.range k).filter fun j => j % m == i % m).length
        · exact hh
        · rw [List.getElem?_eq_none (by omega)] at ih; cases ih)]
      exact ih
    · obtain rfl : i = k := by omega
      have hc := deal_cnt hm (Nat.mod_lt i hm) i
      rw [if_neg (by omega), Nat.add_zero] at hc
      rw [List.getElem?_append_right (by omega), hc]
      simp
theorem deal_at {p : List Int} {m k i : Nat} (hm : 0 < m) (hi : i < k) : ((dealR p m k).getD (i % m) [])[i / m]? = some (p.getD i 0) := by
  rw [dealR_at (Nat.mod_lt i hm), List.getElem?_map, deal_num hm hi]; rfl
theorem flat_set : ∀ {R : List (List Int)} {u : Nat} {x : Int}, u < R.length → (R.set u (R.getD u [] ++ [x])).flatten.length = R.flatten.length + 1
  | [], _, _, h => by simp at h
  | r :: R, 0, x, _ => by simp; omega
  | r :: R, u + 1, x, h => by
    have ih := flat_set (R := R) (u := u) (x := x) (by simpa using h)
    rw [List.getD_cons_succ, List.set_cons_succ, List.flatten_cons, List.length_append, ih, List.flatten_cons, List.length_append]; omega
theorem dealR_set {p : List Int} {m k : Nat} (hm : 0 < m) : dealR p m (k + 1) = (dealR p m k).set (k % m) ((dealR p m k).getD (k % m) [] ++ [p.getD k 0]) := by
  have hu := Nat.mod_lt k hm
  refine List.ext_getElem (by simp [dealR]) fun i a b => ?_
  rw [dealR_len] at a
  rw [List.getElem_set]
  split
  · rename_i e
    subst e
    rw [dealR_at hu]
    simp [dealR, List.range_succ, List.filter_append]
  · rename_i e
    have e2 : ¬ (k % m = i) := e
    simp [dealR, List.range_succ, List.filter_append, e2]
theorem deal_all {p : List Int} {m : Nat} (hm : 0 < m) : ∀ k, (dealR p m k).flatten.length = k
  | 0 => by
    have : dealR p m 0 = List.replicate m [] := by simp [dealR, List.map_const']
    rw [this]; simp
  | k + 1 => by rw [dealR_set hm, flat_set (by rw [dealR_len]; exact Nat.mod_lt k hm), deal_all hm k]
theorem ocV_pk (n : Nat) (hp : List Blk) : ∀ R : List (List Int), pkL n hp (ocV R) = some (ocV R, hp)
  | [] => rfl
  | r :: R => by
    have ih := ocV_pk n hp R
    have e : pk n hp (rcV r) = some (rcV r, hp) := by unfold rcV; split <;> rfl
    show pkL n hp (rcV r :: ocV R) = some (rcV r :: ocV R, hp)
    simp only [pkL, e, Option.bind_some, ih, Option.map_some]
theorem ocV_pkset {n id : Nat} {hp : List Blk} (hn : n ≤ id) : ∀ {R : List (List Int)} {u : Nat} {r : List Int}, u < R.length → R.getD u [] = r → r ≠ [] → hp[id]? = some (.row false (ints r)) → pkL n hp ((ocV R).set u (.own 1 id)) = some (ocV R, hp.set id .dead)
  | [], _, _, h, _, _, _ => by simp at h
  | x :: R, 0, r, _, e, hne, hb => by
    have e2 : x = r := e
    subst e2
    show pkL n hp (.own 1 id :: ocV R) = some (rcV x :: ocV R, _)
    have hnl : ¬ id < n := by omega
    simp only [pkL, pk, if_neg hnl, hb, ints_noid, if_true, Option.bind_some, ocV_pk, Option.map_some]
    rw [rcV, if_neg hne]
  | x :: R, u + 1, r, h, e, hne, hb => by
    have ih := ocV_pkset hn (R := R) (u := u) (r := r) (by simpa using h) (by simpa using e) hne hb
    have ex : pk n hp (rcV x) = some (rcV x, hp) := by unfold rcV; split <;> rfl
    show pkL n hp (rcV x :: (ocV R).set u (.own 1 id)) = some (rcV x :: ocV R, _)
    simp only [pkL, ex, Option.bind_some, ih, Option.map_some]
theorem allL_setno {p : AV → Bool} {x : AV} (hx : x.allv p = false) : ∀ {cs : List AV} {u : Nat}, u < cs.length → allL p (cs.set u x) = false
  | [], _, h => by simp at h
  | c :: cs, 0, _ => by simp [allL, hx]
  | c :: cs, u + 1, h => by simp [allL, allL_setno hx (cs := cs) (u := u) (by simpa using h)]
theorem ocV_self {R : List (List Int)} {u : Nat} (h : u < R.length) : (ocV R).set u (rcV (R.getD u [])) = ocV R := by
  rw [ocV, ← List.map_set, List.getD_eq_getElem?_getD, List.getElem?_eq_getElem h]
  simp
def dlS (p : List Int) (m i : Nat) : St := ⟨[(0, .sl 1 (ints p)), (1, .int .i64 (m : Int)), (5, .own 1 0), (6, .int .i64 ((((dealR p m p.length).take i).flatten.length : Nat) : Int)), (7, .int .i64 (i : Int))], [.row false (ocV (dealR p m p.length))], 0, [(0, 1, [0, 1, 5, 6, 7], [(5, 0)])]⟩
theorem dl_step {p : List Int} {m i : Nat} (hp : p.length ≤ 200) (hm : 0 < m) (hm2 : m ≤ 100) (hi : i < m) : Ev tab d1110_b0 (dlS p m i) (fun x st => x = .normal ∧ st = dlS p m (i + 1)) := by
  have l1 := dealR_len p m p.length
  have hf := flat_succ (rows := dealR p m p.length) (i := i) (by omega)
  have hle := flat_le (rows := dealR p m p.length) (n := 200) (by rw [deal_all hm]; exact hp) i
  have c1 := ocV_cut (R := dealR p m p.length) (u := i) (by omega)
  have hb := dealR_row p m p.length i
  have es := ocV_self (R := dealR p m p.length) (u := i) (by omega)
  have hP (hne : (dealR p m p.length).getD i [] ≠ []) := ocV_pkset (n := 1) (id := 1) (hp := [.dead, .row false (ints ((dealR p m p.length).getD i []))]) (by omega) (R := dealR p m p.length) (u := i) (by omega) rfl hne rfl
  have m1 : (ocV (dealR p m p.length)).length = m := by rw [ocV_len]; exact l1
  have hI := allL_setno (p := pidlt 1) (x := .own 1 1) rfl (cs := ocV (dealR p m p.length)) (u := i) (by omega)
  simp only [dlS]
  rw [hf, List.length_append]
  generalize (dealR p m p.length).getD i [] = ra at *
  generalize ((dealR p m p.length).take i).flatten.length = n at *
  by_cases ha : ra = []
  · subst ha; simp only [rcV, if_true] at c1 es
    have er1 := set_rdc (l := ocV (dealR p m p.length)) (u := i) (x := .nils) (by omega)
    rw [es] at er1
    simp (config := { maxSteps := 1000000 }) (disch := omega) only [go_sem, ↓reduceIte, Nat.reduceEqDiff, Nat.reduceAdd, Int.reduceToNat, reduceCtorEq, Nat.reduceLeDiff, Nat.reduceSub, Nat.reduceDiv, Nat.reduceMod, Nat.reduceMul, d1110_b0, c1, es, er1, l1, List.length_nil, Nat.add_zero, Int.add_zero]
  · simp only [rcV, if_neg ha] at c1
    have hP := hP ha
    have er1 := set_rdc (l := ocV (dealR p m p.length)) (u := i) (x := .own 1 1) (by omega)
    simp (config := { maxSteps := 1000000 }) (disch := omega) only [go_sem, ↓reduceIte, Nat.reduceEqDiff, Nat.reduceAdd, Int.reduceToNat, reduceCtorEq, Nat.reduceLeDiff, Nat.reduceSub, Nat.reduceDiv, Nat.reduceMod, Nat.reduceMul, d1110_b0, c1, er1, l1, hP, hI]
def dmS (p : List Int) (m i : Nat) : St := ⟨[(0, .sl 1 (ints p)), (1, .int .i64 (m : Int)), (5, .own 1 0), (8, .int .i64 (i : Int))], [.row false (ocV (dealR p m p.length))], 0, [(1, 1, [0, 1, 5, 8], [(5, 0)]), (0, 1, [0, 1, 5, 6, 7], [(5, 0)])]⟩
theorem dm_step {p : List Int} {m i : Nat} (hp : p.length ≤ 200) (hm : 0 < m) (hm2 : m ≤ 100) (hi : i < p.length) : Ev tab d1110_b1 (dmS p m i) (fun x st => x = .normal ∧ st = dmS p m (i + 1)) := by
  have l1 := dealR_len p m p.length
  have hu := Nat.mod_lt i hm
  have c1 := ocV_cut (R := dealR p m p.length) (u := i % m) (by omega)
  have hb := dealR_row p m p.length (i % m)
  have ha := deal_at (p := p) (k := p.length) hm hi
  have hP (hne : (dealR p m p.length).getD (i % m) [] ≠ []) := ocV_pkset (n := 1) (id := 1) (hp := [.dead, .row false (ints ((dealR p m p.length).getD (i % m) []))]) (by omega) (R := dealR p m p.length) (u := i % m) (by omega) rfl hne rfl
  have m1 : (ocV (dealR p m p.length)).length = m := by rw [ocV_len]; exact l1
  have hI := allL_setno (p := pidlt 1) (x := .own 1 1) rfl (cs := ocV (dealR p m p.length)) (u := i % m) (by omega)
  have er1 := set_rdc (l := ocV (dealR p m p.length)) (u := i % m) (x := .own 1 1) (by omega)
  have t0 : (i : Int).tmod (m : Int) = ((i % m : Nat) : Int) := rfl
  have t1 : (i : Int).tdiv (m : Int) = ((i / m : Nat) : Int) := rfl
  simp only [dmS]
  generalize (dealR p m p.length).getD (i % m) [] = ra at *
  generalize i % m = u at *
  generalize i / m = q at *
  have hq : q < ra.length := by
    by_cases h : q < ra.length
    · exact h
    · rw [List.getElem?_eq_none (by omega)] at ha; cases ha
  have hx : ra.getD q 0 = p.getD i 0 := by rw [List.getD_eq_getElem?_getD, ha]; rfl
  have hn : ra ≠ [] := by rintro rfl; simp at hq
  have hP := hP hn
  simp only [rcV, if_neg hn] at c1
  simp (config := { maxSteps := 1000000 }) (disch := omega) only [go_sem, ↓reduceIte, Nat.reduceEqDiff, Nat.reduceAdd, Int.reduceToNat, reduceCtorEq, Nat.reduceLeDiff, Nat.reduceSub, Nat.reduceDiv, Nat.reduceMod, Nat.reduceMul, d1110_b1, c1, er1, l1, hP, hI, t0, t1, hx]
theorem tdeals_run {p : List Int} {m : Int} (hm : I64 m) (hp : p.length ≤ 9223372036854775807) : runP tab 1110 [.sl 1 (ints p), .int .i64 m] [] = some (.bool true, []) := by
  refine runP_fn t1110 rfl ?_
  have hm0 := hm
  obtain ⟨n1, n2⟩ := hm
  have gt := turns_run
  by_cases h3 : 200 < p.length
  · simp (config := { maxSteps := 1000000 }) (disch := omega) only [go_sem, ↓reduceIte, Nat.reduceEqDiff, Nat.reduceAdd, Int.reduceToNat, reduceCtorEq, Nat.reduceLeDiff, Nat.reduceSub, Nat.reduceDiv, Nat.reduceMod, Nat.reduceMul, d1110, gt]
  have g1 := deal_run hm0 (by omega : p.length ≤ 1000000)
  by_cases h1 : m < 1
  · rw [dealA, if_pos (Or.inl h1)] at g1
    simp (config := { maxSteps := 1000000 }) (disch := omega) only [go_sem, ↓reduceIte, Nat.reduceEqDiff, Nat.reduceAdd, Int.reduceToNat, reduceCtorEq, Nat.reduceLeDiff, Nat.reduceSub, Nat.reduceDiv, Nat.reduceMod, Nat.reduceMul, d1110, gt, g1]
  by_cases h2 : 100 < m
  · rw [dealA, if_pos (Or.inr h2)] at g1
    simp (config := { maxSteps := 1000000 }) (disch := omega) only [go_sem, ↓reduceIte, Nat.reduceEqDiff, Nat.reduceAdd, Int.reduceToNat, reduceCtorEq, Nat.reduceLeDiff, Nat.reduceSub, Nat.reduceDiv, Nat.reduceMod, Nat.reduceMul, d1110, gt, g1]
  obtain ⟨k, rfl⟩ := Int.eq_ofNat_of_zero_le (show 0 ≤ m by omega)
  rw [dealA, if_neg (by omega), Int.toNat_natCast] at g1
  simp (config := { maxSteps := 1000000 }) (disch := omega) only [go_sem, ↓reduceIte, Nat.reduceEqDiff, Nat.reduceAdd, Int.reduceToNat, reduceCtorEq, Nat.reduceLeDiff, Nat.reduceSub, Nat.reduceDiv, Nat.reduceMod, Nat.reduceMul, d1110, gt, g1]
  refine Ev_loop0 (dlS p k) k rfl (fun i hi => dl_step (by omega) (by omega) (by omega) hi) ?_
  have l1 := dealR_len p k p.length
  have hall : ((dealR p k p.length).take k).flatten.length = p.length := by rw [List.take_of_length_le (by omega), deal_all (by omega)]
  simp only [dlS, hall]
  simp (config := { maxSteps := 1000000 }) (disch := omega) only [go_sem, ↓reduceIte, Nat.reduceEqDiff, Nat.reduceAdd, Int.reduceToNat, reduceCtorEq, Nat.reduceLeDiff, Nat.reduceSub, Nat.reduceDiv, Nat.reduceMod, Nat.reduceMul, d1110_b0, gt]
  refine Ev_loop0 (dmS p k) p.length rfl (fun i hi => dm_step (by omega) (by omega) (by omega) hi) ?_
  simp only [dmS]
  simp (config := { maxSteps := 1000000 }) (disch := omega) only [go_sem, ↓reduceIte, Nat.reduceEqDiff, Nat.reduceAdd, Int.reduceToNat, reduceCtorEq, Nat.reduceLeDiff, Nat.reduceSub, Nat.reduceDiv, Nat.reduceMod, Nat.reduceMul, d1110_b1, gt]
end Go.Proofs.Ytimiedahbmfkhaa
