/- Layer 16: MailOrder, MailOnce. -/
import Derived.Test.YtpbdbhpneihopaaYl
namespace Go.Proofs.Ytpbdbhpneihopaa
set_option linter.unusedSimpArgs false
set_option linter.unusedVariables false
set_option maxHeartbeats 4000000
set_option maxRecDepth 100000
theorem drop_rev {l : List Ml} {j : Nat} (h : j < l.length) : (l.drop (l.length - (j + 1))).reverse = (l.drop (l.length - j)).reverse ++ [l.getD (l.length - 1 - j) default] := by
  have e : l.length - (j + 1) = l.length - 1 - j := by omega
  rw [e, List.drop_eq_getElem_cons (by omega), List.reverse_cons, show l.length - 1 - j + 1 = l.length - j by omega, List.getD_eq_getElem?_getD, List.getElem?_eq_getElem (by omega)]
  rfl
theorem order_law {l : List Ml} {at_ : Int} (hl : l.length ≤ 9223372036854775807) (ha : I64 at_) : runP tabM 1606 [.sl 4 (mls l), .int .i64 at_] [] = some (.bool true, []) := by
  refine runP_fn (show tabM 1606 = _ from t1606) rfl ?_
  have L := mls_len l
  have Ld : l.length * 4 / 4 = l.length := by omega
  obtain ⟨ha1, ha2⟩ := ha
  by_cases h1 : 100 < l.length
  · simp (config := { maxSteps := 1000000 }) (disch := omega) only [go_sem, ↓reduceIte, Nat.reduceEqDiff, Nat.reduceAdd, Int.reduceToNat, reduceCtorEq, Nat.reduceLeDiff, Nat.reduceSub, Nat.reduceDiv, Nat.reduceMod, Nat.reduceMul, d1606, L, Ld]
  by_cases h2 : at_ < 0
  · simp (config := { maxSteps := 1000000 }) (disch := omega) only [go_sem, ↓reduceIte, Nat.reduceEqDiff, Nat.reduceAdd, Int.reduceToNat, reduceCtorEq, Nat.reduceLeDiff, Nat.reduceSub, Nat.reduceDiv, Nat.reduceMod, Nat.reduceMul, d1606, L, Ld]
  by_cases h3 : (l.length : Int) < at_
  · simp (config := { maxSteps := 1000000 }) (disch := omega) only [go_sem, ↓reduceIte, Nat.reduceEqDiff, Nat.reduceAdd, Int.reduceToNat, reduceCtorEq, Nat.reduceLeDiff, Nat.reduceSub, Nat.reduceDiv, Nat.reduceMod, Nat.reduceMul, d1606, L, Ld]
  obtain ⟨k, rfl⟩ : ∃ k : Nat, at_ = k := ⟨at_.toNat, by omega⟩
  have gm := mails_run
  have g1 := cmb_run (l := l.drop k) (by rw [List.length_drop]; omega)
  have g2 := cmb_run (l := l.take k) (by rw [List.length_take]; omega)
  have g3 := cmb_run (l := l) (by omega)
  have g4 := cmb_run (l := l.reverse) (by rw [List.length_reverse]; omega)
  have c1 := cmb_len (l.drop k)
  have c2 := cmb_len (l.take k)
  have c3 := cmb_len l
  rw [List.length_drop] at c1
  rw [List.length_take] at c2
  have g5 := cmb_run (l := cmb (l.drop k) ++ cmb (l.take k)) (by rw [List.length_append]; omega)
  rw [cmb_perm (List.reverse_perm l)] at g4
  rw [cmb_app (l.drop k) (l.take k) l (fun x => by
    have : x ∈ l ↔ x ∈ l.take k ++ l.drop k := by rw [List.take_append_drop]
    rw [this, List.mem_append]; exact Or.comm)] at g5
  have gs := up (same16_run (a := cmb l) (b := cmb l) (by omega) (by omega))
  rw [decide_eq_true rfl] at gs
  have Lr := mls_len l.reverse
  simp (config := { maxSteps := 1000000 }) (disch := omega) only [go_sem, ↓reduceIte, Nat.reduceEqDiff, Nat.reduceAdd, Int.reduceToNat, reduceCtorEq, Nat.reduceLeDiff, Nat.reduceSub, Nat.reduceDiv, Nat.reduceMod, Nat.reduceMul, d1606, L, Ld]
  refine Ev_loop0 (fun j => ⟨[(0, .sl 4 (mls l)), (1, .int .i64 k), (5, .own 4 0), (6, .int .i64 ((l.length : Int) - 1 - j))], [.row false (mls (l.drop (l.length - j)).reverse)], 0, [(0, 1, [0, 1, 5, 6], [(5, 0)])]⟩) l.length (by simp [mls]) (fun j hj => ?_) ?_
  · rw [drop_rev hj]
    have q := mls_at (l := l) (i := l.length - 1 - j) (by omega)
    have Lj := mls_len (l.drop (l.length - j)).reverse
    rw [List.length_reverse, List.length_drop] at Lj
    have ei : ((l.length : Int) - 1 - (j : Int)).toNat = l.length - 1 - j := by omega
    have em : mls (l.drop (l.length - j)).reverse ++ mlC (l.getD (l.length - 1 - j) default) = mls ((l.drop (l.length - j)).reverse ++ [l.getD (l.length - 1 - j) default]) := by rw [← mls_app]; simp [mls]
    generalize (l.drop (l.length - j)).reverse = r at *
    generalize l.getD (l.length - 1 - j) default = m at *
    simp only [mlC] at q em
    simp (config := { maxSteps := 1000000 }) (disch := omega) only [go_sem, ↓reduceIte, Nat.reduceEqDiff, Nat.reduceAdd, Int.reduceToNat, reduceCtorEq, Nat.reduceLeDiff, Nat.reduceSub, Nat.reduceDiv, Nat.reduceMod, Nat.reduceMul, d1606_b0, q, L, Ld, Lj, ei, em]
    rw [show ((l.length : Int) - 1 - (j : Int) - 1) = (l.length : Int) - 1 - ((j : Int) + 1) by omega]
  · rw [Nat.sub_self, List.drop_zero]
    simp (config := { maxSteps := 1000000 }) (disch := omega) only [go_sem, ↓reduceIte, Nat.reduceEqDiff, Nat.reduceAdd, Int.reduceToNat, reduceCtorEq, Nat.reduceLeDiff, Nat.reduceSub, Nat.reduceDiv, Nat.reduceMod, Nat.reduceMul, d1606_b0, L, Ld, gm, g1, g2, g3, g4, g5, gs]
theorem mls_at3 {l : List Ml} {i : Nat} (h : i < l.length) : rdc (mls (l.drop i)) (some 3) = some (.agg [.int .i64 (l.getD i default).s, .int .i64 (l.getD i default).b, .int .i64 (l.getD i default).v]) := by
  rw [List.drop_eq_getElem_cons h, mls_cons, List.getD_eq_getElem?_getD, List.getElem?_eq_getElem h]; rfl
theorem mls_rdo3 {l : List Ml} {i : Nat} (h : i < l.length) : rdc (List.drop (i * 4 + 3) (mls l)) none = some (.int .i64 (l.getD i default).d) := by
  rw [← List.drop_drop, mls_drop, mls_open h]; rfl
theorem mls_rd3 {l : List Ml} {i : Nat} (h : i < l.length) : rdc (List.drop 3 (mls (l.drop i))) none = some (.int .i64 (l.getD i default).d) := by
  rw [mls_open h]; rfl
theorem less_run (x y : Ky) : runP tab 1045 [.agg (kyC x), .agg (kyC y)] [] = some (.bool (ltT x y), []) := by
  refine runP_fn t1045 rfl ?_
  by_cases h1 : x.s < y.s
  · have e : ltT x y = true := by simp [ltT]; omega
    rw [e]; simp (config := { maxSteps := 1000000 }) (disch := omega) only [go_sem, ↓reduceIte, Nat.reduceEqDiff, Nat.reduceAdd, Int.reduceToNat, reduceCtorEq, Nat.reduceLeDiff, Nat.reduceSub, Nat.reduceDiv, Nat.reduceMod, Nat.reduceMul, d1045, kyC]
  by_cases h2 : x.s = y.s
  case neg =>
    have e : ltT x y = false := by simp [ltT]; omega
    rw [e]; simp (config := { maxSteps := 1000000 }) (disch := omega) only [go_sem, ↓reduceIte, Nat.reduceEqDiff, Nat.reduceAdd, Int.reduceToNat, reduceCtorEq, Nat.reduceLeDiff, Nat.reduceSub, Nat.reduceDiv, Nat.reduceMod, Nat.reduceMul, d1045, kyC]
  by_cases h3 : x.d < y.d
  · have e : ltT x y = true := by simp [ltT]; omega
    rw [e]; simp (config := { maxSteps := 1000000 }) (disch := omega) only [go_sem, ↓reduceIte, Nat.reduceEqDiff, Nat.reduceAdd, Int.reduceToNat, reduceCtorEq, Nat.reduceLeDiff, Nat.reduceSub, Nat.reduceDiv, Nat.reduceMod, Nat.reduceMul, d1045, kyC, h2]
  by_cases h4 : x.d = y.d
  case neg =>
    have e : ltT x y = false := by simp [ltT]; omega
    rw [e]; simp (config := { maxSteps := 1000000 }) (disch := omega) only [go_sem, ↓reduceIte, Nat.reduceEqDiff, Nat.reduceAdd, Int.reduceToNat, reduceCtorEq, Nat.reduceLeDiff, Nat.reduceSub, Nat.reduceDiv, Nat.reduceMod, Nat.reduceMul, d1045, kyC, h2]
  by_cases h5 : x.v < y.v
  · have e : ltT x y = true := by simp [ltT]; omega
    rw [e]; simp (config := { maxSteps := 1000000 }) (disch := omega) only [go_sem, ↓reduceIte, Nat.reduceEqDiff, Nat.reduceAdd, Int.reduceToNat, reduceCtorEq, Nat.reduceLeDiff, Nat.reduceSub, Nat.reduceDiv, Nat.reduceMod, Nat.reduceMul, d1045, kyC, h2, h4]
  · have e : ltT x y = false := by simp [ltT]; omega
    rw [e]; simp (config := { maxSteps := 1000000 }) (disch := omega) only [go_sem, ↓reduceIte, Nat.reduceEqDiff, Nat.reduceAdd, Int.reduceToNat, reduceCtorEq, Nat.reduceLeDiff, Nat.reduceSub, Nat.reduceDiv, Nat.reduceMod, Nat.reduceMul, d1045, kyC, h2, h4]
theorem ky_enc (a b c : Int) : encA [.int .i64 a, .int .i64 b, .int .i64 c] = 13 := rfl
theorem ky_eq (x y : Ml) : aeqL [.int .i64 x.s, .int .i64 x.b, .int .i64 x.v] [.int .i64 y.s, .int .i64 y.b, .int .i64 y.v] = some (decide (kyM x = kyM y)) := by
  obtain ⟨a, b, c, d⟩ := x
  obtain ⟨e, f, g, h⟩ := y
  simp only [aeqL, aeq, if_true, Option.bind_some, Option.map_some, Bool.and_true, Option.some.injEq, kyM]
  rw [Bool.eq_iff_iff]
  simp only [Bool.and_eq_true, beq_iff_eq, decide_eq_true_eq, Ky.mk.injEq]
theorem cmb_at {l : List Ml} {i : Nat} (h : i + 1 < (cmb l).length) : ltT (kyM ((cmb l).getD i default)) (kyM ((cmb l).getD (i + 1) default)) = true := by
  have ha := cmb_asc l
  unfold asc at ha
  rw [List.pairwise_iff_getElem] at ha
  have := ha i (i + 1) (by simp; omega) (by simp; omega) (by omega)
  rw [List.getElem_map, List.getElem_map] at this
  rw [List.getD_eq_getElem?_getD, List.getD_eq_getElem?_getD, List.getElem?_eq_getElem (by omega), List.getElem?_eq_getElem h]
  exact this
def anyT (A : List Ml) (p : Ml → Bool) (k : Nat) : Bool := (A.take k).any p
theorem anyT_succ {A : List Ml} {p : Ml → Bool} {k : Nat} (h : k < A.length) : anyT A p (k + 1) = (anyT A p k || p (A.getD k default)) := by
  unfold anyT
  rw [take_snoc default h, List.any_append]
  simp
def onceM : List Mark := [(1, 1, [0, 3, 5], [(3, 0)]), (0, 1, [0, 3, 4], [(3, 0)])]
theorem once_law {l : List Ml} (hl : l.length ≤ 9223372036854775807) : runP tabM 1605 [.sl 4 (mls l)] [] = some (.bool true, []) := by
  refine runP_fn (show tabM 1605 = _ from t1605) rfl ?_
  have L := mls_len l
  have Ld : l.length * 4 / 4 = l.length := by omega
  by_cases h1 : 100 < l.length
  · simp (config := { maxSteps := 1000000 }) (disch := omega) only [go_sem, ↓reduceIte, Nat.reduceEqDiff, Nat.reduceAdd, Int.reduceToNat, reduceCtorEq, Nat.reduceLeDiff, Nat.reduceSub, Nat.reduceDiv, Nat.reduceMod, Nat.reduceMul, d1605, L, Ld]
  have gm := mails_run
  have g1 := cmb_run (l := l) (by omega)
  have c1 := cmb_len l
  have g2 := cmb_run (l := cmb l) (by omega)
  rw [cmb_idem] at g2
  have gs := up (same16_run (a := cmb l) (b := cmb l) (by omega) (by omega))
  rw [decide_eq_true rfl] at gs
  have hlt : ∀ i, i + 1 < (cmb l).length → ltT (kyM ((cmb l).getD i default)) (kyM ((cmb l).getD (i + 1) default)) = true := fun i hi => cmb_at hi
  have hle : ∀ i, i < l.length → anyT (cmb l) (fun y => decide (kyM y = kyM (l.getD i default)) && decide (y.d ≤ (l.getD i default).d)) (cmb l).length = true := by
    intro i hi
    obtain ⟨y, hy, hk, hd⟩ := cmb_le (l := l) (x := l.getD i default) (by rw [List.getD_eq_getElem?_getD, List.getElem?_eq_getElem hi]; exact List.getElem_mem hi)
    unfold anyT
    rw [List.take_length]
    exact List.any_eq_true.2 ⟨y, hy, by rw [decide_eq_true hk, decide_eq_true hd]; rfl⟩
  have hin : ∀ k, k < (cmb l).length → anyT l (fun y => decide ((cmb l).getD k default = y)) l.length = true := by
    intro k hk
    have := cmb_mem (l := l) (x := (cmb l).getD k default) (by rw [List.getD_eq_getElem?_getD, List.getElem?_eq_getElem hk]; exact List.getElem_mem hk)
    unfold anyT
    rw [List.take_length]
    exact List.any_eq_true.2 ⟨_, this, by simp⟩
  generalize cmb l = A at *
  have LA := mls_len A
  have LAd : A.length * 4 / 4 = A.length := by omega
  simp (config := { maxSteps := 1000000 }) (disch := omega) only [go_sem, ↓reduceIte, Nat.reduceEqDiff, Nat.reduceAdd, Int.reduceToNat, reduceCtorEq, Nat.reduceLeDiff, Nat.reduceSub, Nat.reduceDiv, Nat.reduceMod, Nat.reduceMul, d1605, L, Ld, g1]
  refine Ev_loop0 (fun i => ⟨[(0, .sl 4 (mls l)), (3, .own 4 0), (4, .int .i64 ((i : Int) + 1))], [.row false (mls A)], 0, [(0, 1, [0, 3, 4], [(3, 0)])]⟩) (A.length - 1) (by simp) (fun i hi => ?_) ?_
  · have q1 := mls_at3 (l := A) (i := i) (by omega)
    have q2 := mls_at3 (l := A) (i := i + 1) (by omega)
    have gl := up (less_run (kyM (A.getD i default)) (kyM (A.getD (i + 1) default)))
    rw [hlt i (by omega)] at gl
    simp only [kyC, kyM] at gl
    have e1 : ((i : Int) + 1 - 1) = (i : Int) := by omega
    have e2 : ((i : Int) + 1).toNat = i + 1 := by omega
    generalize A.getD i default = x at *
    generalize A.getD (i + 1) default = y at *
    simp (config := { maxSteps := 1000000 }) (disch := omega) only [go_sem, ↓reduceIte, Nat.reduceEqDiff, Nat.reduceAdd, Int.reduceToNat, reduceCtorEq, Nat.reduceLeDiff, Nat.reduceSub, Nat.reduceDiv, Nat.reduceMod, Nat.reduceMul, d1605_b0, LA, LAd, q1, q2, gl, e1, e2]
  · simp (config := { maxSteps := 1000000 }) (disch := omega) only [go_sem, ↓reduceIte, Nat.reduceEqDiff, Nat.reduceAdd, Int.reduceToNat, reduceCtorEq, Nat.reduceLeDiff, Nat.reduceSub, Nat.reduceDiv, Nat.reduceMod, Nat.reduceMul, d1605_b0, LA, LAd]
    refine Ev_loop0 (fun i => ⟨[(0, .sl 4 (mls l)), (3, .own 4 0), (5, .int .i64 (i : Int))], [.row false (mls A)], 0, onceM⟩) l.length rfl (fun i hi => ?_) ?_
    · have hle := hle i hi
      have q2 := mls_rd3 hi
      have q3 := mls_at3 hi
      unfold onceM
      simp (config := { maxSteps := 1000000 }) (disch := omega) only [go_sem, ↓reduceIte, Nat.reduceEqDiff, Nat.reduceAdd, Int.reduceToNat, reduceCtorEq, Nat.reduceLeDiff, Nat.reduceSub, Nat.reduceDiv, Nat.reduceMod, Nat.reduceMul, d1605_b1, L, Ld]
      refine Ev_loop0 (fun k => ⟨[(0, .sl 4 (mls l)), (3, .own 4 0), (5, .int .i64 (i : Int)), (6, .bool (anyT A (fun y => decide (kyM y = kyM (l.getD i default)) && decide (y.d ≤ (l.getD i default).d)) k)), (7, .int .i64 (k : Int))], [.row false (mls A)], 0, [(2, 1, [0, 3, 5, 6, 7], [(3, 0)]), (1, 1, [0, 3, 5], [(3, 0)]), (0, 1, [0, 3, 4], [(3, 0)])]⟩) A.length (by simp [anyT]) (fun k hk => ?_) ?_
      · rw [anyT_succ hk]
        have p1 := mls_at3 hk
        have p2 := mls_rdo3 hk
        generalize l.getD i default = x at *
        generalize A.getD k default = y at *
        generalize anyT A (fun y => decide (kyM y = kyM x) && decide (y.d ≤ x.d)) k = b at *
        have qe := ky_eq y x
        cases b with
        | true => simp (config := { maxSteps := 1000000 }) (disch := omega) only [go_sem, ↓reduceIte, Nat.reduceEqDiff, Nat.reduceAdd, Int.reduceToNat, reduceCtorEq, Nat.reduceLeDiff, Nat.reduceSub, Nat.reduceDiv, Nat.reduceMod, Nat.reduceMul, d1605_b2, LA, LAd, Bool.true_or]
        | false =>
          by_cases hk : kyM y = kyM x
          · rw [decide_eq_true hk] at qe ⊢
            by_cases hd : y.d ≤ x.d
            · rw [decide_eq_true hd]
              simp (config := { maxSteps := 1000000 }) (disch := omega) only [go_sem, ↓reduceIte, Nat.reduceEqDiff, Nat.reduceAdd, Int.reduceToNat, reduceCtorEq, Nat.reduceLeDiff, Nat.reduceSub, Nat.reduceDiv, Nat.reduceMod, Nat.reduceMul, d1605_b2, L, Ld, LA, LAd, p1, q3, qe, ky_enc, p2, q2, Bool.false_or, Bool.true_and]
            · rw [decide_eq_false hd]
              simp (config := { maxSteps := 1000000 }) (disch := omega) only [go_sem, ↓reduceIte, Nat.reduceEqDiff, Nat.reduceAdd, Int.reduceToNat, reduceCtorEq, Nat.reduceLeDiff, Nat.reduceSub, Nat.reduceDiv, Nat.reduceMod, Nat.reduceMul, d1605_b2, L, Ld, LA, LAd, p1, q3, qe, ky_enc, p2, q2, Bool.false_or, Bool.true_and]
          · rw [decide_eq_false hk] at qe ⊢
            simp (config := { maxSteps := 1000000 }) (disch := omega) only [go_sem, ↓reduceIte, Nat.reduceEqDiff, Nat.reduceAdd, Int.reduceToNat, reduceCtorEq, Nat.reduceLeDiff, Nat.reduceSub, Nat.reduceDiv, Nat.reduceMod, Nat.reduceMul, d1605_b2, L, Ld, LA, LAd, p1, q3, qe, ky_enc, Bool.false_or, Bool.false_and]
      · simp (config := { maxSteps := 1000000 }) (disch := omega) only [go_sem, ↓reduceIte, Nat.reduceEqDiff, Nat.reduceAdd, Int.reduceToNat, reduceCtorEq, Nat.reduceLeDiff, Nat.reduceSub, Nat.reduceDiv, Nat.reduceMod, Nat.reduceMul, d1605_b2, LA, LAd, hle]
    · unfold onceM
      simp (config := { maxSteps := 1000000 }) (disch := omega) only [go_sem, ↓reduceIte, Nat.reduceEqDiff, Nat.reduceAdd, Int.reduceToNat, reduceCtorEq, Nat.reduceLeDiff, Nat.reduceSub, Nat.reduceDiv, Nat.reduceMod, Nat.reduceMul, d1605_b1, L, Ld]
      refine Ev_loop0 (fun k => ⟨[(0, .sl 4 (mls l)), (3, .own 4 0), (8, .int .i64 (k : Int))], [.row false (mls A)], 0, [(3, 1, [0, 3, 8], [(3, 0)]), (1, 1, [0, 3, 5], [(3, 0)]), (0, 1, [0, 3, 4], [(3, 0)])]⟩) A.length rfl (fun k hk => ?_) ?_
      · have hin := hin k hk
        have q2 := mls_at hk
        simp (config := { maxSteps := 1000000 }) (disch := omega) only [go_sem, ↓reduceIte, Nat.reduceEqDiff, Nat.reduceAdd, Int.reduceToNat, reduceCtorEq, Nat.reduceLeDiff, Nat.reduceSub, Nat.reduceDiv, Nat.reduceMod, Nat.reduceMul, d1605_b3, LA, LAd]
        refine Ev_loop0 (fun i => ⟨[(0, .sl 4 (mls l)), (3, .own 4 0), (8, .int .i64 (k : Int)), (9, .bool (anyT l (fun y => decide (A.getD k default = y)) i)), (10, .int .i64 (i : Int))], [.row false (mls A)], 0, [(4, 1, [0, 3, 8, 9, 10], [(3, 0)]), (3, 1, [0, 3, 8], [(3, 0)]), (1, 1, [0, 3, 5], [(3, 0)]), (0, 1, [0, 3, 4], [(3, 0)])]⟩) l.length (by simp [anyT]) (fun i hi => ?_) ?_
        · rw [anyT_succ hi]
          have p1 := mls_at hi
          generalize l.getD i default = x at *
          generalize A.getD k default = y at *
          generalize anyT l (fun z => decide (y = z)) i = b at *
          simp only [mlC] at p1 q2
          have qe := ml_eq y x
          cases b with
          | true => simp (config := { maxSteps := 1000000 }) (disch := omega) only [go_sem, ↓reduceIte, Nat.reduceEqDiff, Nat.reduceAdd, Int.reduceToNat, reduceCtorEq, Nat.reduceLeDiff, Nat.reduceSub, Nat.reduceDiv, Nat.reduceMod, Nat.reduceMul, d1605_b4, L, Ld, Bool.true_or]
          | false => simp (config := { maxSteps := 1000000 }) (disch := omega) only [go_sem, ↓reduceIte, Nat.reduceEqDiff, Nat.reduceAdd, Int.reduceToNat, reduceCtorEq, Nat.reduceLeDiff, Nat.reduceSub, Nat.reduceDiv, Nat.reduceMod, Nat.reduceMul, d1605_b4, L, Ld, LA, LAd, p1, q2, qe, ml_enc, Bool.false_or]
        · simp (config := { maxSteps := 1000000 }) (disch := omega) only [go_sem, ↓reduceIte, Nat.reduceEqDiff, Nat.reduceAdd, Int.reduceToNat, reduceCtorEq, Nat.reduceLeDiff, Nat.reduceSub, Nat.reduceDiv, Nat.reduceMod, Nat.reduceMul, d1605_b4, L, Ld, hin]
      · simp (config := { maxSteps := 1000000 }) (disch := omega) only [go_sem, ↓reduceIte, Nat.reduceEqDiff, Nat.reduceAdd, Int.reduceToNat, reduceCtorEq, Nat.reduceLeDiff, Nat.reduceSub, Nat.reduceDiv, Nat.reduceMod, Nat.reduceMul, d1605_b3, LA, LAd, gm, g2, gs]
end Go.Proofs.Ytpbdbhpneihopaa
