/-
  Layer 24: SlotsDo.
-/
import Derived.Test.YtoldddplaalfiaaQ24
namespace Go.Proofs.Ytoldddplaalfiaa
set_option linter.unusedSimpArgs false
set_option linter.unusedVariables false
set_option maxHeartbeats 4000000
set_option maxRecDepth 100000

theorem hdsV_setU (v : Bool) : ∀ (L : List Hd) (i : Nat), i < L.length → (hdsV L).set (i * 9) (.bool v) = hdsV (L.take i ++ { L.getD i default with used := v } :: L.drop (i + 1))
  | [], i, h => by simp at h
  | r :: L, 0, _ => rfl
  | r :: L, i + 1, h => by
    have ih := hdsV_setU v L i (by simpa using h)
    rw [hdsV_cons, show (i + 1) * 9 = (hdV r).length + i * 9 by simp [hdV, rqV]; omega, List.set_append_right _ _ (by omega), show (hdV r).length + i * 9 - (hdV r).length = i * 9 by omega, ih]
    simp [hdsV_cons]

/-- The first i are used, or not. -/
def ng (v : Bool) (L : List Hd) (i : Nat) : List Hd := ((L.take i).map fun r => { r with used := v }) ++ L.drop i
theorem ng_len {v : Bool} {L : List Hd} {i : Nat} (h : i ≤ L.length) : (ng v L i).length = L.length := by simp [ng]; omega
theorem ng_set {v : Bool} {L : List Hd} {i : Nat} (h : i < L.length) : (hdsV (ng v L i)).set (i * 9) (.bool v) = hdsV (ng v L (i + 1)) := by
  rw [hdsV_setU _ _ _ (by rw [ng_len (by omega)]; exact h)]
  congr 1
  have e : ((L.take i).map fun r : Hd => { r with used := v }).length = i := by simp; omega
  have e1 : (ng v L i).take i = (L.take i).map fun r : Hd => { r with used := v } := by
    unfold ng; conv => lhs; arg 1; rw [← e]
    exact List.take_left
  have e2 : (ng v L i).drop (i + 1) = L.drop (i + 1) := by
    unfold ng
    rw [List.drop_append, List.drop_eq_nil_of_le (by omega), e]
    simp
  have e3 : (ng v L i).getD i default = L.getD i default := by
    unfold ng
    rw [List.getD_eq_getElem?_getD, List.getElem?_append_right (by omega), e, List.getElem?_drop, List.getD_eq_getElem?_getD]
    simp
  rw [e1, e2, e3]
  unfold ng
  rw [take_snoc default h]
  simp
theorem ng_zero (v : Bool) (L : List Hd) : ng v L 0 = L := by simp [ng]

theorem setH_map (f : Hd → Hd) (l : List Hd) (i : Nat) (x : Hd) : (setH l i x).map f = setH (l.map f) i (f x) := by
  simp [setH, List.map_take, List.map_drop]
theorem setH_key {l : List Hd} {i : Nat} {x : Hd} : (setH (l.map Hd.own) i x).map Hd.key = (setH l i x).map Hd.key := by
  simp only [setH, List.map_append, List.map_cons, List.map_take, List.map_drop, own_key]
theorem put_both {l : List Hd} {x : Req} (hw : okW l) (hx : x.words.length ≤ 1000000) : ∃ (k : Nat) (A D : List Hd) (e : Int), runP tab 1152 [.sl 9 (hdsS l), .agg (reqS x)] [] = some (.tup [.int .i64 k, .vec 9 (hdsV A), .int .i64 e], []) ∧ runP tab 1153 [.sl 9 (hdsS l), .agg (reqS x)] [] = some (.tup [.int .i64 k, .vec 9 (hdsS D), .int .i64 e], []) ∧ okW A ∧ okW D ∧ (A.map Hd.key == D.map Hd.key) = true := by
  rcases first_ix (fun i => (l.getD i default).used = true) l.length with h | ⟨n, hn, hbef, hun⟩
  · exact ⟨0, [], [], 140, put_no hw h, rput_no hw h, ⟨by simp, by simp⟩, ⟨by simp, by simp⟩, rfl⟩
  · replace hun : (l.getD n default).used = false := by simpa using hun
    exact ⟨n, _, _, 0, put_at hw hx hn hbef hun, rput_at hw hn hbef hun, okW_set (okW_own hw) (by simpa using hn) hx, okW_set hw hn hx, by rw [setH_key, beq_self_eq_true]⟩
theorem drop_both {l : List Hd} {n : Int} (hw : okW l) (h : -9223372036854775808 ≤ n ∧ n ≤ 9223372036854775807) : ∃ (A D : List Hd) (e : Int), runP tab 1154 [.sl 9 (hdsS l), .int .i64 n] [] = some (.tup [.vec 9 (hdsV A), .int .i64 e], []) ∧ runP tab 1155 [.sl 9 (hdsS l), .int .i64 n] [] = some (.tup [.vec 9 (hdsS D), .int .i64 e], []) ∧ okW A ∧ okW D ∧ (A.map Hd.key == D.map Hd.key) = true := by
  have g1 := drop_run hw h
  have g2 := rdrop_run hw.1 h
  by_cases h1 : n < 0 ∨ l.length ≤ n
  · rw [if_pos h1] at g1 g2
    exact ⟨[], [], 1, g1, g2, ⟨by simp, by simp⟩, ⟨by simp, by simp⟩, rfl⟩
  · rw [if_neg h1] at g1 g2
    cases hu : (l.getD n.toNat default).used with
    | false =>
      rw [hu, if_neg (by simp)] at g1 g2
      exact ⟨[], [], 141, g1, g2, ⟨by simp, by simp⟩, ⟨by simp, by simp⟩, rfl⟩
    | true =>
      rw [hu, if_pos rfl] at g1 g2
      exact ⟨_, _, 0, g1, g2, okW_set (okW_own hw) (by rw [List.length_map]; omega) (by simp [hz]), okW_set hw (by omega) (by simp [hz]), by rw [setH_key, beq_self_eq_true]⟩
theorem find_both {l : List Hd} {x : Int} (hw : okW l) : ∃ (k : Nat) (b : Bool), runP tab 1156 [.sl 9 (hdsS l), .int .i64 x] [] = some (.tup [.int .i64 k, .bool b], []) ∧ runP tab 1157 [.sl 9 (hdsS l), .int .i64 x] [] = some (.tup [.int .i64 k, .bool b], []) := by
  rcases seek l x with h | ⟨n, hn, hbef, hun, hix⟩
  · exact ⟨0, false, find_no hw h, rfind_no hw h⟩
  · exact ⟨n, true, find_at hw hn hbef hun hix, rfind_at hw hn hbef hun hix⟩
theorem new_both {n : Int} (h : -9223372036854775808 ≤ n ∧ n ≤ 9223372036854775807) : ∃ (A : List Hd) (e : Int), runP tab 1158 [.int .i64 n] [] = some (.tup [.vec 9 (hdsV A), .int .i64 e], []) ∧ runP tab 1159 [.int .i64 n] [] = some (.tup [.vec 9 (hdsV A), .int .i64 e], []) ∧ okW A := by
  have g1 := new_run h
  have g2 := rnew_run h
  unfold nw at g1 g2
  by_cases h1 : 1 ≤ n ∧ n ≤ 64
  · rw [if_pos h1] at g1 g2
    exact ⟨_, _, g1, g2, by simp; omega, fun r hr => by rw [List.eq_of_mem_replicate hr]; simp [hz]⟩
  · rw [if_neg h1] at g1 g2
    exact ⟨[], _, g1, g2, by simp, by simp⟩

theorem two2 {α : Type} {a b : Bool} (F : α → Bool → Prop) {Q : α} (h : ∀ fr, F Q fr) : two a (two b (F Q false) (F Q true)) (two b (F Q true) (F Q true)) := by
  cases a <;> cases b <;> exact h _
def H1 (fr : Bool) (l A D G I P : List Hd) (x : Req) (U : List Int) : List Blk := [.row false [.int .i64 x.id, .int .i64 x.kind, .int .i64 x.qk, .int .i64 x.frm, .int .i64 x.to, .sl 1 (strs x.words), .int .i64 x.radius, .int .i64 x.most],
  .row fr (hdsS l), .row false (hdsV A), .row false (hdsS D), .row false (hdsV G), .row false (hdsS I), .row false (hdsV P), .row false (hdsV P), .row false (ints U), .row false (ints U)]

theorem do_run {l : List Hd} {x : Req} {slot id size : Int} (h1 : l.length ≤ 9223372036854775807) (h2 : ∀ r ∈ l, r.req.fits) (hxf : x.fits) (hs : -9223372036854775808 ≤ slot ∧ slot ≤ 9223372036854775807) (hz : -9223372036854775808 ≤ size ∧ size ≤ 9223372036854775807) : runP tab 1146 [.sl 9 (hdsS l), .agg (reqS x), .int .i64 slot, .int .i64 id, .int .i64 size] [] = some (.bool true, []) := by
  refine runP_fn t1146 rfl ?_
  have gb := bigL_run h1 h2
  obtain ⟨_, _, _, _, _, _, _, hx1, hx2⟩ := hxf
  have gq := bigQ_run hx1 hx2
  simp only [qryS] at gq
  cases hb : bigL l with
  | true =>
    rw [hb] at gb
    simp (config := { maxSteps := 1000000 }) (disch := omega) only [go_sem, unx_miss, Option.any_some, Nat.zero_div, beq_self_eq_true, Bool.true_or, List.isEmpty_cons, Int.zero_add, bindParams, bindTo, ↓reduceIte, Nat.reduceEqDiff, Nat.reduceAdd, Nat.zero_add, Nat.add_zero, if_pos, if_neg, cnd_pos, cnd_neg, grd_tpos, grd_tneg, grd_fpos, grd_fneg, astep, sln, slc, part, rowc, Blk.cells, Option.map_some, Option.bind_some, abin, homesOf, AV.idof, pick_pos, pick_neg, wrap_id, trim, tidy, gst_if, List.all_cons, List.all_nil, Blk.idlt, Blk.noidb, idlt, idltL, noid, noidL, noinl, noinlL, noimm, allL, AV.allv, pidlt, pnoid, pnoinl, pnoimm, Bool.and_true, Bool.true_and, Bool.and_self, ints_rdc, ints_rdc0, ints_take_all, Int.toNat_natCast, Int.reduceToNat, Nat.mul_one, Nat.div_one, List.length_nil, List.length_cons, List.take_nil, List.take_zero, List.take_succ_cons, List.drop_zero, List.drop_succ_cons, List.getElem?_cons_zero, List.getElem?_cons_succ, List.head?_cons, List.set_cons_zero, List.set_cons_succ, List.cons_append, and_self, and_true, true_and, Nat.le_refl, Int.natCast_add, Int.cast_ofNat_Int, reduceCtorEq, ne_eq, not_false_eq_true, implies_true, results, rvs, rvv, rsIds, immIds, nz, nzc, nz1, tupv, Option.map_none, List.map_cons, List.map_nil, fz, fzL, frz, frzL, frz1, mapL, AV.mapv, ren, renL, ren1, AV.ids, idsL, List.append_nil, List.nil_append, decide_true, decide_false, not_true_eq_false, callP, callM, subHp, putHp, idxOf, dedup, List.reverse_nil, List.reverse_cons, List.contains_nil, Bool.or_false, Bool.false_or, Bool.or_true, Bool.not_true, Bool.not_false, thaw, thawL, setAll, rdc_one, rdc_row, AV.cells, AV.okc, parts, tile, modify_zero, modify_succ, dec_pos, dec_neg, Nat.reduceLeDiff, List.not_mem_nil, or_false, or_true, true_or, if_true, swapAll, swapSt, swapBl, swp, renEnv, Blk.ren, Nat.reduceSub, Nat.reduceDiv, Nat.reduceMod, Nat.reduceMul, Option.getD_some, Option.getD_none, Nat.zero_mul, Nat.one_mul, List.isEmpty_nil, still, opnH, ownbH, fin, pk, pkL, pks, pksL, Blk.still, cnt, unpk, cut, cut3, Option.isSome_some, Option.isSome_none, Bool.false_eq_true, Nat.sub_zero, List.getD_cons_zero, List.getD_cons_succ, Nat.le_add_right, Nat.zero_le, List.length_append, List.length_set, ints_drop, ints_take, ints_set, ghost_norm', take_len_drop, List.length_take, List.length_drop, d1146, gb, reqS]
  | false =>
    rw [hb] at gb
    cases hq : bigQ x with
    | true =>
      rw [hq] at gq
      simp (config := { maxSteps := 1000000 }) (disch := omega) only [go_sem, unx_miss, Option.any_some, Nat.zero_div, beq_self_eq_true, Bool.true_or, List.isEmpty_cons, Int.zero_add, bindParams, bindTo, ↓reduceIte, Nat.reduceEqDiff, Nat.reduceAdd, Nat.zero_add, Nat.add_zero, if_pos, if_neg, cnd_pos, cnd_neg, grd_tpos, grd_tneg, grd_fpos, grd_fneg, astep, sln, slc, part, rowc, Blk.cells, Option.map_some, Option.bind_some, abin, homesOf, AV.idof, pick_pos, pick_neg, wrap_id, trim, tidy, gst_if, List.all_cons, List.all_nil, Blk.idlt, Blk.noidb, idlt, idltL, noid, noidL, noinl, noinlL, noimm, allL, AV.allv, pidlt, pnoid, pnoinl, pnoimm, Bool.and_true, Bool.true_and, Bool.and_self, ints_rdc, ints_rdc0, ints_take_all, Int.toNat_natCast, Int.reduceToNat, Nat.mul_one, Nat.div_one, List.length_nil, List.length_cons, List.take_nil, List.take_zero, List.take_succ_cons, List.drop_zero, List.drop_succ_cons, List.getElem?_cons_zero, List.getElem?_cons_succ, List.head?_cons, List.set_cons_zero, List.set_cons_succ, List.cons_append, and_self, and_true, true_and, Nat.le_refl, Int.natCast_add, Int.cast_ofNat_Int, reduceCtorEq, ne_eq, not_false_eq_true, implies_true, results, rvs, rvv, rsIds, immIds, nz, nzc, nz1, tupv, Option.map_none, List.map_cons, List.map_nil, fz, fzL, frz, frzL, frz1, mapL, AV.mapv, ren, renL, ren1, AV.ids, idsL, List.append_nil, List.nil_append, decide_true, decide_false, not_true_eq_false, callP, callM, subHp, putHp, idxOf, dedup, List.reverse_nil, List.reverse_cons, List.contains_nil, Bool.or_false, Bool.false_or, Bool.or_true, Bool.not_true, Bool.not_false, thaw, thawL, setAll, rdc_one, rdc_row, AV.cells, AV.okc, parts, tile, modify_zero, modify_succ, dec_pos, dec_neg, Nat.reduceLeDiff, List.not_mem_nil, or_false, or_true, true_or, if_true, swapAll, swapSt, swapBl, swp, renEnv, Blk.ren, Nat.reduceSub, Nat.reduceDiv, Nat.reduceMod, Nat.reduceMul, Option.getD_some, Option.getD_none, Nat.zero_mul, Nat.one_mul, List.isEmpty_nil, still, opnH, ownbH, fin, pk, pkL, pks, pksL, Blk.still, cnt, unpk, cut, cut3, Option.isSome_some, Option.isSome_none, Bool.false_eq_true, Nat.sub_zero, List.getD_cons_zero, List.getD_cons_succ, Nat.le_add_right, Nat.zero_le, List.length_append, List.length_set, ints_drop, ints_take, ints_set, ghost_norm', take_len_drop, List.length_take, List.length_drop, d1146, gb, gq, reqS]
    | false =>
      rw [hq] at gq
      obtain ⟨h100, hw⟩ := bigL_ok hb
      have hxw := bigQ_ok hq
      obtain ⟨k, A, D, e, p1, p2, hA, hD, hAD⟩ := put_both (x := x) hw (by omega)
      obtain ⟨G, I, j, q1, q2, hG, hI, hGI⟩ := drop_both (n := slot) hw hs
      obtain ⟨m, b, f1, f2⟩ := find_both (x := id) hw
      obtain ⟨P, s, n1, n2, hP⟩ := new_both hz
      have gu := used_run hw
      have ru := rused_run hw
      have gi := ints_run (a := usd l l.length) (b := usd l l.length) (by have := usd_len l l.length; omega) (by have := usd_len l l.length; omega)
      have hAl := hA.1
      have hGl := hG.1
      have s1 := same_run (a := A) (b := D) (.inl rfl) (.inl rfl) (okW_H hA) (okW_H hD)
      have s2 := same_run (a := G) (b := I) (.inl rfl) (.inl rfl) (okW_H hG) (okW_H hI)
      have s3 := same_run (a := P) (b := P) (.inl rfl) (.inl rfl) (okW_H hP) (okW_H hP)
      have s4 := same_run (a := l) (b := l) (.inl rfl) (.inl rfl) (okW_H hw) (okW_H hw)
      have o1 := own_run (l := l) (.inl rfl) hw.1
      rw [hAD] at s1
      rw [hGI] at s2
      simp only [beq_self_eq_true] at s3 s4 gi
      generalize usd l l.length = U at *
      simp only [reqS] at p1 p2 ⊢
      simp (config := { maxSteps := 1000000 }) (disch := omega) only [go_sem, unx_miss, Option.any_some, Nat.zero_div, beq_self_eq_true, Bool.true_or, List.isEmpty_cons, Int.zero_add, bindParams, bindTo, ↓reduceIte, Nat.reduceEqDiff, Nat.reduceAdd, Nat.zero_add, Nat.add_zero, if_pos, if_neg, cnd_pos, cnd_neg, grd_tpos, grd_tneg, grd_fpos, grd_fneg, astep, sln, slc, part, rowc, Blk.cells, Option.map_some, Option.bind_some, abin, homesOf, AV.idof, pick_pos, pick_neg, wrap_id, trim, tidy, gst_if, List.all_cons, List.all_nil, Blk.idlt, Blk.noidb, idlt, idltL, noid, noidL, noinl, noinlL, noimm, allL, AV.allv, pidlt, pnoid, pnoinl, pnoimm, Bool.and_true, Bool.true_and, Bool.and_self, ints_rdc, ints_rdc0, ints_take_all, Int.toNat_natCast, Int.reduceToNat, Nat.mul_one, Nat.div_one, List.length_nil, List.length_cons, List.take_nil, List.take_zero, List.take_succ_cons, List.drop_zero, List.drop_succ_cons, List.getElem?_cons_zero, List.getElem?_cons_succ, List.head?_cons, List.set_cons_zero, List.set_cons_succ, List.cons_append, and_self, and_true, true_and, Nat.le_refl, Int.natCast_add, Int.cast_ofNat_Int, reduceCtorEq, ne_eq, not_false_eq_true, implies_true, results, rvs, rvv, rsIds, immIds, nz, nzc, nz1, tupv, Option.map_none, List.map_cons, List.map_nil, fz, fzL, frz, frzL, frz1, mapL, AV.mapv, ren, renL, ren1, AV.ids, idsL, List.append_nil, List.nil_append, decide_true, decide_false, not_true_eq_false, callP, callM, subHp, putHp, idxOf, dedup, List.reverse_nil, List.reverse_cons, List.contains_nil, Bool.or_false, Bool.false_or, Bool.or_true, Bool.not_true, Bool.not_false, thaw, thawL, setAll, rdc_one, rdc_row, AV.cells, AV.okc, parts, tile, modify_zero, modify_succ, dec_pos, dec_neg, Nat.reduceLeDiff, List.not_mem_nil, or_false, or_true, true_or, if_true, swapAll, swapSt, swapBl, swp, renEnv, Blk.ren, Nat.reduceSub, Nat.reduceDiv, Nat.reduceMod, Nat.reduceMul, Option.getD_some, Option.getD_none, Nat.zero_mul, Nat.one_mul, List.isEmpty_nil, still, opnH, ownbH, fin, pk, pkL, pks, pksL, Blk.still, cnt, unpk, cut, cut3, Option.isSome_some, Option.isSome_none, Bool.false_eq_true, Nat.sub_zero, List.getD_cons_zero, List.getD_cons_succ, Nat.le_add_right, Nat.zero_le, List.length_append, List.length_set, ints_drop, ints_take, ints_set, ghost_norm', take_len_drop, List.length_take, List.length_drop, d1146, gb, gq, p1, p2, q1, q2, f1, f2, n1, n2, gu, ru, gi, s1, s2, s3, o1]
      refine two2 (fun Q fr => Ev tab d1146_b0.loop ⟨[(0, .sl 9 (hdsS l)), (11, .own 9 1), (13, .own 9 2), (18, .own 9 4), (30, .bool true), (31, .int .i64 0)], H1 fr l A D G I P x U, 0, [(0, 10, [0, 11, 13, 18, 30, 31], [(11, 1), (13, 2), (18, 4)])]⟩ Q) (fun fr => ?_)
      refine Ev_loop0 (fun i => ⟨[(0, .sl 9 (hdsS l)), (11, .own 9 1), (13, .own 9 2), (18, .own 9 4), (30, .bool true), (31, .int .i64 (i : Int))], H1 fr l (ng false A i) D G I P x U, 0, [(0, 10, [0, 11, 13, 18, 30, 31], [(11, 1), (13, 2), (18, 4)])]⟩) A.length (by simp only [ng_zero]; rfl) (fun i hi => ?_) ?_
      · have e := ng_set (v := false) hi
        have e2 := ng_len (v := false) (L := A) (i := i) (by omega)
        cases fr <;> simp (config := { maxSteps := 1000000 }) (disch := omega) only [go_sem, unx_miss, Option.any_some, Nat.zero_div, beq_self_eq_true, Bool.true_or, List.isEmpty_cons, Int.zero_add, bindParams, bindTo, ↓reduceIte, Nat.reduceEqDiff, Nat.reduceAdd, Nat.zero_add, Nat.add_zero, if_pos, if_neg, cnd_pos, cnd_neg, grd_tpos, grd_tneg, grd_fpos, grd_fneg, astep, sln, slc, part, rowc, Blk.cells, Option.map_some, Option.bind_some, abin, homesOf, AV.idof, pick_pos, pick_neg, wrap_id, trim, tidy, gst_if, List.all_cons, List.all_nil, Blk.idlt, Blk.noidb, idlt, idltL, noid, noidL, noinl, noinlL, noimm, allL, AV.allv, pidlt, pnoid, pnoinl, pnoimm, Bool.and_true, Bool.true_and, Bool.and_self, ints_rdc, ints_rdc0, ints_take_all, Int.toNat_natCast, Int.reduceToNat, Nat.mul_one, Nat.div_one, List.length_nil, List.length_cons, List.take_nil, List.take_zero, List.take_succ_cons, List.drop_zero, List.drop_succ_cons, List.getElem?_cons_zero, List.getElem?_cons_succ, List.head?_cons, List.set_cons_zero, List.set_cons_succ, List.cons_append, and_self, and_true, true_and, Nat.le_refl, Int.natCast_add, Int.cast_ofNat_Int, reduceCtorEq, ne_eq, not_false_eq_true, implies_true, results, rvs, rvv, rsIds, immIds, nz, nzc, nz1, tupv, Option.map_none, List.map_cons, List.map_nil, fz, fzL, frz, frzL, frz1, mapL, AV.mapv, ren, renL, ren1, AV.ids, idsL, List.append_nil, List.nil_append, decide_true, decide_false, not_true_eq_false, callP, callM, subHp, putHp, idxOf, dedup, List.reverse_nil, List.reverse_cons, List.contains_nil, Bool.or_false, Bool.false_or, Bool.or_true, Bool.not_true, Bool.not_false, thaw, thawL, setAll, rdc_one, rdc_row, AV.cells, AV.okc, parts, tile, modify_zero, modify_succ, dec_pos, dec_neg, Nat.reduceLeDiff, List.not_mem_nil, or_false, or_true, true_or, if_true, swapAll, swapSt, swapBl, swp, renEnv, Blk.ren, Nat.reduceSub, Nat.reduceDiv, Nat.reduceMod, Nat.reduceMul, Option.getD_some, Option.getD_none, Nat.zero_mul, Nat.one_mul, List.isEmpty_nil, still, opnH, ownbH, fin, pk, pkL, pks, pksL, Blk.still, cnt, unpk, cut, cut3, Option.isSome_some, Option.isSome_none, Bool.false_eq_true, Nat.sub_zero, List.getD_cons_zero, List.getD_cons_succ, Nat.le_add_right, Nat.zero_le, List.length_append, List.length_set, ints_drop, ints_take, ints_set, ghost_norm', take_len_drop, List.length_take, List.length_drop, d1146_b0, H1, hdsV_len, e, e2]
      · have e2 := ng_len (v := false) (L := A) (i := A.length) (by omega)
        simp (config := { maxSteps := 1000000 }) (disch := omega) only [go_sem, unx_miss, Option.any_some, Nat.zero_div, beq_self_eq_true, Bool.true_or, List.isEmpty_cons, Int.zero_add, bindParams, bindTo, ↓reduceIte, Nat.reduceEqDiff, Nat.reduceAdd, Nat.zero_add, Nat.add_zero, if_pos, if_neg, cnd_pos, cnd_neg, grd_tpos, grd_tneg, grd_fpos, grd_fneg, astep, sln, slc, part, rowc, Blk.cells, Option.map_some, Option.bind_some, abin, homesOf, AV.idof, pick_pos, pick_neg, wrap_id, trim, tidy, gst_if, List.all_cons, List.all_nil, Blk.idlt, Blk.noidb, idlt, idltL, noid, noidL, noinl, noinlL, noimm, allL, AV.allv, pidlt, pnoid, pnoinl, pnoimm, Bool.and_true, Bool.true_and, Bool.and_self, ints_rdc, ints_rdc0, ints_take_all, Int.toNat_natCast, Int.reduceToNat, Nat.mul_one, Nat.div_one, List.length_nil, List.length_cons, List.take_nil, List.take_zero, List.take_succ_cons, List.drop_zero, List.drop_succ_cons, List.getElem?_cons_zero, List.getElem?_cons_succ, List.head?_cons, List.set_cons_zero, List.set_cons_succ, List.cons_append, and_self, and_true, true_and, Nat.le_refl, Int.natCast_add, Int.cast_ofNat_Int, reduceCtorEq, ne_eq, not_false_eq_true, implies_true, results, rvs, rvv, rsIds, immIds, nz, nzc, nz1, tupv, Option.map_none, List.map_cons, List.map_nil, fz, fzL, frz, frzL, frz1, mapL, AV.mapv, ren, renL, ren1, AV.ids, idsL, List.append_nil, List.nil_append, decide_true, decide_false, not_true_eq_false, callP, callM, subHp, putHp, idxOf, dedup, List.reverse_nil, List.reverse_cons, List.contains_nil, Bool.or_false, Bool.false_or, Bool.or_true, Bool.not_true, Bool.not_false, thaw, thawL, setAll, rdc_one, rdc_row, AV.cells, AV.okc, parts, tile, modify_zero, modify_succ, dec_pos, dec_neg, Nat.reduceLeDiff, List.not_mem_nil, or_false, or_true, true_or, if_true, swapAll, swapSt, swapBl, swp, renEnv, Blk.ren, Nat.reduceSub, Nat.reduceDiv, Nat.reduceMod, Nat.reduceMul, Option.getD_some, Option.getD_none, Nat.zero_mul, Nat.one_mul, List.isEmpty_nil, still, opnH, ownbH, fin, pk, pkL, pks, pksL, Blk.still, cnt, unpk, cut, cut3, Option.isSome_some, Option.isSome_none, Bool.false_eq_true, Nat.sub_zero, List.getD_cons_zero, List.getD_cons_succ, Nat.le_add_right, Nat.zero_le, List.length_append, List.length_set, ints_drop, ints_take, ints_set, ghost_norm', take_len_drop, List.length_take, List.length_drop, d1146_b0, H1, hdsV_len, e2]
        refine Ev_loop0 (fun i => ⟨[(0, .sl 9 (hdsS l)), (11, .own 9 1), (18, .own 9 4), (30, .bool true), (32, .int .i64 (i : Int))], H1 fr l (ng false A A.length) D (ng true G i) I P x U, 0, [(1, 10, [0, 11, 18, 30, 32], [(11, 1), (18, 4)]), (0, 10, [0, 11, 13, 18, 30, 31], [(11, 1), (13, 2), (18, 4)])]⟩) G.length (by simp only [ng_zero]; rfl) (fun i hi => ?_) ?_
        · have e := ng_set (v := true) hi
          have e2 := ng_len (v := true) (L := G) (i := i) (by omega)
          cases fr <;> simp (config := { maxSteps := 1000000 }) (disch := omega) only [go_sem, unx_miss, Option.any_some, Nat.zero_div, beq_self_eq_true, Bool.true_or, List.isEmpty_cons, Int.zero_add, bindParams, bindTo, ↓reduceIte, Nat.reduceEqDiff, Nat.reduceAdd, Nat.zero_add, Nat.add_zero, if_pos, if_neg, cnd_pos, cnd_neg, grd_tpos, grd_tneg, grd_fpos, grd_fneg, astep, sln, slc, part, rowc, Blk.cells, Option.map_some, Option.bind_some, abin, homesOf, AV.idof, pick_pos, pick_neg, wrap_id, trim, tidy, gst_if, List.all_cons, List.all_nil, Blk.idlt, Blk.noidb, idlt, idltL, noid, noidL, noinl, noinlL, noimm, allL, AV.allv, pidlt, pnoid, pnoinl, pnoimm, Bool.and_true, Bool.true_and, Bool.and_self, ints_rdc, ints_rdc0, ints_take_all, Int.toNat_natCast, Int.reduceToNat, Nat.mul_one, Nat.div_one, List.length_nil, List.length_cons, List.take_nil, List.take_zero, List.take_succ_cons, List.drop_zero, List.drop_succ_cons, List.getElem?_cons_zero, List.getElem?_cons_succ, List.head?_cons, List.set_cons_zero, List.set_cons_succ, List.cons_append, and_self, and_true, true_and, Nat.le_refl, Int.natCast_add, Int.cast_ofNat_Int, reduceCtorEq, ne_eq, not_false_eq_true, implies_true, results, rvs, rvv, rsIds, immIds, nz, nzc, nz1, tupv, Option.map_none, List.map_cons, List.map_nil, fz, fzL, frz, frzL, frz1, mapL, AV.mapv, ren, renL, ren1, AV.ids, idsL, List.append_nil, List.nil_append, decide_true, decide_false, not_true_eq_false, callP, callM, subHp, putHp, idxOf, dedup, List.reverse_nil, List.reverse_cons, List.contains_nil, Bool.or_false, Bool.false_or, Bool.or_true, Bool.not_true, Bool.not_false, thaw, thawL, setAll, rdc_one, rdc_row, AV.cells, AV.okc, parts, tile, modify_zero, modify_succ, dec_pos, dec_neg, Nat.reduceLeDiff, List.not_mem_nil, or_false, or_true, true_or, if_true, swapAll, swapSt, swapBl, swp, renEnv, Blk.ren, Nat.reduceSub, Nat.reduceDiv, Nat.reduceMod, Nat.reduceMul, Option.getD_some, Option.getD_none, Nat.zero_mul, Nat.one_mul, List.isEmpty_nil, still, opnH, ownbH, fin, pk, pkL, pks, pksL, Blk.still, cnt, unpk, cut, cut3, Option.isSome_some, Option.isSome_none, Bool.false_eq_true, Nat.sub_zero, List.getD_cons_zero, List.getD_cons_succ, Nat.le_add_right, Nat.zero_le, List.length_append, List.length_set, ints_drop, ints_take, ints_set, ghost_norm', take_len_drop, List.length_take, List.length_drop, d1146_b1, H1, hdsV_len, e, e2]
        · have e2 := ng_len (v := true) (L := G) (i := G.length) (by omega)
          cases fr <;> simp (config := { maxSteps := 1000000 }) (disch := omega) only [go_sem, unx_miss, Option.any_some, Nat.zero_div, beq_self_eq_true, Bool.true_or, List.isEmpty_cons, Int.zero_add, bindParams, bindTo, ↓reduceIte, Nat.reduceEqDiff, Nat.reduceAdd, Nat.zero_add, Nat.add_zero, if_pos, if_neg, cnd_pos, cnd_neg, grd_tpos, grd_tneg, grd_fpos, grd_fneg, astep, sln, slc, part, rowc, Blk.cells, Option.map_some, Option.bind_some, abin, homesOf, AV.idof, pick_pos, pick_neg, wrap_id, trim, tidy, gst_if, List.all_cons, List.all_nil, Blk.idlt, Blk.noidb, idlt, idltL, noid, noidL, noinl, noinlL, noimm, allL, AV.allv, pidlt, pnoid, pnoinl, pnoimm, Bool.and_true, Bool.true_and, Bool.and_self, ints_rdc, ints_rdc0, ints_take_all, Int.toNat_natCast, Int.reduceToNat, Nat.mul_one, Nat.div_one, List.length_nil, List.length_cons, List.take_nil, List.take_zero, List.take_succ_cons, List.drop_zero, List.drop_succ_cons, List.getElem?_cons_zero, List.getElem?_cons_succ, List.head?_cons, List.set_cons_zero, List.set_cons_succ, List.cons_append, and_self, and_true, true_and, Nat.le_refl, Int.natCast_add, Int.cast_ofNat_Int, reduceCtorEq, ne_eq, not_false_eq_true, implies_true, results, rvs, rvv, rsIds, immIds, nz, nzc, nz1, tupv, Option.map_none, List.map_cons, List.map_nil, fz, fzL, frz, frzL, frz1, mapL, AV.mapv, ren, renL, ren1, AV.ids, idsL, List.append_nil, List.nil_append, decide_true, decide_false, not_true_eq_false, callP, callM, subHp, putHp, idxOf, dedup, List.reverse_nil, List.reverse_cons, List.contains_nil, Bool.or_false, Bool.false_or, Bool.or_true, Bool.not_true, Bool.not_false, thaw, thawL, setAll, rdc_one, rdc_row, AV.cells, AV.okc, parts, tile, modify_zero, modify_succ, dec_pos, dec_neg, Nat.reduceLeDiff, List.not_mem_nil, or_false, or_true, true_or, if_true, swapAll, swapSt, swapBl, swp, renEnv, Blk.ren, Nat.reduceSub, Nat.reduceDiv, Nat.reduceMod, Nat.reduceMul, Option.getD_some, Option.getD_none, Nat.zero_mul, Nat.one_mul, List.isEmpty_nil, still, opnH, ownbH, fin, pk, pkL, pks, pksL, Blk.still, cnt, unpk, cut, cut3, Option.isSome_some, Option.isSome_none, Bool.false_eq_true, Nat.sub_zero, List.getD_cons_zero, List.getD_cons_succ, Nat.le_add_right, Nat.zero_le, List.length_append, List.length_set, ints_drop, ints_take, ints_set, ghost_norm', take_len_drop, List.length_take, List.length_drop, d1146_b1, H1, hdsV_len, e2, holds_run, s4]

end Go.Proofs.Ytoldddplaalfiaa
