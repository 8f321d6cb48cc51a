/-
  Layer 23: WaitFirst, WaitBack.
-/
import Derived.Test.YtfobdiiolebipaaK23
namespace Go.Proofs.Ytfobdiiolebipaa
set_option linter.unusedSimpArgs false
set_option linter.unusedVariables false
set_option maxHeartbeats 4000000
set_option maxRecDepth 100000

def rq (n : Int) : Req := ⟨n, 0, 0, 0, 0, [], 0, 0⟩
theorem okW_nil : okW [] := ⟨by simp, by simp⟩
theorem okW_one (n : Int) : okW [rq n] := ⟨by simp, fun r hr => by simp at hr; subst hr; simp [rq]⟩

theorem waits_run : runP tab 1096 [] [] = some (.bool true, []) := by
  refine runP_fn t1096 rfl ?_
  have g1 : runP tab 1086 [.sl 1 (reqsS []), .int .i64 1, .agg (reqS (rq 1))] [] = some (.tup [.vec 8 (reqsV [rq 1]), .int .i64 0], []) := (vput_run (.inr rfl) okW_nil (by simp [rq])).trans (by rw [if_neg (by decide), if_neg (by decide)]; rfl)
  have g2 : runP tab 1086 [.sl 8 (reqsS [rq 1]), .int .i64 1, .agg (reqS (rq 2))] [] = some (.tup [.vec 8 [], .int .i64 252], []) := (vput_run (.inl rfl) (okW_one 1) (by simp [rq])).trans (by rw [if_neg (by decide), if_pos (by decide)])
  have g3 : runP tab 1086 [.sl 8 (reqsS [rq 1]), .int .i64 1, .agg (reqS (rq 1))] [] = some (.tup [.vec 8 [], .int .i64 150], []) := (vput_run (.inl rfl) (okW_one 1) (by simp [rq])).trans (by rw [if_pos (by decide)])
  have g4 : runP tab 1088 [.sl 8 (reqsS [rq 1])] [] = some (.tup [.agg (reqV (rq 1)), .vec 8 (reqsV []), .bool true], []) := vnext_run (.inl rfl) (okW_one 1)
  simp only [reqsS, reqsV, reqS, reqV, rq, strs, List.flatMap_cons, List.flatMap_nil, List.map_nil, List.append_nil] at g1 g2 g3 g4
  simp (config := { maxSteps := 1000000 }) (disch := omega) only [go_sem, unx_miss, Option.any_some, Nat.zero_div, beq_self_eq_true, Bool.true_or, List.isEmpty_cons, Int.zero_add, bindParams, bindTo, ↓reduceIte, Nat.reduceEqDiff, Nat.reduceAdd, Nat.zero_add, Nat.add_zero, if_pos, if_neg, cnd_pos, cnd_neg, grd_tpos, grd_tneg, grd_fpos, grd_fneg, astep, sln, slc, part, rowc, Blk.cells, Option.map_some, Option.bind_some, abin, homesOf, AV.idof, pick_pos, pick_neg, wrap_id, trim, tidy, gst_if, List.all_cons, List.all_nil, Blk.idlt, Blk.noidb, idlt, idltL, noid, noidL, noinl, noinlL, noimm, allL, AV.allv, pidlt, pnoid, pnoinl, pnoimm, Bool.and_true, Bool.true_and, Bool.and_self, ints_rdc, ints_rdc0, ints_take_all, Int.toNat_natCast, Int.reduceToNat, Nat.mul_one, Nat.div_one, List.length_nil, List.length_cons, List.take_nil, List.take_zero, List.take_succ_cons, List.drop_zero, List.drop_succ_cons, List.getElem?_cons_zero, List.getElem?_cons_succ, List.head?_cons, List.set_cons_zero, List.set_cons_succ, List.cons_append, and_self, and_true, true_and, Nat.le_refl, Int.natCast_add, Int.cast_ofNat_Int, reduceCtorEq, ne_eq, not_false_eq_true, implies_true, results, rvs, rvv, rsIds, immIds, nz, nzc, nz1, tupv, Option.map_none, List.map_cons, List.map_nil, fz, fzL, frz, frzL, frz1, mapL, AV.mapv, ren, renL, ren1, AV.ids, idsL, List.append_nil, List.nil_append, decide_true, decide_false, not_true_eq_false, callP, callM, subHp, putHp, idxOf, dedup, List.reverse_nil, List.reverse_cons, List.contains_nil, Bool.or_false, Bool.false_or, Bool.or_true, Bool.not_true, Bool.not_false, thaw, thawL, setAll, rdc_one, rdc_row, AV.cells, AV.okc, parts, tile, modify_zero, modify_succ, dec_pos, dec_neg, Nat.reduceLeDiff, List.not_mem_nil, or_false, or_true, true_or, if_true, swapAll, swapSt, swapBl, swp, renEnv, Blk.ren, Nat.reduceSub, Nat.reduceDiv, Nat.reduceMod, Nat.reduceMul, Option.getD_some, Option.getD_none, Nat.zero_mul, Nat.one_mul, List.isEmpty_nil, still, opnH, ownbH, fin, pk, pkL, pks, pksL, Blk.still, cnt, unpk, cut, cut3, Option.isSome_some, Option.isSome_none, Bool.false_eq_true, Nat.sub_zero, List.getD_cons_zero, List.getD_cons_succ, Nat.le_add_right, Nat.zero_le, List.length_append, List.length_set, ints_drop, ints_take, ints_set, ghost_norm', take_len_drop, List.length_take, List.length_drop, d1096, g1, g2, g3, g4]

theorem plc_head (x : Req) (t : List Req) : plc (x :: t) x.id = (0, true) := by
  simp [plc, List.findIdx?_cons]
theorem plc_last {l : List Req} {x : Req} (h : (plc l x.id).2 = false) : plc (l ++ [x]) x.id = ((l.length : Int), true) := by
  unfold plc at h ⊢
  split at h
  · cases h
  · rename_i hn
    rw [List.findIdx?_append, hn]
    simp [List.findIdx?_cons]
theorem left_head (x : Req) (t : List Req) : left (x :: t) x.id = t := by simp [left, plc_head]
theorem reqsS_noimm (l : List Req) : l = [] → allL pnoimm (reqsS l) = true := by rintro rfl; rfl

theorem first_run {l : List Req} (h1 : l.length ≤ 9223372036854775807) (h2 : ∀ r ∈ l, r.fits) : runP tab 1082 [.sl 8 (reqsS l)] [] = some (.bool true, []) := by
  refine runP_fn t1082 rfl ?_
  have gb := bigL_run h1 h2
  cases hb : bigL l with
  | true =>
    rw [hb] at gb
    simp (config := { maxSteps := 1000000 }) (disch := omega) only [go_sem, unx_miss, Option.any_some, Nat.zero_div, beq_self_eq_true, Bool.true_or, List.isEmpty_cons, Int.zero_add, bindParams, bindTo, ↓reduceIte, Nat.reduceEqDiff, Nat.reduceAdd, Nat.zero_add, Nat.add_zero, if_pos, if_neg, cnd_pos, cnd_neg, grd_tpos, grd_tneg, grd_fpos, grd_fneg, astep, sln, slc, part, rowc, Blk.cells, Option.map_some, Option.bind_some, abin, homesOf, AV.idof, pick_pos, pick_neg, wrap_id, trim, tidy, gst_if, List.all_cons, List.all_nil, Blk.idlt, Blk.noidb, idlt, idltL, noid, noidL, noinl, noinlL, noimm, allL, AV.allv, pidlt, pnoid, pnoinl, pnoimm, Bool.and_true, Bool.true_and, Bool.and_self, ints_rdc, ints_rdc0, ints_take_all, Int.toNat_natCast, Int.reduceToNat, Nat.mul_one, Nat.div_one, List.length_nil, List.length_cons, List.take_nil, List.take_zero, List.take_succ_cons, List.drop_zero, List.drop_succ_cons, List.getElem?_cons_zero, List.getElem?_cons_succ, List.head?_cons, List.set_cons_zero, List.set_cons_succ, List.cons_append, and_self, and_true, true_and, Nat.le_refl, Int.natCast_add, Int.cast_ofNat_Int, reduceCtorEq, ne_eq, not_false_eq_true, implies_true, results, rvs, rvv, rsIds, immIds, nz, nzc, nz1, tupv, Option.map_none, List.map_cons, List.map_nil, fz, fzL, frz, frzL, frz1, mapL, AV.mapv, ren, renL, ren1, AV.ids, idsL, List.append_nil, List.nil_append, decide_true, decide_false, not_true_eq_false, callP, callM, subHp, putHp, idxOf, dedup, List.reverse_nil, List.reverse_cons, List.contains_nil, Bool.or_false, Bool.false_or, Bool.or_true, Bool.not_true, Bool.not_false, thaw, thawL, setAll, rdc_one, rdc_row, AV.cells, AV.okc, parts, tile, modify_zero, modify_succ, dec_pos, dec_neg, Nat.reduceLeDiff, List.not_mem_nil, or_false, or_true, true_or, if_true, swapAll, swapSt, swapBl, swp, renEnv, Blk.ren, Nat.reduceSub, Nat.reduceDiv, Nat.reduceMod, Nat.reduceMul, Option.getD_some, Option.getD_none, Nat.zero_mul, Nat.one_mul, List.isEmpty_nil, still, opnH, ownbH, fin, pk, pkL, pks, pksL, Blk.still, cnt, unpk, cut, cut3, Option.isSome_some, Option.isSome_none, Bool.false_eq_true, Nat.sub_zero, List.getD_cons_zero, List.getD_cons_succ, Nat.le_add_right, Nat.zero_le, List.length_append, List.length_set, ints_drop, ints_take, ints_set, ghost_norm', take_len_drop, List.length_take, List.length_drop, d1082, gb]
  | false =>
    rw [hb] at gb
    obtain ⟨h60, hw⟩ := bigL_ok hb
    have g1 := vnext_run (.inl rfl) hw
    cases l with
    | nil =>
      simp only [reqV, z0, strs, List.map_nil, reqsS_nil] at g1 gb
      simp (config := { maxSteps := 1000000 }) (disch := omega) only [go_sem, unx_miss, Option.any_some, Nat.zero_div, beq_self_eq_true, Bool.true_or, List.isEmpty_cons, Int.zero_add, bindParams, bindTo, ↓reduceIte, Nat.reduceEqDiff, Nat.reduceAdd, Nat.zero_add, Nat.add_zero, if_pos, if_neg, cnd_pos, cnd_neg, grd_tpos, grd_tneg, grd_fpos, grd_fneg, astep, sln, slc, part, rowc, Blk.cells, Option.map_some, Option.bind_some, abin, homesOf, AV.idof, pick_pos, pick_neg, wrap_id, trim, tidy, gst_if, List.all_cons, List.all_nil, Blk.idlt, Blk.noidb, idlt, idltL, noid, noidL, noinl, noinlL, noimm, allL, AV.allv, pidlt, pnoid, pnoinl, pnoimm, Bool.and_true, Bool.true_and, Bool.and_self, ints_rdc, ints_rdc0, ints_take_all, Int.toNat_natCast, Int.reduceToNat, Nat.mul_one, Nat.div_one, List.length_nil, List.length_cons, List.take_nil, List.take_zero, List.take_succ_cons, List.drop_zero, List.drop_succ_cons, List.getElem?_cons_zero, List.getElem?_cons_succ, List.head?_cons, List.set_cons_zero, List.set_cons_succ, List.cons_append, and_self, and_true, true_and, Nat.le_refl, Int.natCast_add, Int.cast_ofNat_Int, reduceCtorEq, ne_eq, not_false_eq_true, implies_true, results, rvs, rvv, rsIds, immIds, nz, nzc, nz1, tupv, Option.map_none, List.map_cons, List.map_nil, fz, fzL, frz, frzL, frz1, mapL, AV.mapv, ren, renL, ren1, AV.ids, idsL, List.append_nil, List.nil_append, decide_true, decide_false, not_true_eq_false, callP, callM, subHp, putHp, idxOf, dedup, List.reverse_nil, List.reverse_cons, List.contains_nil, Bool.or_false, Bool.false_or, Bool.or_true, Bool.not_true, Bool.not_false, thaw, thawL, setAll, rdc_one, rdc_row, AV.cells, AV.okc, parts, tile, modify_zero, modify_succ, dec_pos, dec_neg, Nat.reduceLeDiff, List.not_mem_nil, or_false, or_true, true_or, if_true, swapAll, swapSt, swapBl, swp, renEnv, Blk.ren, Nat.reduceSub, Nat.reduceDiv, Nat.reduceMod, Nat.reduceMul, Option.getD_some, Option.getD_none, Nat.zero_mul, Nat.one_mul, List.isEmpty_nil, still, opnH, ownbH, fin, pk, pkL, pks, pksL, Blk.still, cnt, unpk, cut, cut3, Option.isSome_some, Option.isSome_none, Bool.false_eq_true, Nat.sub_zero, List.getD_cons_zero, List.getD_cons_succ, Nat.le_add_right, Nat.zero_le, List.length_append, List.length_set, ints_drop, ints_take, ints_set, ghost_norm', take_len_drop, List.length_take, List.length_drop, d1082, gb, g1, waits_run, reqsS_nil]
    | cons x t =>
      have hwt : okW t := ⟨by have := hw.1; simp at this; omega, fun r hr => hw.2 r (by simp [hr])⟩
      have hwx := hw.2 x (by simp)
      have g2 := vtake_run (x := x.id) (.inl rfl) hw
      rw [left_head, plc_head] at g2
      have g3 := vput_run (most := (t.length : Int) + 1) (.inl rfl) hwt hwx
      have hlt : t.length ≤ 9223372036854775807 := by have := hwt.1; omega
      have g4 := place_run (l := t) (x := x.id) (.inl rfl) hlt
      have g5 := same_run (okW_R hwt) (okW_R hwt)
      simp only [beq_self_eq_true] at g5
      have hcl : (x :: t).length * 8 / 8 = t.length + 1 := by simp
      have htl := hwt.1
      cases hp : (plc t x.id).2 with
      | true =>
        rw [hp] at g3 g4
        rw [if_pos rfl] at g3
        simp only [reqS, reqV] at g1 g3
        simp (config := { maxSteps := 1000000 }) (disch := omega) only [go_sem, unx_miss, Option.any_some, Nat.zero_div, beq_self_eq_true, Bool.true_or, List.isEmpty_cons, Int.zero_add, bindParams, bindTo, ↓reduceIte, Nat.reduceEqDiff, Nat.reduceAdd, Nat.zero_add, Nat.add_zero, if_pos, if_neg, cnd_pos, cnd_neg, grd_tpos, grd_tneg, grd_fpos, grd_fneg, astep, sln, slc, part, rowc, Blk.cells, Option.map_some, Option.bind_some, abin, homesOf, AV.idof, pick_pos, pick_neg, wrap_id, trim, tidy, gst_if, List.all_cons, List.all_nil, Blk.idlt, Blk.noidb, idlt, idltL, noid, noidL, noinl, noinlL, noimm, allL, AV.allv, pidlt, pnoid, pnoinl, pnoimm, Bool.and_true, Bool.true_and, Bool.and_self, ints_rdc, ints_rdc0, ints_take_all, Int.toNat_natCast, Int.reduceToNat, Nat.mul_one, Nat.div_one, List.length_nil, List.length_cons, List.take_nil, List.take_zero, List.take_succ_cons, List.drop_zero, List.drop_succ_cons, List.getElem?_cons_zero, List.getElem?_cons_succ, List.head?_cons, List.set_cons_zero, List.set_cons_succ, List.cons_append, and_self, and_true, true_and, Nat.le_refl, Int.natCast_add, Int.cast_ofNat_Int, reduceCtorEq, ne_eq, not_false_eq_true, implies_true, results, rvs, rvv, rsIds, immIds, nz, nzc, nz1, tupv, Option.map_none, List.map_cons, List.map_nil, fz, fzL, frz, frzL, frz1, mapL, AV.mapv, ren, renL, ren1, AV.ids, idsL, List.append_nil, List.nil_append, decide_true, decide_false, not_true_eq_false, callP, callM, subHp, putHp, idxOf, dedup, List.reverse_nil, List.reverse_cons, List.contains_nil, Bool.or_false, Bool.false_or, Bool.or_true, Bool.not_true, Bool.not_false, thaw, thawL, setAll, rdc_one, rdc_row, AV.cells, AV.okc, parts, tile, modify_zero, modify_succ, dec_pos, dec_neg, Nat.reduceLeDiff, List.not_mem_nil, or_false, or_true, true_or, if_true, swapAll, swapSt, swapBl, swp, renEnv, Blk.ren, Nat.reduceSub, Nat.reduceDiv, Nat.reduceMod, Nat.reduceMul, Option.getD_some, Option.getD_none, Nat.zero_mul, Nat.one_mul, List.isEmpty_nil, still, opnH, ownbH, fin, pk, pkL, pks, pksL, Blk.still, cnt, unpk, cut, cut3, Option.isSome_some, Option.isSome_none, Bool.false_eq_true, Nat.sub_zero, List.getD_cons_zero, List.getD_cons_succ, Nat.le_add_right, Nat.zero_le, List.length_append, List.length_set, ints_drop, ints_take, ints_set, ghost_norm', take_len_drop, List.length_take, List.length_drop, d1082, gb, g1, g2, g3, g4, g5, waits_run]
      | false =>
        rw [hp] at g3 g4
        rw [if_neg (by simp), if_neg (by omega)] at g3
        have g6 := place_run (l := t ++ [x]) (x := x.id) (.inl rfl) (by simp; omega)
        rw [plc_last hp] at g6
        simp only [reqS, reqV] at g1 g3
        simp (config := { maxSteps := 1000000 }) (disch := omega) only [go_sem, unx_miss, Option.any_some, Nat.zero_div, beq_self_eq_true, Bool.true_or, List.isEmpty_cons, Int.zero_add, bindParams, bindTo, ↓reduceIte, Nat.reduceEqDiff, Nat.reduceAdd, Nat.zero_add, Nat.add_zero, if_pos, if_neg, cnd_pos, cnd_neg, grd_tpos, grd_tneg, grd_fpos, grd_fneg, astep, sln, slc, part, rowc, Blk.cells, Option.map_some, Option.bind_some, abin, homesOf, AV.idof, pick_pos, pick_neg, wrap_id, trim, tidy, gst_if, List.all_cons, List.all_nil, Blk.idlt, Blk.noidb, idlt, idltL, noid, noidL, noinl, noinlL, noimm, allL, AV.allv, pidlt, pnoid, pnoinl, pnoimm, Bool.and_true, Bool.true_and, Bool.and_self, ints_rdc, ints_rdc0, ints_take_all, Int.toNat_natCast, Int.reduceToNat, Nat.mul_one, Nat.div_one, List.length_nil, List.length_cons, List.take_nil, List.take_zero, List.take_succ_cons, List.drop_zero, List.drop_succ_cons, List.getElem?_cons_zero, List.getElem?_cons_succ, List.head?_cons, List.set_cons_zero, List.set_cons_succ, List.cons_append, and_self, and_true, true_and, Nat.le_refl, Int.natCast_add, Int.cast_ofNat_Int, reduceCtorEq, ne_eq, not_false_eq_true, implies_true, results, rvs, rvv, rsIds, immIds, nz, nzc, nz1, tupv, Option.map_none, List.map_cons, List.map_nil, fz, fzL, frz, frzL, frz1, mapL, AV.mapv, ren, renL, ren1, AV.ids, idsL, List.append_nil, List.nil_append, decide_true, decide_false, not_true_eq_false, callP, callM, subHp, putHp, idxOf, dedup, List.reverse_nil, List.reverse_cons, List.contains_nil, Bool.or_false, Bool.false_or, Bool.or_true, Bool.not_true, Bool.not_false, thaw, thawL, setAll, rdc_one, rdc_row, AV.cells, AV.okc, parts, tile, modify_zero, modify_succ, dec_pos, dec_neg, Nat.reduceLeDiff, List.not_mem_nil, or_false, or_true, true_or, if_true, swapAll, swapSt, swapBl, swp, renEnv, Blk.ren, Nat.reduceSub, Nat.reduceDiv, Nat.reduceMod, Nat.reduceMul, Option.getD_some, Option.getD_none, Nat.zero_mul, Nat.one_mul, List.isEmpty_nil, still, opnH, ownbH, fin, pk, pkL, pks, pksL, Blk.still, cnt, unpk, cut, cut3, Option.isSome_some, Option.isSome_none, Bool.false_eq_true, Nat.sub_zero, List.getD_cons_zero, List.getD_cons_succ, Nat.le_add_right, Nat.zero_le, List.length_append, List.length_set, ints_drop, ints_take, ints_set, ghost_norm', take_len_drop, List.length_take, List.length_drop, d1082, gb, g1, g2, g3, g4, g5, g6, waits_run]

theorem okR_sub {l m : List Req} (h : okR l) (hl : m.length ≤ l.length) (hs : ∀ r ∈ m, r ∈ l) : okR m := ⟨by have := h.1; omega, fun r hr => h.2 r (hs r hr)⟩
theorem okW_take {l : List Req} (h : okW l) (n : Nat) : okW (l.take n) := ⟨by have := h.1; simp; omega, fun r hr => h.2 r (List.mem_of_mem_take hr)⟩
theorem okW_drop {l : List Req} (h : okW l) (n : Nat) : okW (l.drop n) := ⟨by have := h.1; simp; omega, fun r hr => h.2 r (List.mem_of_mem_drop hr)⟩

theorem plc_id {l : List Req} {x : Int} {i : Nat} (h : plc l x = ((i : Int), true)) : i < l.length ∧ (l.getD i default).id = x := by
  unfold plc at h
  split at h
  · rename_i k hk
    simp only [Prod.mk.injEq, and_true] at h
    obtain rfl : k = i := by omega
    rw [List.findIdx?_eq_some_iff_getElem] at hk
    obtain ⟨h1, h2, _⟩ := hk
    refine ⟨h1, ?_⟩
    rw [List.getD_eq_getElem?_getD, List.getElem?_eq_getElem h1]
    simpa using h2
  · simp at h

theorem back_run {l : List Req} {x : Int} (h1 : l.length ≤ 9223372036854775807) (h2 : ∀ r ∈ l, r.fits) : runP tab 1081 [.sl 8 (reqsS l), .int .i64 x] [] = some (.bool true, []) := by
  refine runP_fn t1081 rfl ?_
  have gb := bigL_run h1 h2
  cases hb : bigL l with
  | true =>
    rw [hb] at gb
    simp (config := { maxSteps := 1000000 }) (disch := omega) only [go_sem, unx_miss, Option.any_some, Nat.zero_div, beq_self_eq_true, Bool.true_or, List.isEmpty_cons, Int.zero_add, bindParams, bindTo, ↓reduceIte, Nat.reduceEqDiff, Nat.reduceAdd, Nat.zero_add, Nat.add_zero, if_pos, if_neg, cnd_pos, cnd_neg, grd_tpos, grd_tneg, grd_fpos, grd_fneg, astep, sln, slc, part, rowc, Blk.cells, Option.map_some, Option.bind_some, abin, homesOf, AV.idof, pick_pos, pick_neg, wrap_id, trim, tidy, gst_if, List.all_cons, List.all_nil, Blk.idlt, Blk.noidb, idlt, idltL, noid, noidL, noinl, noinlL, noimm, allL, AV.allv, pidlt, pnoid, pnoinl, pnoimm, Bool.and_true, Bool.true_and, Bool.and_self, ints_rdc, ints_rdc0, ints_take_all, Int.toNat_natCast, Int.reduceToNat, Nat.mul_one, Nat.div_one, List.length_nil, List.length_cons, List.take_nil, List.take_zero, List.take_succ_cons, List.drop_zero, List.drop_succ_cons, List.getElem?_cons_zero, List.getElem?_cons_succ, List.head?_cons, List.set_cons_zero, List.set_cons_succ, List.cons_append, and_self, and_true, true_and, Nat.le_refl, Int.natCast_add, Int.cast_ofNat_Int, reduceCtorEq, ne_eq, not_false_eq_true, implies_true, results, rvs, rvv, rsIds, immIds, nz, nzc, nz1, tupv, Option.map_none, List.map_cons, List.map_nil, fz, fzL, frz, frzL, frz1, mapL, AV.mapv, ren, renL, ren1, AV.ids, idsL, List.append_nil, List.nil_append, decide_true, decide_false, not_true_eq_false, callP, callM, subHp, putHp, idxOf, dedup, List.reverse_nil, List.reverse_cons, List.contains_nil, Bool.or_false, Bool.false_or, Bool.or_true, Bool.not_true, Bool.not_false, thaw, thawL, setAll, rdc_one, rdc_row, AV.cells, AV.okc, parts, tile, modify_zero, modify_succ, dec_pos, dec_neg, Nat.reduceLeDiff, List.not_mem_nil, or_false, or_true, true_or, if_true, swapAll, swapSt, swapBl, swp, renEnv, Blk.ren, Nat.reduceSub, Nat.reduceDiv, Nat.reduceMod, Nat.reduceMul, Option.getD_some, Option.getD_none, Nat.zero_mul, Nat.one_mul, List.isEmpty_nil, still, opnH, ownbH, fin, pk, pkL, pks, pksL, Blk.still, cnt, unpk, cut, cut3, Option.isSome_some, Option.isSome_none, Bool.false_eq_true, Nat.sub_zero, List.getD_cons_zero, List.getD_cons_succ, Nat.le_add_right, Nat.zero_le, List.length_append, List.length_set, ints_drop, ints_take, ints_set, ghost_norm', take_len_drop, List.length_take, List.length_drop, d1081, gb]
  | false =>
    rw [hb] at gb
    obtain ⟨h60, hw⟩ := bigL_ok hb
    have g1 := place_run (x := x) (.inl rfl) h1
    have g2 := vtake_run (x := x) (.inl rfl) hw
    cases hp : (plc l x).2 with
    | false =>
      have e1 : plc l x = (0, false) := by
        unfold plc at hp ⊢
        split at hp <;> rename_i h <;> simp [h] at hp ⊢
      have e2 : left l x = l := by simp [left, hp]
      rw [e1] at g1 g2
      rw [e2] at g2
      have g3 := same_run (okW_R hw) (okW_R hw)
      simp only [beq_self_eq_true] at g3
      simp (config := { maxSteps := 1000000 }) (disch := omega) only [go_sem, unx_miss, Option.any_some, Nat.zero_div, beq_self_eq_true, Bool.true_or, List.isEmpty_cons, Int.zero_add, bindParams, bindTo, ↓reduceIte, Nat.reduceEqDiff, Nat.reduceAdd, Nat.zero_add, Nat.add_zero, if_pos, if_neg, cnd_pos, cnd_neg, grd_tpos, grd_tneg, grd_fpos, grd_fneg, astep, sln, slc, part, rowc, Blk.cells, Option.map_some, Option.bind_some, abin, homesOf, AV.idof, pick_pos, pick_neg, wrap_id, trim, tidy, gst_if, List.all_cons, List.all_nil, Blk.idlt, Blk.noidb, idlt, idltL, noid, noidL, noinl, noinlL, noimm, allL, AV.allv, pidlt, pnoid, pnoinl, pnoimm, Bool.and_true, Bool.true_and, Bool.and_self, ints_rdc, ints_rdc0, ints_take_all, Int.toNat_natCast, Int.reduceToNat, Nat.mul_one, Nat.div_one, List.length_nil, List.length_cons, List.take_nil, List.take_zero, List.take_succ_cons, List.drop_zero, List.drop_succ_cons, List.getElem?_cons_zero, List.getElem?_cons_succ, List.head?_cons, List.set_cons_zero, List.set_cons_succ, List.cons_append, and_self, and_true, true_and, Nat.le_refl, Int.natCast_add, Int.cast_ofNat_Int, reduceCtorEq, ne_eq, not_false_eq_true, implies_true, results, rvs, rvv, rsIds, immIds, nz, nzc, nz1, tupv, Option.map_none, List.map_cons, List.map_nil, fz, fzL, frz, frzL, frz1, mapL, AV.mapv, ren, renL, ren1, AV.ids, idsL, List.append_nil, List.nil_append, decide_true, decide_false, not_true_eq_false, callP, callM, subHp, putHp, idxOf, dedup, List.reverse_nil, List.reverse_cons, List.contains_nil, Bool.or_false, Bool.false_or, Bool.or_true, Bool.not_true, Bool.not_false, thaw, thawL, setAll, rdc_one, rdc_row, AV.cells, AV.okc, parts, tile, modify_zero, modify_succ, dec_pos, dec_neg, Nat.reduceLeDiff, List.not_mem_nil, or_false, or_true, true_or, if_true, swapAll, swapSt, swapBl, swp, renEnv, Blk.ren, Nat.reduceSub, Nat.reduceDiv, Nat.reduceMod, Nat.reduceMul, Option.getD_some, Option.getD_none, Nat.zero_mul, Nat.one_mul, List.isEmpty_nil, still, opnH, ownbH, fin, pk, pkL, pks, pksL, Blk.still, cnt, unpk, cut, cut3, Option.isSome_some, Option.isSome_none, Bool.false_eq_true, Nat.sub_zero, List.getD_cons_zero, List.getD_cons_succ, Nat.le_add_right, Nat.zero_le, List.length_append, List.length_set, ints_drop, ints_take, ints_set, ghost_norm', take_len_drop, List.length_take, List.length_drop, d1081, gb, g1, g2, g3, waits_run]
    | true =>
      obtain ⟨i, hi, hpe⟩ := plc_lt hp
      have hid := (plc_id hpe).2
      have hle : left l x = l.take i ++ l.drop (i + 1) := by simp [left, hpe]
      rw [hpe] at g1 g2
      rw [hle] at g2
      have l1 : (l.take i ++ l.drop (i + 1)).length = l.length - 1 := by simp; omega
      have t1 : (l.take i ++ l.drop (i + 1)).take i = l.take i := by rw [List.take_append_of_le_length (by simp; omega), List.take_take, Nat.min_self]
      have t2 : (l.take i ++ l.drop (i + 1)).drop i = l.drop (i + 1) := by
        have e : (l.take i).length = i := by simp; omega
        conv => lhs; arg 1; rw [← e]
        exact List.drop_left
      have t3 : (l.drop (i + 1)).take (l.length - 1 - i) = l.drop (i + 1) := List.take_of_length_le (by simp; omega)
      have t4 : (l.drop (i + 1)).take (l.length - (i + 1)) = l.drop (i + 1) := List.take_of_length_le (by simp)
      have g3 := same_run (okW_R (okW_take hw i)) (okW_R (okW_take hw i))
      have g4 := same_run (okW_R (okW_drop hw (i + 1))) (okW_R (okW_drop hw (i + 1)))
      simp only [beq_self_eq_true] at g3 g4
      have hq : ((i : Int) + 1).toNat = i + 1 := by omega
      have hq2 : (l.length : Int) - 1 = ((l.length - 1 : Nat) : Int) := by omega
      generalize l.take i ++ l.drop (i + 1) = m at *
      simp (config := { maxSteps := 1000000 }) (disch := omega) only [go_sem, unx_miss, Option.any_some, Nat.zero_div, beq_self_eq_true, Bool.true_or, List.isEmpty_cons, Int.zero_add, bindParams, bindTo, ↓reduceIte, Nat.reduceEqDiff, Nat.reduceAdd, Nat.zero_add, Nat.add_zero, if_pos, if_neg, cnd_pos, cnd_neg, grd_tpos, grd_tneg, grd_fpos, grd_fneg, astep, sln, slc, part, rowc, Blk.cells, Option.map_some, Option.bind_some, abin, homesOf, AV.idof, pick_pos, pick_neg, wrap_id, trim, tidy, gst_if, List.all_cons, List.all_nil, Blk.idlt, Blk.noidb, idlt, idltL, noid, noidL, noinl, noinlL, noimm, allL, AV.allv, pidlt, pnoid, pnoinl, pnoimm, Bool.and_true, Bool.true_and, Bool.and_self, ints_rdc, ints_rdc0, ints_take_all, Int.toNat_natCast, Int.reduceToNat, Nat.mul_one, Nat.div_one, List.length_nil, List.length_cons, List.take_nil, List.take_zero, List.take_succ_cons, List.drop_zero, List.drop_succ_cons, List.getElem?_cons_zero, List.getElem?_cons_succ, List.head?_cons, List.set_cons_zero, List.set_cons_succ, List.cons_append, and_self, and_true, true_and, Nat.le_refl, Int.natCast_add, Int.cast_ofNat_Int, reduceCtorEq, ne_eq, not_false_eq_true, implies_true, results, rvs, rvv, rsIds, immIds, nz, nzc, nz1, tupv, Option.map_none, List.map_cons, List.map_nil, fz, fzL, frz, frzL, frz1, mapL, AV.mapv, ren, renL, ren1, AV.ids, idsL, List.append_nil, List.nil_append, decide_true, decide_false, not_true_eq_false, callP, callM, subHp, putHp, idxOf, dedup, List.reverse_nil, List.reverse_cons, List.contains_nil, Bool.or_false, Bool.false_or, Bool.or_true, Bool.not_true, Bool.not_false, thaw, thawL, setAll, rdc_one, rdc_row, AV.cells, AV.okc, parts, tile, modify_zero, modify_succ, dec_pos, dec_neg, Nat.reduceLeDiff, List.not_mem_nil, or_false, or_true, true_or, if_true, swapAll, swapSt, swapBl, swp, renEnv, Blk.ren, Nat.reduceSub, Nat.reduceDiv, Nat.reduceMod, Nat.reduceMul, Option.getD_some, Option.getD_none, Nat.zero_mul, Nat.one_mul, List.isEmpty_nil, still, opnH, ownbH, fin, pk, pkL, pks, pksL, Blk.still, cnt, unpk, cut, cut3, Option.isSome_some, Option.isSome_none, Bool.false_eq_true, Nat.sub_zero, List.getD_cons_zero, List.getD_cons_succ, Nat.le_add_right, Nat.zero_le, List.length_append, List.length_set, ints_drop, ints_take, ints_set, ghost_norm', take_len_drop, List.length_take, List.length_drop, d1081, gb, g1, g2, g3, g4, waits_run, reqsS_id, hid, l1, t1, t2, t3, t4, hq, hq2]

end Go.Proofs.Ytfobdiiolebipaa
