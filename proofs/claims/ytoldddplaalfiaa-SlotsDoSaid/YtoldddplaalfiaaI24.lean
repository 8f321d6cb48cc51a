/-
  Layer 24: what makes rows.
-/
import Derived.Test.YtoldddplaalfiaaH24
namespace Go.Proofs.Ytoldddplaalfiaa
set_option linter.unusedSimpArgs false
set_option linter.unusedVariables false
set_option maxHeartbeats 4000000
set_option maxRecDepth 100000

theorem cloner_run {l : List Hd} {s : Nat} (hs : s = 9 ∨ l = []) (h : l.length ≤ 1000000) : runP tab 1169 [.sl s (hdsS l)] [] = some (.vec 9 (hdsS l), []) := by
  rw [runP_orc t1169]
  have h1 : s = 9 ∨ hdsS l = [] := hs.imp_right fun h => by rw [h]; rfl
  have h2 : noinlL (hdsS l) = true := hdsS_noinl' l
  have h3 : noidL (hdsS l) = true := hdsS_noid' l
  simp only [cloneG, h1, h2, h3, true_and, hdsS_len, mul9_div, hdsS_okc]
  rw [if_pos (by constructor <;> first | trivial | omega)]

def okW (l : List Hd) : Prop := l.length ≤ 1000 ∧ ∀ r ∈ l, r.req.words.length ≤ 1000000
theorem okW_H {l : List Hd} (h : okW l) : okH l := ⟨by have := h.1; omega, fun r hr => by have := h.2 r hr; omega⟩

/-- Its words are a row of its own, nil no more. -/
def Hd.own (h : Hd) : Hd := { h with nl := false }
theorem own_key (l : List Hd) : (l.map Hd.own).map Hd.key = l.map Hd.key := by rw [List.map_map]; rfl
theorem hdV_own (h : Hd) : hdV h.own = .bool h.used :: reqV h.req := by simp [hdV, rqV, wV, Hd.own, reqV]

/-- The first i of a row are one's own. -/
def mix (l : List Hd) (i : Nat) : List AV := hdsV ((l.take i).map Hd.own) ++ hdsS (l.drop i)
theorem mix_zero (l : List Hd) : mix l 0 = hdsS l := by simp [mix, hdsV_nil]
theorem mix_all (l : List Hd) : mix l l.length = hdsV (l.map Hd.own) := by simp [mix, hdsS_nil]
theorem mix_len (l : List Hd) (i : Nat) : (mix l i).length = l.length * 9 := by
  simp only [mix, List.length_append, hdsS_len, hdsV_len, List.length_map, List.length_take, List.length_drop]; omega
theorem mix_idlt (n : Nat) (l : List Hd) (i : Nat) : allL (pidlt n) (mix l i) = true := by rw [mix, allL_append, hdsV_idlt', hdsS_idlt']; rfl
theorem mix_okc (l : List Hd) (i : Nat) : (mix l i).all AV.okc = true := by rw [mix, List.all_append, hdsV_okc, hdsS_okc]; rfl
theorem mix_parts {l : List Hd} {i : Nat} (h : i < l.length) : mix l i = hdsV ((l.take i).map Hd.own) ++ (hdS (l.getD i default) ++ hdsS (l.drop (i + 1))) := by
  rw [mix, List.drop_eq_getElem_cons h, hdsS_cons, List.getD_eq_getElem?_getD, List.getElem?_eq_getElem h]; rfl
theorem mix_e {l : List Hd} {i : Nat} (h : i < l.length) : (hdsV ((l.take i).map Hd.own)).length = i * 9 := by rw [hdsV_len, List.length_map, List.length_take]; omega
theorem mix_take9 {l : List Hd} {i : Nat} (h : i < l.length) : ((mix l i).drop (i * 9)).take 9 = hdS (l.getD i default) := by
  rw [mix_parts h, ← mix_e h, List.drop_left]
  exact List.take_left' (hdS_len _)
theorem setAll_mid {A X B Y : List AV} (h : X.length = Y.length) : setAll (A ++ (X ++ B)) A.length Y = A ++ (Y ++ B) := by
  rw [setAll_eq _ _ _ (by simp; omega), List.take_left, List.append_assoc]
  congr 2
  rw [← List.drop_drop, List.drop_left, ← h, List.drop_left]
theorem mix_same {l : List Hd} {i : Nat} (h : i < l.length) : setAll (mix l i) (i * 9) (hdS (l.getD i default)) = mix l i := by
  rw [mix_parts h, ← mix_e h]
  exact setAll_mid rfl
theorem mix_succ {l : List Hd} {i : Nat} (h : i < l.length) : setAll (mix l i) (i * 9 + 1) (reqV (l.getD i default).req) = mix l (i + 1) := by
  have e : (hdsV ((l.take i).map Hd.own) ++ [AV.bool (l.getD i default).used]).length = i * 9 + 1 := by rw [List.length_append, mix_e h]; rfl
  rw [mix_parts h, ← e, show hdS (l.getD i default) ++ hdsS (l.drop (i + 1)) = [AV.bool (l.getD i default).used] ++ (rqS (l.getD i default) ++ hdsS (l.drop (i + 1))) from rfl, ← List.append_assoc, setAll_mid (X := rqS (l.getD i default)) (Y := reqV (l.getD i default).req) rfl, mix, take_snoc default h, List.map_append, ← hdsV_app, List.append_assoc, List.append_assoc]
  congr 1

theorem held_run {l : List Hd} {s : Nat} (hs : s = 9 ∨ l = []) (hw : okW l) : runP tab 1166 [.sl s (hdsS l)] [] = some (.vec 9 (hdsV (l.map Hd.own)), []) := by
  refine runP_fn t1166 rfl ?_
  have h1 := hw.1
  have g := cloner_run hs (by omega : l.length ≤ 1000000)
  simp (config := { maxSteps := 1000000 }) (disch := omega) only [go_sem, unx_miss, Option.any_some, Nat.zero_div, beq_self_eq_true, Bool.true_or, List.isEmpty_cons, Int.zero_add, bindParams, bindTo, ↓reduceIte, Nat.reduceEqDiff, Nat.reduceAdd, Nat.zero_add, Nat.add_zero, if_pos, if_neg, cnd_pos, cnd_neg, grd_tpos, grd_tneg, grd_fpos, grd_fneg, astep, sln, slc, part, rowc, Blk.cells, Option.map_some, Option.bind_some, abin, homesOf, AV.idof, pick_pos, pick_neg, wrap_id, trim, tidy, gst_if, List.all_cons, List.all_nil, Blk.idlt, Blk.noidb, idlt, idltL, noid, noidL, noinl, noinlL, noimm, allL, AV.allv, pidlt, pnoid, pnoinl, pnoimm, Bool.and_true, Bool.true_and, Bool.and_self, ints_rdc, ints_rdc0, ints_take_all, Int.toNat_natCast, Int.reduceToNat, Nat.mul_one, Nat.div_one, List.length_nil, List.length_cons, List.take_nil, List.take_zero, List.take_succ_cons, List.drop_zero, List.drop_succ_cons, List.getElem?_cons_zero, List.getElem?_cons_succ, List.head?_cons, List.set_cons_zero, List.set_cons_succ, List.cons_append, and_self, and_true, true_and, Nat.le_refl, Int.natCast_add, Int.cast_ofNat_Int, reduceCtorEq, ne_eq, not_false_eq_true, implies_true, results, rvs, rvv, rsIds, immIds, nz, nzc, nz1, tupv, Option.map_none, List.map_cons, List.map_nil, fz, fzL, frz, frzL, frz1, mapL, AV.mapv, ren, renL, ren1, AV.ids, idsL, List.append_nil, List.nil_append, decide_true, decide_false, not_true_eq_false, callP, callM, subHp, putHp, idxOf, dedup, List.reverse_nil, List.reverse_cons, List.contains_nil, Bool.or_false, Bool.false_or, Bool.or_true, Bool.not_true, Bool.not_false, thaw, thawL, setAll, rdc_one, rdc_row, AV.cells, AV.okc, parts, tile, modify_zero, modify_succ, dec_pos, dec_neg, Nat.reduceLeDiff, List.not_mem_nil, or_false, or_true, true_or, if_true, swapAll, swapSt, swapBl, swp, renEnv, Blk.ren, Nat.reduceSub, Nat.reduceDiv, Nat.reduceMod, Nat.reduceMul, Option.getD_some, Option.getD_none, Nat.zero_mul, Nat.one_mul, List.isEmpty_nil, still, opnH, ownbH, fin, pk, pkL, pks, pksL, Blk.still, cnt, unpk, cut, cut3, Option.isSome_some, Option.isSome_none, Bool.false_eq_true, Nat.sub_zero, List.getD_cons_zero, List.getD_cons_succ, Nat.le_add_right, Nat.zero_le, List.length_append, List.length_set, ints_drop, ints_take, ints_set, ghost_norm', take_len_drop, List.length_take, List.length_drop, d1166, g]
  refine Ev_loop0 (fun i => ⟨[(3, .own 9 0), (8, .own 9 0), (9, .int .i64 l.length), (10, .int .i64 (i : Int))], [.row false (mix l i)], 0, [(0, 1, [3, 8, 9, 10], [(3, 0), (8, 0)])]⟩) l.length (by rw [mix_zero]; rfl) (fun i hi => ?_) ?_
  · have gr := req_run (hw.2 _ (getD_mem hi) : (l.getD i default).req.words.length ≤ 1000000)
    have e1 := mix_take9 hi
    have e2 := mix_same hi
    have e3 := mix_succ hi
    generalize l.getD i default = r at *
    simp only [reqS, reqV, hdS, rqS, setAll] at gr e1 e2 e3
    simp (config := { maxSteps := 1000000 }) (disch := omega) only [go_sem, unx_miss, Option.any_some, Nat.zero_div, beq_self_eq_true, Bool.true_or, List.isEmpty_cons, Int.zero_add, bindParams, bindTo, ↓reduceIte, Nat.reduceEqDiff, Nat.reduceAdd, Nat.zero_add, Nat.add_zero, if_pos, if_neg, cnd_pos, cnd_neg, grd_tpos, grd_tneg, grd_fpos, grd_fneg, astep, sln, slc, part, rowc, Blk.cells, Option.map_some, Option.bind_some, abin, homesOf, AV.idof, pick_pos, pick_neg, wrap_id, trim, tidy, gst_if, List.all_cons, List.all_nil, Blk.idlt, Blk.noidb, idlt, idltL, noid, noidL, noinl, noinlL, noimm, allL, AV.allv, pidlt, pnoid, pnoinl, pnoimm, Bool.and_true, Bool.true_and, Bool.and_self, ints_rdc, ints_rdc0, ints_take_all, Int.toNat_natCast, Int.reduceToNat, Nat.mul_one, Nat.div_one, List.length_nil, List.length_cons, List.take_nil, List.take_zero, List.take_succ_cons, List.drop_zero, List.drop_succ_cons, List.getElem?_cons_zero, List.getElem?_cons_succ, List.head?_cons, List.set_cons_zero, List.set_cons_succ, List.cons_append, and_self, and_true, true_and, Nat.le_refl, Int.natCast_add, Int.cast_ofNat_Int, reduceCtorEq, ne_eq, not_false_eq_true, implies_true, results, rvs, rvv, rsIds, immIds, nz, nzc, nz1, tupv, Option.map_none, List.map_cons, List.map_nil, fz, fzL, frz, frzL, frz1, mapL, AV.mapv, ren, renL, ren1, AV.ids, idsL, List.append_nil, List.nil_append, decide_true, decide_false, not_true_eq_false, callP, callM, subHp, putHp, idxOf, dedup, List.reverse_nil, List.reverse_cons, List.contains_nil, Bool.or_false, Bool.false_or, Bool.or_true, Bool.not_true, Bool.not_false, thaw, thawL, setAll, rdc_one, rdc_row, AV.cells, AV.okc, parts, tile, modify_zero, modify_succ, dec_pos, dec_neg, Nat.reduceLeDiff, List.not_mem_nil, or_false, or_true, true_or, if_true, swapAll, swapSt, swapBl, swp, renEnv, Blk.ren, Nat.reduceSub, Nat.reduceDiv, Nat.reduceMod, Nat.reduceMul, Option.getD_some, Option.getD_none, Nat.zero_mul, Nat.one_mul, List.isEmpty_nil, still, opnH, ownbH, fin, pk, pkL, pks, pksL, Blk.still, cnt, unpk, cut, cut3, Option.isSome_some, Option.isSome_none, Bool.false_eq_true, Nat.sub_zero, List.getD_cons_zero, List.getD_cons_succ, Nat.le_add_right, Nat.zero_le, List.length_append, List.length_set, ints_drop, ints_take, ints_set, ghost_norm', take_len_drop, List.length_take, List.length_drop, d1166_b0, mix_len, mix_idlt, mix_okc, e1, e2, e3, gr]
    trace_state
  · simp (config := { maxSteps := 1000000 }) (disch := omega) only [go_sem, unx_miss, Option.any_some, Nat.zero_div, beq_self_eq_true, Bool.true_or, List.isEmpty_cons, Int.zero_add, bindParams, bindTo, ↓reduceIte, Nat.reduceEqDiff, Nat.reduceAdd, Nat.zero_add, Nat.add_zero, if_pos, if_neg, cnd_pos, cnd_neg, grd_tpos, grd_tneg, grd_fpos, grd_fneg, astep, sln, slc, part, rowc, Blk.cells, Option.map_some, Option.bind_some, abin, homesOf, AV.idof, pick_pos, pick_neg, wrap_id, trim, tidy, gst_if, List.all_cons, List.all_nil, Blk.idlt, Blk.noidb, idlt, idltL, noid, noidL, noinl, noinlL, noimm, allL, AV.allv, pidlt, pnoid, pnoinl, pnoimm, Bool.and_true, Bool.true_and, Bool.and_self, ints_rdc, ints_rdc0, ints_take_all, Int.toNat_natCast, Int.reduceToNat, Nat.mul_one, Nat.div_one, List.length_nil, List.length_cons, List.take_nil, List.take_zero, List.take_succ_cons, List.drop_zero, List.drop_succ_cons, List.getElem?_cons_zero, List.getElem?_cons_succ, List.head?_cons, List.set_cons_zero, List.set_cons_succ, List.cons_append, and_self, and_true, true_and, Nat.le_refl, Int.natCast_add, Int.cast_ofNat_Int, reduceCtorEq, ne_eq, not_false_eq_true, implies_true, results, rvs, rvv, rsIds, immIds, nz, nzc, nz1, tupv, Option.map_none, List.map_cons, List.map_nil, fz, fzL, frz, frzL, frz1, mapL, AV.mapv, ren, renL, ren1, AV.ids, idsL, List.append_nil, List.nil_append, decide_true, decide_false, not_true_eq_false, callP, callM, subHp, putHp, idxOf, dedup, List.reverse_nil, List.reverse_cons, List.contains_nil, Bool.or_false, Bool.false_or, Bool.or_true, Bool.not_true, Bool.not_false, thaw, thawL, setAll, rdc_one, rdc_row, AV.cells, AV.okc, parts, tile, modify_zero, modify_succ, dec_pos, dec_neg, Nat.reduceLeDiff, List.not_mem_nil, or_false, or_true, true_or, if_true, swapAll, swapSt, swapBl, swp, renEnv, Blk.ren, Nat.reduceSub, Nat.reduceDiv, Nat.reduceMod, Nat.reduceMul, Option.getD_some, Option.getD_none, Nat.zero_mul, Nat.one_mul, List.isEmpty_nil, still, opnH, ownbH, fin, pk, pkL, pks, pksL, Blk.still, cnt, unpk, cut, cut3, Option.isSome_some, Option.isSome_none, Bool.false_eq_true, Nat.sub_zero, List.getD_cons_zero, List.getD_cons_succ, Nat.le_add_right, Nat.zero_le, List.length_append, List.length_set, ints_drop, ints_take, ints_set, ghost_norm', take_len_drop, List.length_take, List.length_drop, d1166_b0, mix_all]

theorem own_run {l : List Hd} {s : Nat} (hs : s = 9 ∨ l = []) (hb : l.length ≤ 1000) : runP tab 1151 [.sl s (hdsS l)] [] = some (.vec 9 (hdsS l), []) := by
  refine runP_fn t1151 rfl ?_
  have h1 : s = 9 ∨ hdsS l = [] := hs.imp_right fun h => by rw [h]; rfl
  simp (config := { maxSteps := 1000000 }) (disch := omega) only [go_sem, unx_miss, Option.any_some, Nat.zero_div, beq_self_eq_true, Bool.true_or, List.isEmpty_cons, Int.zero_add, bindParams, bindTo, ↓reduceIte, Nat.reduceEqDiff, Nat.reduceAdd, Nat.zero_add, Nat.add_zero, if_pos, if_neg, cnd_pos, cnd_neg, grd_tpos, grd_tneg, grd_fpos, grd_fneg, astep, sln, slc, part, rowc, Blk.cells, Option.map_some, Option.bind_some, abin, homesOf, AV.idof, pick_pos, pick_neg, wrap_id, trim, tidy, gst_if, List.all_cons, List.all_nil, Blk.idlt, Blk.noidb, idlt, idltL, noid, noidL, noinl, noinlL, noimm, allL, AV.allv, pidlt, pnoid, pnoinl, pnoimm, Bool.and_true, Bool.true_and, Bool.and_self, ints_rdc, ints_rdc0, ints_take_all, Int.toNat_natCast, Int.reduceToNat, Nat.mul_one, Nat.div_one, List.length_nil, List.length_cons, List.take_nil, List.take_zero, List.take_succ_cons, List.drop_zero, List.drop_succ_cons, List.getElem?_cons_zero, List.getElem?_cons_succ, List.head?_cons, List.set_cons_zero, List.set_cons_succ, List.cons_append, and_self, and_true, true_and, Nat.le_refl, Int.natCast_add, Int.cast_ofNat_Int, reduceCtorEq, ne_eq, not_false_eq_true, implies_true, results, rvs, rvv, rsIds, immIds, nz, nzc, nz1, tupv, Option.map_none, List.map_cons, List.map_nil, fz, fzL, frz, frzL, frz1, mapL, AV.mapv, ren, renL, ren1, AV.ids, idsL, List.append_nil, List.nil_append, decide_true, decide_false, not_true_eq_false, callP, callM, subHp, putHp, idxOf, dedup, List.reverse_nil, List.reverse_cons, List.contains_nil, Bool.or_false, Bool.false_or, Bool.or_true, Bool.not_true, Bool.not_false, thaw, thawL, setAll, rdc_one, rdc_row, AV.cells, AV.okc, parts, tile, modify_zero, modify_succ, dec_pos, dec_neg, Nat.reduceLeDiff, List.not_mem_nil, or_false, or_true, true_or, if_true, swapAll, swapSt, swapBl, swp, renEnv, Blk.ren, Nat.reduceSub, Nat.reduceDiv, Nat.reduceMod, Nat.reduceMul, Option.getD_some, Option.getD_none, Nat.zero_mul, Nat.one_mul, List.isEmpty_nil, still, opnH, ownbH, fin, pk, pkL, pks, pksL, Blk.still, cnt, unpk, cut, cut3, Option.isSome_some, Option.isSome_none, Bool.false_eq_true, Nat.sub_zero, List.getD_cons_zero, List.getD_cons_succ, Nat.le_add_right, Nat.zero_le, List.length_append, List.length_set, ints_drop, ints_take, ints_set, ghost_norm', take_len_drop, List.length_take, List.length_drop, d1151, h1]

end Go.Proofs.Ytoldddplaalfiaa
