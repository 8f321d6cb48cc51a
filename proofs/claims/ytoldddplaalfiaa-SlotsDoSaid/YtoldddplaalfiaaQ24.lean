/-
  Layer 24: SlotsKeep.
-/
import Derived.Test.YtoldddplaalfiaaP24
namespace Go.Proofs.Ytoldddplaalfiaa
set_option linter.unusedSimpArgs false
set_option linter.unusedVariables false
set_option maxHeartbeats 4000000
set_option maxRecDepth 100000

theorem setH_after {l : List Hd} {i j : Nat} (hj : i < j) (h : i < l.length) (x : Hd) : (setH l i x).getD j default = l.getD j default := by
  rw [setH, List.getD_eq_getElem?_getD, List.getElem?_append_right (by simp; omega), List.length_take, show j - min i l.length = (j - i - 1) + 1 by omega, List.getElem?_cons_succ, List.getElem?_drop, List.getD_eq_getElem?_getD]
  congr 2; omega
theorem setH_else {l : List Hd} {i j : Nat} (hj : j ≠ i) (h : i < l.length) (x : Hd) : (setH l i x).getD j default = l.getD j default := by
  rcases Nat.lt_or_gt_of_ne hj with hj | hj
  · exact setH_before hj h x
  · exact setH_after hj h x
theorem own_getD (l : List Hd) (i : Nat) : (l.map Hd.own).getD i default = (l.getD i default).own := by
  rw [List.getD_eq_getElem?_getD, List.getD_eq_getElem?_getD, List.getElem?_map]
  cases l[i]? <;> rfl
theorem usd_cnt {a b : List Hd} {n : Nat} (ha : (a.getD n default).used = true) (hb : (b.getD n default).used = false) (hs : ∀ i, i ≠ n → (a.getD i default).used = (b.getD i default).used) : ∀ k, (usd a k).length = (usd b k).length + if n < k then 1 else 0
  | 0 => by simp [usd]
  | k + 1 => by
    have ih := usd_cnt ha hb hs k
    rcases Nat.lt_trichotomy k n with h | h | h
    · rw [if_neg (by omega)] at ih
      rw [if_neg (by omega)]
      have e := hs k (by omega)
      cases hu : (b.getD k default).used with
      | true => rw [usd_yes hu, usd_yes (by rw [e, hu]), List.length_append, List.length_append, ih]; rfl
      | false => rw [usd_no hu, usd_no (by rw [e, hu]), ih]
    · subst h
      rw [if_neg (by omega)] at ih
      rw [if_pos (by omega), usd_yes ha, usd_no hb, List.length_append, ih]; rfl
    · rw [if_pos (by omega)] at ih
      rw [if_pos (by omega)]
      have e := hs k (by omega)
      cases hu : (b.getD k default).used with
      | true => rw [usd_yes hu, usd_yes (by rw [e, hu]), List.length_append, List.length_append, ih]; simp only [List.length_cons, List.length_nil]
      | false => rw [usd_no hu, usd_no (by rw [e, hu]), ih]
theorem usd_full {a : List Hd} : ∀ {k : Nat}, (∀ i, i < k → (a.getD i default).used = true) → (usd a k).length = k
  | 0, _ => by simp [usd]
  | k + 1, h => by
    rw [usd_yes (h k (by omega)), List.length_append, usd_full (fun i hi => h i (by omega))]; rfl
theorem okW_own {l : List Hd} (h : okW l) : okW (l.map Hd.own) := by
  refine ⟨by simpa using h.1, fun r hr => ?_⟩
  obtain ⟨q, hq, rfl⟩ := List.mem_map.1 hr
  exact h.2 q hq
theorem okW_set {l : List Hd} (h : okW l) {i : Nat} (hi : i < l.length) {x : Hd} (hx : x.req.words.length ≤ 1000000) : okW (setH l i x) := by
  refine ⟨by rw [setH_len hi]; exact h.1, fun r hr => ?_⟩
  rw [setH] at hr
  rcases List.mem_append.1 hr with hr | hr
  · exact h.2 r (List.mem_of_mem_take hr)
  · rcases List.mem_cons.1 hr with rfl | hr
    · exact hx
    · exact h.2 r (List.mem_of_mem_drop hr)
theorem one_at {l : List Hd} {i : Nat} (h : i < l.length) : (l.drop i).take 1 = [l.getD i default] := by
  rw [List.drop_eq_getElem_cons h, List.getD_eq_getElem?_getD, List.getElem?_eq_getElem h]; rfl
theorem hdsS_one_at {l : List Hd} {i : Nat} (h : i < l.length) : (hdsS (l.drop i)).take 9 = hdsS [l.getD i default] := by
  rw [hdsS_take9 h, hdsS_one]
theorem hdsV_one_at {l : List Hd} {i : Nat} (h : i < l.length) : (hdsV (l.drop i)).take 9 = hdsV [l.getD i default] := by
  rw [hdsV_take9 h, hdsV_one]
theorem hdsV_used {l : List Hd} {i : Nat} (h : i < l.length) : rdc (hdsV (l.drop i)) none = some (.bool (l.getD i default).used) := by
  rw [List.drop_eq_getElem_cons h, hdsV_cons, List.getD_eq_getElem?_getD, List.getElem?_eq_getElem h]; rfl
theorem ones_run {a b : Hd} (ha : a.req.words.length ≤ 1000000) (hb : b.req.words.length ≤ 1000000) (h : a.key = b.key) : runP tab 1160 [.sl 9 (hdsS [a]), .sl 9 (hdsS [b])] [] = some (.bool true, []) := by
  have g := same_run (a := [a]) (b := [b]) (.inl rfl) (.inl rfl) ⟨by simp, by simp; omega⟩ ⟨by simp, by simp; omega⟩
  rw [show ([a].map Hd.key == [b].map Hd.key) = true by simp [h]] at g
  exact g

theorem keep_run {l : List Hd} {x : Req} (h1 : l.length ≤ 9223372036854775807) (h2 : ∀ r ∈ l, r.req.fits) (hxf : x.fits) : runP tab 1147 [.sl 9 (hdsS l), .agg (reqS x)] [] = some (.bool true, []) := by
  refine runP_fn t1147 rfl ?_
  have gb := bigL_run h1 h2
  obtain ⟨_, _, _, _, _, _, _, hx1, hx2⟩ := hxf
  have gq := bigQ_run hx1 hx2
  simp only [qryS] at gq
  cases hb : bigL l with
  | true =>
    rw [hb] at gb
    simp (config := { maxSteps := 1000000 }) (disch := omega) only [go_sem, unx_miss, Option.any_some, Nat.zero_div, beq_self_eq_true, Bool.true_or, List.isEmpty_cons, Int.zero_add, bindParams, bindTo, ↓reduceIte, Nat.reduceEqDiff, Nat.reduceAdd, Nat.zero_add, Nat.add_zero, if_pos, if_neg, cnd_pos, cnd_neg, grd_tpos, grd_tneg, grd_fpos, grd_fneg, astep, sln, slc, part, rowc, Blk.cells, Option.map_some, Option.bind_some, abin, homesOf, AV.idof, pick_pos, pick_neg, wrap_id, trim, tidy, gst_if, List.all_cons, List.all_nil, Blk.idlt, Blk.noidb, idlt, idltL, noid, noidL, noinl, noinlL, noimm, allL, AV.allv, pidlt, pnoid, pnoinl, pnoimm, Bool.and_true, Bool.true_and, Bool.and_self, ints_rdc, ints_rdc0, ints_take_all, Int.toNat_natCast, Int.reduceToNat, Nat.mul_one, Nat.div_one, List.length_nil, List.length_cons, List.take_nil, List.take_zero, List.take_succ_cons, List.drop_zero, List.drop_succ_cons, List.getElem?_cons_zero, List.getElem?_cons_succ, List.head?_cons, List.set_cons_zero, List.set_cons_succ, List.cons_append, and_self, and_true, true_and, Nat.le_refl, Int.natCast_add, Int.cast_ofNat_Int, reduceCtorEq, ne_eq, not_false_eq_true, implies_true, results, rvs, rvv, rsIds, immIds, nz, nzc, nz1, tupv, Option.map_none, List.map_cons, List.map_nil, fz, fzL, frz, frzL, frz1, mapL, AV.mapv, ren, renL, ren1, AV.ids, idsL, List.append_nil, List.nil_append, decide_true, decide_false, not_true_eq_false, callP, callM, subHp, putHp, idxOf, dedup, List.reverse_nil, List.reverse_cons, List.contains_nil, Bool.or_false, Bool.false_or, Bool.or_true, Bool.not_true, Bool.not_false, thaw, thawL, setAll, rdc_one, rdc_row, AV.cells, AV.okc, parts, tile, modify_zero, modify_succ, dec_pos, dec_neg, Nat.reduceLeDiff, List.not_mem_nil, or_false, or_true, true_or, if_true, swapAll, swapSt, swapBl, swp, renEnv, Blk.ren, Nat.reduceSub, Nat.reduceDiv, Nat.reduceMod, Nat.reduceMul, Option.getD_some, Option.getD_none, Nat.zero_mul, Nat.one_mul, List.isEmpty_nil, still, opnH, ownbH, fin, pk, pkL, pks, pksL, Blk.still, cnt, unpk, cut, cut3, Option.isSome_some, Option.isSome_none, Bool.false_eq_true, Nat.sub_zero, List.getD_cons_zero, List.getD_cons_succ, Nat.le_add_right, Nat.zero_le, List.length_append, List.length_set, ints_drop, ints_take, ints_set, ghost_norm', take_len_drop, List.length_take, List.length_drop, d1147, gb, reqS]
  | false =>
    rw [hb] at gb
    cases hq : bigQ x with
    | true =>
      rw [hq] at gq
      simp (config := { maxSteps := 1000000 }) (disch := omega) only [go_sem, unx_miss, Option.any_some, Nat.zero_div, beq_self_eq_true, Bool.true_or, List.isEmpty_cons, Int.zero_add, bindParams, bindTo, ↓reduceIte, Nat.reduceEqDiff, Nat.reduceAdd, Nat.zero_add, Nat.add_zero, if_pos, if_neg, cnd_pos, cnd_neg, grd_tpos, grd_tneg, grd_fpos, grd_fneg, astep, sln, slc, part, rowc, Blk.cells, Option.map_some, Option.bind_some, abin, homesOf, AV.idof, pick_pos, pick_neg, wrap_id, trim, tidy, gst_if, List.all_cons, List.all_nil, Blk.idlt, Blk.noidb, idlt, idltL, noid, noidL, noinl, noinlL, noimm, allL, AV.allv, pidlt, pnoid, pnoinl, pnoimm, Bool.and_true, Bool.true_and, Bool.and_self, ints_rdc, ints_rdc0, ints_take_all, Int.toNat_natCast, Int.reduceToNat, Nat.mul_one, Nat.div_one, List.length_nil, List.length_cons, List.take_nil, List.take_zero, List.take_succ_cons, List.drop_zero, List.drop_succ_cons, List.getElem?_cons_zero, List.getElem?_cons_succ, List.head?_cons, List.set_cons_zero, List.set_cons_succ, List.cons_append, and_self, and_true, true_and, Nat.le_refl, Int.natCast_add, Int.cast_ofNat_Int, reduceCtorEq, ne_eq, not_false_eq_true, implies_true, results, rvs, rvv, rsIds, immIds, nz, nzc, nz1, tupv, Option.map_none, List.map_cons, List.map_nil, fz, fzL, frz, frzL, frz1, mapL, AV.mapv, ren, renL, ren1, AV.ids, idsL, List.append_nil, List.nil_append, decide_true, decide_false, not_true_eq_false, callP, callM, subHp, putHp, idxOf, dedup, List.reverse_nil, List.reverse_cons, List.contains_nil, Bool.or_false, Bool.false_or, Bool.or_true, Bool.not_true, Bool.not_false, thaw, thawL, setAll, rdc_one, rdc_row, AV.cells, AV.okc, parts, tile, modify_zero, modify_succ, dec_pos, dec_neg, Nat.reduceLeDiff, List.not_mem_nil, or_false, or_true, true_or, if_true, swapAll, swapSt, swapBl, swp, renEnv, Blk.ren, Nat.reduceSub, Nat.reduceDiv, Nat.reduceMod, Nat.reduceMul, Option.getD_some, Option.getD_none, Nat.zero_mul, Nat.one_mul, List.isEmpty_nil, still, opnH, ownbH, fin, pk, pkL, pks, pksL, Blk.still, cnt, unpk, cut, cut3, Option.isSome_some, Option.isSome_none, Bool.false_eq_true, Nat.sub_zero, List.getD_cons_zero, List.getD_cons_succ, Nat.le_add_right, Nat.zero_le, List.length_append, List.length_set, ints_drop, ints_take, ints_set, ghost_norm', take_len_drop, List.length_take, List.length_drop, d1147, gb, gq, reqS]
    | false =>
      rw [hq] at gq
      obtain ⟨h100, hw⟩ := bigL_ok hb
      have hxw := bigQ_ok hq
      have gu := used_run hw
      have hUl := usd_len l l.length
      rcases first_ix (fun i => (l.getD i default).used = true) l.length with h | ⟨n, hn, hbef, hun⟩
      · have gp := put_no (x := x) hw h
        have hf := usd_full (a := l) (k := l.length) h
        generalize usd l l.length = U at *
        simp only [reqS] at gp
        simp (config := { maxSteps := 1000000 }) (disch := omega) only [go_sem, unx_miss, Option.any_some, Nat.zero_div, beq_self_eq_true, Bool.true_or, List.isEmpty_cons, Int.zero_add, bindParams, bindTo, ↓reduceIte, Nat.reduceEqDiff, Nat.reduceAdd, Nat.zero_add, Nat.add_zero, if_pos, if_neg, cnd_pos, cnd_neg, grd_tpos, grd_tneg, grd_fpos, grd_fneg, astep, sln, slc, part, rowc, Blk.cells, Option.map_some, Option.bind_some, abin, homesOf, AV.idof, pick_pos, pick_neg, wrap_id, trim, tidy, gst_if, List.all_cons, List.all_nil, Blk.idlt, Blk.noidb, idlt, idltL, noid, noidL, noinl, noinlL, noimm, allL, AV.allv, pidlt, pnoid, pnoinl, pnoimm, Bool.and_true, Bool.true_and, Bool.and_self, ints_rdc, ints_rdc0, ints_take_all, Int.toNat_natCast, Int.reduceToNat, Nat.mul_one, Nat.div_one, List.length_nil, List.length_cons, List.take_nil, List.take_zero, List.take_succ_cons, List.drop_zero, List.drop_succ_cons, List.getElem?_cons_zero, List.getElem?_cons_succ, List.head?_cons, List.set_cons_zero, List.set_cons_succ, List.cons_append, and_self, and_true, true_and, Nat.le_refl, Int.natCast_add, Int.cast_ofNat_Int, reduceCtorEq, ne_eq, not_false_eq_true, implies_true, results, rvs, rvv, rsIds, immIds, nz, nzc, nz1, tupv, Option.map_none, List.map_cons, List.map_nil, fz, fzL, frz, frzL, frz1, mapL, AV.mapv, ren, renL, ren1, AV.ids, idsL, List.append_nil, List.nil_append, decide_true, decide_false, not_true_eq_false, callP, callM, subHp, putHp, idxOf, dedup, List.reverse_nil, List.reverse_cons, List.contains_nil, Bool.or_false, Bool.false_or, Bool.or_true, Bool.not_true, Bool.not_false, thaw, thawL, setAll, rdc_one, rdc_row, AV.cells, AV.okc, parts, tile, modify_zero, modify_succ, dec_pos, dec_neg, Nat.reduceLeDiff, List.not_mem_nil, or_false, or_true, true_or, if_true, swapAll, swapSt, swapBl, swp, renEnv, Blk.ren, Nat.reduceSub, Nat.reduceDiv, Nat.reduceMod, Nat.reduceMul, Option.getD_some, Option.getD_none, Nat.zero_mul, Nat.one_mul, List.isEmpty_nil, still, opnH, ownbH, fin, pk, pkL, pks, pksL, Blk.still, cnt, unpk, cut, cut3, Option.isSome_some, Option.isSome_none, Bool.false_eq_true, Nat.sub_zero, List.getD_cons_zero, List.getD_cons_succ, Nat.le_add_right, Nat.zero_le, List.length_append, List.length_set, ints_drop, ints_take, ints_set, ghost_norm', take_len_drop, List.length_take, List.length_drop, d1147, gb, gq, gp, gu, holds_run, reqS]
      · replace hun : (l.getD n default).used = false := by simpa using hun
        have hno : n < (l.map Hd.own).length := by simpa using hn
        have gp := put_at (x := x) hw (by omega) hn hbef hun
        have hM : okW (setH (l.map Hd.own) n (put1 x)) := okW_set (okW_own hw) hno (by simp only [put1]; omega)
        have hMl := setH_len hno (put1 x)
        have hMn := setH_at hno (put1 x)
        have hMe := fun j (hj : j ≠ n) => setH_else (j := j) hj hno (put1 x)
        generalize setH (l.map Hd.own) n (put1 x) = M at *
        rw [List.length_map] at hMl
        have hnm : n < (M.map Hd.own).length := by rw [List.length_map]; omega
        have gd := drop_run (n := (n : Int)) hM (by omega)
        rw [if_neg (by omega), Int.toNat_natCast, hMn, if_pos (show (put1 x).used = true from rfl)] at gd
        have hB : okW (setH (M.map Hd.own) n hz) := okW_set (okW_own hM) hnm (by simp [hz])
        have hBl := setH_len hnm hz
        have hBn := setH_at hnm hz
        have hBe := fun j (hj : j ≠ n) => setH_else (j := j) hj hnm hz
        generalize setH (M.map Hd.own) n hz = B at *
        rw [List.length_map] at hBl
        have e1 := hdsS_used hn
        rw [hun] at e1
        have e2 := hdsV_used (l := M) (i := n) (by omega)
        have e3 := hdsV_used (l := B) (i := n) (by omega)
        rw [hMn, show (put1 x).used = true from rfl] at e2
        rw [hBn, show hz.used = false from rfl] at e3
        have gu2 := used_run hM
        have hc := usd_cnt (a := M) (b := l) (n := n) (by rw [hMn]; rfl) hun (fun i hi => by rw [hMe i hi, own_getD]; rfl) l.length
        rw [if_pos hn] at hc
        rw [hMl] at gu2
        obtain ⟨k, gf⟩ : ∃ k : Nat, runP tab 1156 [.sl 9 (hdsS M), .int .i64 x.id] [] = some (.tup [.int .i64 k, .bool true], []) := by
          rcases seek M x.id with hno | ⟨m, hm, hbef, hum, hix⟩
          · exact absurd (by rw [hMn]; rfl) (hno n (by omega) (by rw [hMn]; rfl))
          · exact ⟨m, find_at hM hm hbef hum hix⟩
        generalize usd l l.length = U at *
        generalize usd M l.length = U2 at *
        simp only [reqS] at gp
        simp (config := { maxSteps := 1000000 }) (disch := omega) only [go_sem, unx_miss, Option.any_some, Nat.zero_div, beq_self_eq_true, Bool.true_or, List.isEmpty_cons, Int.zero_add, bindParams, bindTo, ↓reduceIte, Nat.reduceEqDiff, Nat.reduceAdd, Nat.zero_add, Nat.add_zero, if_pos, if_neg, cnd_pos, cnd_neg, grd_tpos, grd_tneg, grd_fpos, grd_fneg, astep, sln, slc, part, rowc, Blk.cells, Option.map_some, Option.bind_some, abin, homesOf, AV.idof, pick_pos, pick_neg, wrap_id, trim, tidy, gst_if, List.all_cons, List.all_nil, Blk.idlt, Blk.noidb, idlt, idltL, noid, noidL, noinl, noinlL, noimm, allL, AV.allv, pidlt, pnoid, pnoinl, pnoimm, Bool.and_true, Bool.true_and, Bool.and_self, ints_rdc, ints_rdc0, ints_take_all, Int.toNat_natCast, Int.reduceToNat, Nat.mul_one, Nat.div_one, List.length_nil, List.length_cons, List.take_nil, List.take_zero, List.take_succ_cons, List.drop_zero, List.drop_succ_cons, List.getElem?_cons_zero, List.getElem?_cons_succ, List.head?_cons, List.set_cons_zero, List.set_cons_succ, List.cons_append, and_self, and_true, true_and, Nat.le_refl, Int.natCast_add, Int.cast_ofNat_Int, reduceCtorEq, ne_eq, not_false_eq_true, implies_true, results, rvs, rvv, rsIds, immIds, nz, nzc, nz1, tupv, Option.map_none, List.map_cons, List.map_nil, fz, fzL, frz, frzL, frz1, mapL, AV.mapv, ren, renL, ren1, AV.ids, idsL, List.append_nil, List.nil_append, decide_true, decide_false, not_true_eq_false, callP, callM, subHp, putHp, idxOf, dedup, List.reverse_nil, List.reverse_cons, List.contains_nil, Bool.or_false, Bool.false_or, Bool.or_true, Bool.not_true, Bool.not_false, thaw, thawL, setAll, rdc_one, rdc_row, AV.cells, AV.okc, parts, tile, modify_zero, modify_succ, dec_pos, dec_neg, Nat.reduceLeDiff, List.not_mem_nil, or_false, or_true, true_or, if_true, swapAll, swapSt, swapBl, swp, renEnv, Blk.ren, Nat.reduceSub, Nat.reduceDiv, Nat.reduceMod, Nat.reduceMul, Option.getD_some, Option.getD_none, Nat.zero_mul, Nat.one_mul, List.isEmpty_nil, still, opnH, ownbH, fin, pk, pkL, pks, pksL, Blk.still, cnt, unpk, cut, cut3, Option.isSome_some, Option.isSome_none, Bool.false_eq_true, Nat.sub_zero, List.getD_cons_zero, List.getD_cons_succ, Nat.le_add_right, Nat.zero_le, List.length_append, List.length_set, ints_drop, ints_take, ints_set, ghost_norm', take_len_drop, List.length_take, List.length_drop, d1147, gb, gq, gp, gd, reqS, hdsV_len, hdsS_len, e1, e2, hMl, hBl]
        refine Ev_loop0 (fun i => ⟨[(0, .sl 9 (hdsS l)), (3, .ref 0 0), (5, .int .i64 n), (6, .own 9 1), (8, .own 9 2), (10, .int .i64 (i : Int))], [.row false (reqS x), .row false (hdsV M), .row false (hdsV B)], 0, [(0, 3, [0, 3, 5, 6, 8, 10], [(3, 0), (6, 1), (8, 2)])]⟩) l.length (by simp [reqS]) (fun i hi => ?_) ?_
        · by_cases hin : i = n
          · subst hin
            simp (config := { maxSteps := 1000000 }) (disch := omega) only [go_sem, unx_miss, Option.any_some, Nat.zero_div, beq_self_eq_true, Bool.true_or, List.isEmpty_cons, Int.zero_add, bindParams, bindTo, ↓reduceIte, Nat.reduceEqDiff, Nat.reduceAdd, Nat.zero_add, Nat.add_zero, if_pos, if_neg, cnd_pos, cnd_neg, grd_tpos, grd_tneg, grd_fpos, grd_fneg, astep, sln, slc, part, rowc, Blk.cells, Option.map_some, Option.bind_some, abin, homesOf, AV.idof, pick_pos, pick_neg, wrap_id, trim, tidy, gst_if, List.all_cons, List.all_nil, Blk.idlt, Blk.noidb, idlt, idltL, noid, noidL, noinl, noinlL, noimm, allL, AV.allv, pidlt, pnoid, pnoinl, pnoimm, Bool.and_true, Bool.true_and, Bool.and_self, ints_rdc, ints_rdc0, ints_take_all, Int.toNat_natCast, Int.reduceToNat, Nat.mul_one, Nat.div_one, List.length_nil, List.length_cons, List.take_nil, List.take_zero, List.take_succ_cons, List.drop_zero, List.drop_succ_cons, List.getElem?_cons_zero, List.getElem?_cons_succ, List.head?_cons, List.set_cons_zero, List.set_cons_succ, List.cons_append, and_self, and_true, true_and, Nat.le_refl, Int.natCast_add, Int.cast_ofNat_Int, reduceCtorEq, ne_eq, not_false_eq_true, implies_true, results, rvs, rvv, rsIds, immIds, nz, nzc, nz1, tupv, Option.map_none, List.map_cons, List.map_nil, fz, fzL, frz, frzL, frz1, mapL, AV.mapv, ren, renL, ren1, AV.ids, idsL, List.append_nil, List.nil_append, decide_true, decide_false, not_true_eq_false, callP, callM, subHp, putHp, idxOf, dedup, List.reverse_nil, List.reverse_cons, List.contains_nil, Bool.or_false, Bool.false_or, Bool.or_true, Bool.not_true, Bool.not_false, thaw, thawL, setAll, rdc_one, rdc_row, AV.cells, AV.okc, parts, tile, modify_zero, modify_succ, dec_pos, dec_neg, Nat.reduceLeDiff, List.not_mem_nil, or_false, or_true, true_or, if_true, swapAll, swapSt, swapBl, swp, renEnv, Blk.ren, Nat.reduceSub, Nat.reduceDiv, Nat.reduceMod, Nat.reduceMul, Option.getD_some, Option.getD_none, Nat.zero_mul, Nat.one_mul, List.isEmpty_nil, still, opnH, ownbH, fin, pk, pkL, pks, pksL, Blk.still, cnt, unpk, cut, cut3, Option.isSome_some, Option.isSome_none, Bool.false_eq_true, Nat.sub_zero, List.getD_cons_zero, List.getD_cons_succ, Nat.le_add_right, Nat.zero_le, List.length_append, List.length_set, ints_drop, ints_take, ints_set, ghost_norm', take_len_drop, List.length_take, List.length_drop, d1147_b0, reqS]
          · have a1 := hdsS_one_at hi
            have a0 := one_at hi
            have a2 := hdsV_one_at (l := M) (i := i) (by omega)
            have a3 := hdsV_one_at (l := B) (i := i) (by omega)
            have hkM : (M.getD i default).key = (l.getD i default).key := by rw [hMe i hin, own_getD]; rfl
            have hkB : (B.getD i default).key = (l.getD i default).key := by rw [hBe i hin, own_getD, ← hkM]; rfl
            have g1 := ones_run (hM.2 _ (getD_mem (d := default) (i := i) (by omega))) (hw.2 _ (getD_mem (d := default) hi)) hkM
            have g2 := ones_run (hB.2 _ (getD_mem (d := default) (i := i) (by omega))) (hw.2 _ (getD_mem (d := default) hi)) hkB
            have hin2 : ¬ (i : Int) = n := by omega
            have q1 : ((i : Int) + 1).toNat = i + 1 := by omega
            have q2 : i + 1 - i = 1 := by omega
            simp (config := { maxSteps := 1000000 }) (disch := omega) only [go_sem, unx_miss, Option.any_some, Nat.zero_div, beq_self_eq_true, Bool.true_or, List.isEmpty_cons, Int.zero_add, bindParams, bindTo, ↓reduceIte, Nat.reduceEqDiff, Nat.reduceAdd, Nat.zero_add, Nat.add_zero, if_pos, if_neg, cnd_pos, cnd_neg, grd_tpos, grd_tneg, grd_fpos, grd_fneg, astep, sln, slc, part, rowc, Blk.cells, Option.map_some, Option.bind_some, abin, homesOf, AV.idof, pick_pos, pick_neg, wrap_id, trim, tidy, gst_if, List.all_cons, List.all_nil, Blk.idlt, Blk.noidb, idlt, idltL, noid, noidL, noinl, noinlL, noimm, allL, AV.allv, pidlt, pnoid, pnoinl, pnoimm, Bool.and_true, Bool.true_and, Bool.and_self, ints_rdc, ints_rdc0, ints_take_all, Int.toNat_natCast, Int.reduceToNat, Nat.mul_one, Nat.div_one, List.length_nil, List.length_cons, List.take_nil, List.take_zero, List.take_succ_cons, List.drop_zero, List.drop_succ_cons, List.getElem?_cons_zero, List.getElem?_cons_succ, List.head?_cons, List.set_cons_zero, List.set_cons_succ, List.cons_append, and_self, and_true, true_and, Nat.le_refl, Int.natCast_add, Int.cast_ofNat_Int, reduceCtorEq, ne_eq, not_false_eq_true, implies_true, results, rvs, rvv, rsIds, immIds, nz, nzc, nz1, tupv, Option.map_none, List.map_cons, List.map_nil, fz, fzL, frz, frzL, frz1, mapL, AV.mapv, ren, renL, ren1, AV.ids, idsL, List.append_nil, List.nil_append, decide_true, decide_false, not_true_eq_false, callP, callM, subHp, putHp, idxOf, dedup, List.reverse_nil, List.reverse_cons, List.contains_nil, Bool.or_false, Bool.false_or, Bool.or_true, Bool.not_true, Bool.not_false, thaw, thawL, setAll, rdc_one, rdc_row, AV.cells, AV.okc, parts, tile, modify_zero, modify_succ, dec_pos, dec_neg, Nat.reduceLeDiff, List.not_mem_nil, or_false, or_true, true_or, if_true, swapAll, swapSt, swapBl, swp, renEnv, Blk.ren, Nat.reduceSub, Nat.reduceDiv, Nat.reduceMod, Nat.reduceMul, Option.getD_some, Option.getD_none, Nat.zero_mul, Nat.one_mul, List.isEmpty_nil, still, opnH, ownbH, fin, pk, pkL, pks, pksL, Blk.still, cnt, unpk, cut, cut3, Option.isSome_some, Option.isSome_none, Bool.false_eq_true, Nat.sub_zero, List.getD_cons_zero, List.getD_cons_succ, Nat.le_add_right, Nat.zero_le, List.length_append, List.length_set, ints_drop, ints_take, ints_set, ghost_norm', take_len_drop, List.length_take, List.length_drop, d1147_b0, reqS, hdsV_len, hdsS_len, a0, a1, a2, a3, g1, g2, hMl, hBl, hin2, q1, q2]
        · simp (config := { maxSteps := 1000000 }) (disch := omega) only [go_sem, unx_miss, Option.any_some, Nat.zero_div, beq_self_eq_true, Bool.true_or, List.isEmpty_cons, Int.zero_add, bindParams, bindTo, ↓reduceIte, Nat.reduceEqDiff, Nat.reduceAdd, Nat.zero_add, Nat.add_zero, if_pos, if_neg, cnd_pos, cnd_neg, grd_tpos, grd_tneg, grd_fpos, grd_fneg, astep, sln, slc, part, rowc, Blk.cells, Option.map_some, Option.bind_some, abin, homesOf, AV.idof, pick_pos, pick_neg, wrap_id, trim, tidy, gst_if, List.all_cons, List.all_nil, Blk.idlt, Blk.noidb, idlt, idltL, noid, noidL, noinl, noinlL, noimm, allL, AV.allv, pidlt, pnoid, pnoinl, pnoimm, Bool.and_true, Bool.true_and, Bool.and_self, ints_rdc, ints_rdc0, ints_take_all, Int.toNat_natCast, Int.reduceToNat, Nat.mul_one, Nat.div_one, List.length_nil, List.length_cons, List.take_nil, List.take_zero, List.take_succ_cons, List.drop_zero, List.drop_succ_cons, List.getElem?_cons_zero, List.getElem?_cons_succ, List.head?_cons, List.set_cons_zero, List.set_cons_succ, List.cons_append, and_self, and_true, true_and, Nat.le_refl, Int.natCast_add, Int.cast_ofNat_Int, reduceCtorEq, ne_eq, not_false_eq_true, implies_true, results, rvs, rvv, rsIds, immIds, nz, nzc, nz1, tupv, Option.map_none, List.map_cons, List.map_nil, fz, fzL, frz, frzL, frz1, mapL, AV.mapv, ren, renL, ren1, AV.ids, idsL, List.append_nil, List.nil_append, decide_true, decide_false, not_true_eq_false, callP, callM, subHp, putHp, idxOf, dedup, List.reverse_nil, List.reverse_cons, List.contains_nil, Bool.or_false, Bool.false_or, Bool.or_true, Bool.not_true, Bool.not_false, thaw, thawL, setAll, rdc_one, rdc_row, AV.cells, AV.okc, parts, tile, modify_zero, modify_succ, dec_pos, dec_neg, Nat.reduceLeDiff, List.not_mem_nil, or_false, or_true, true_or, if_true, swapAll, swapSt, swapBl, swp, renEnv, Blk.ren, Nat.reduceSub, Nat.reduceDiv, Nat.reduceMod, Nat.reduceMul, Option.getD_some, Option.getD_none, Nat.zero_mul, Nat.one_mul, List.isEmpty_nil, still, opnH, ownbH, fin, pk, pkL, pks, pksL, Blk.still, cnt, unpk, cut, cut3, Option.isSome_some, Option.isSome_none, Bool.false_eq_true, Nat.sub_zero, List.getD_cons_zero, List.getD_cons_succ, Nat.le_add_right, Nat.zero_le, List.length_append, List.length_set, ints_drop, ints_take, ints_set, ghost_norm', take_len_drop, List.length_take, List.length_drop, d1147_b0, reqS, hdsV_len, hdsS_len, e1, e2, e3, hMl, hBl, gf, gu, gu2, hc, holds_run]

end Go.Proofs.Ytoldddplaalfiaa
