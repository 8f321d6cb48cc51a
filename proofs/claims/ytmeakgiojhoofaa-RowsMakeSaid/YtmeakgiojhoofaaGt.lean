/- Layer 4: RowsMake. -/
import Derived.Test.YtmeakgiojhoofaaGr
import Derived.Test.YtmeakgiojhoofaaGf
namespace Go.Proofs.Ytmeakgiojhoofaa
set_option linter.unusedSimpArgs false
set_option linter.unusedVariables false
set_option maxHeartbeats 4000000
set_option maxRecDepth 100000
def bgT (f : Nat → List Int) (v : Nat) : List Int := ((List.range v).map f).flatten
theorem bgT_succ (f : Nat → List Int) (v : Nat) : bgT f (v + 1) = bgT f v ++ f v := by simp [bgT, List.range_succ]
def bgO (f : Nat → List Int) (v : Nat) : List Int := (List.range v).map fun k => (((bgT f k).length : Nat) : Int)
theorem bgO_succ (f : Nat → List Int) (v : Nat) : bgO f (v + 1) = bgO f v ++ [(((bgT f v).length : Nat) : Int)] := by simp [bgO, List.range_succ]
theorem bgO_len (f : Nat → List Int) (v : Nat) : (bgO f v).length = v := by simp [bgO]
theorem bgT_take (f : Nat → List Int) {k n : Nat} (h : k ≤ n) : (((List.range n).map f).take k).flatten = bgT f k := by
  rw [bgT, ← List.map_take, List.take_range, Nat.min_eq_left h]
theorem bgO_offs (f : Nat → List Int) (n : Nat) : offs ((List.range n).map f) n = bgO f (n + 1) := by
  unfold offs bgO
  refine List.map_congr_left fun k hk => ?_
  rw [List.mem_range] at hk
  rw [bgT_take f (by omega)]
theorem outV_take_succ {E : List Ed} {v i : Nat} (h : i < E.length) : outV (E.take (i + 1)) v = if (E.getD i default).1 = v then outV (E.take i) v ++ [(E.getD i default).2] else outV (E.take i) v := by
  unfold outV
  rw [take_snoc default h, List.filter_append, List.map_append]
  by_cases c : (E.getD i default).1 = v
  · rw [if_pos c, List.filter_cons_of_pos (by simpa using c)]; rfl
  · rw [if_neg c, List.filter_cons_of_neg (by simpa using c)]; simp
theorem inV_take_succ {E : List Ed} {v i : Nat} (h : i < E.length) : inV (E.take (i + 1)) v = if (E.getD i default).2 = v then inV (E.take i) v ++ [(E.getD i default).1] else inV (E.take i) v := by
  unfold inV
  rw [take_snoc default h, List.filter_append, List.map_append]
  by_cases c : (E.getD i default).2 = v
  · rw [if_pos c, List.filter_cons_of_pos (by simpa using c)]; rfl
  · rw [if_neg c, List.filter_cons_of_neg (by simpa using c)]; simp
theorem outV_len_le (E : List Ed) (v : Nat) : (outV E v).length ≤ E.length := by
  rw [outV, List.length_map]; exact List.length_filter_le _ _
theorem inV_len_le (E : List Ed) (v : Nat) : (inV E v).length ≤ E.length := by
  rw [inV, List.length_map]; exact List.length_filter_le _ _
theorem bgT_len_le (f : Nat → List Int) {M : Nat} (h : ∀ v, (f v).length ≤ M) : ∀ v, (bgT f v).length ≤ v * M
  | 0 => by simp [bgT]
  | v + 1 => by
    have := bgT_len_le f h v
    have := h v
    rw [bgT_succ, List.length_append, Nat.succ_mul]; omega
def m2S (g : Gr) (n v : Nat) : St := ⟨[(1, .ref 0 0), (2, .ref 1 0), (4, .ref 2 0), (5, .int .i64 (v : Int))], [.row false [.int .i64 n, .sl 2 (prs g.E), .sl 1 (wcs g.W)], .row false [.nils, .nils, .nils, .nils], .row false [.vec 1 (ints (bgO (outV g.E) v)), .vec 1 (ints (bgT (outV g.E) v)), .vec 1 (ints (bgO (inV g.E) v)), .vec 1 (ints (bgT (inV g.E) v))]], 0, [(0, 3, [1, 2, 4, 5], [(1, 0), (2, 1), (4, 2)])]⟩
theorem make2_run {g : Gr} (hg : okG g) : runP tab 1326 [.agg (gS g)] [] = some (mkA g, []) := by
  have gi := is2_run hg
  have he := hg.e
  unfold mkA
  by_cases h : isB g = true
  case neg =>
    rw [if_neg h]
    rw [show isB g = false by simpa using h] at gi
    simp only [gS] at gi
    refine runP_fn t1326 rfl ?_
    simp (config := { maxSteps := 1000000 }) (disch := omega) only [go_sem, ↓reduceIte, Nat.reduceEqDiff, Nat.reduceAdd, Int.reduceToNat, reduceCtorEq, Nat.reduceLeDiff, Nat.reduceSub, Nat.reduceDiv, Nat.reduceMod, Nat.reduceMul, d1326, gS, gi]
  rw [if_pos h]
  rw [h] at gi
  obtain ⟨n, h1, h2, h3, h4, h5, h6⟩ := isB_pl h
  simp only [gS, h1] at gi ⊢
  rw [Int.toNat_natCast]
  refine runP_fn t1326 rfl ?_
  simp (config := { maxSteps := 1000000 }) (disch := omega) only [go_sem, ↓reduceIte, Nat.reduceEqDiff, Nat.reduceAdd, Int.reduceToNat, reduceCtorEq, Nat.reduceLeDiff, Nat.reduceSub, Nat.reduceDiv, Nat.reduceMod, Nat.reduceMul, d1326, gS, gi]
  have lo : ∀ v, (outV g.E v).length ≤ 2000 := fun v => by have := outV_len_le g.E v; omega
  have li : ∀ v, (inV g.E v).length ≤ 2000 := fun v => by have := inV_len_le g.E v; omega
  refine Ev_loop0 (m2S g n) (n + 1) (by simp [m2S, bgO, bgT, ints]) (fun v hv => ?_) ?_
  · have tl := bgT_len_le (outV g.E) lo v
    have tr := bgT_len_le (inV g.E) li v
    have ol := bgO_len (outV g.E) v
    have or := bgO_len (inV g.E) v
    have tl2 : (bgT (outV g.E) v).length ≤ 402000 := Nat.le_trans tl (by omega)
    have tr2 : (bgT (inV g.E) v).length ≤ 402000 := Nat.le_trans tr (by omega)
    simp (config := { maxSteps := 1000000 }) (disch := omega) only [go_sem, ↓reduceIte, Nat.reduceEqDiff, Nat.reduceAdd, Int.reduceToNat, reduceCtorEq, Nat.reduceLeDiff, Nat.reduceSub, Nat.reduceDiv, Nat.reduceMod, Nat.reduceMul, d1326_b0, m2S]
    have e1 : bgO (outV g.E) (v + 1) = bgO (outV g.E) v ++ [(((bgT (outV g.E) v).length : Nat) : Int)] := bgO_succ _ _
    have e2 : bgO (inV g.E) (v + 1) = bgO (inV g.E) v ++ [(((bgT (inV g.E) v).length : Nat) : Int)] := bgO_succ _ _
    have e3 : bgT (outV g.E) (v + 1) = bgT (outV g.E) v ++ outV g.E v := bgT_succ _ _
    have e4 : bgT (inV g.E) (v + 1) = bgT (inV g.E) v ++ inV g.E v := bgT_succ _ _
    rw [e1, e2, e3, e4]
    have l1 : (bgO (outV g.E) v ++ [(((bgT (outV g.E) v).length : Nat) : Int)]).length ≤ 300 := by rw [List.length_append, ol]; simp; omega
    have l2 : (bgO (inV g.E) v ++ [(((bgT (inV g.E) v).length : Nat) : Int)]).length ≤ 300 := by rw [List.length_append, or]; simp; omega
    generalize bgO (outV g.E) v ++ [(((bgT (outV g.E) v).length : Nat) : Int)] = O1 at *
    generalize bgO (inV g.E) v ++ [(((bgT (inV g.E) v).length : Nat) : Int)] = O2 at *
    generalize bgT (outV g.E) v = T1 at *
    generalize bgT (inV g.E) v = T2 at *
    refine Ev_loop0 (fun i => ⟨[(1, .ref 0 0), (2, .ref 1 0), (4, .ref 2 0), (5, .int .i64 (v : Int)), (6, .int .i64 (i : Int))], [.row false [.int .i64 n, .sl 2 (prs g.E), .sl 1 (wcs g.W)], .row false [.nils, .nils, .nils, .nils], .row false [.vec 1 (ints O1), .vec 1 (ints (T1 ++ outV (g.E.take i) v)), .vec 1 (ints O2), .vec 1 (ints (T2 ++ inV (g.E.take i) v))]], 0, [(1, 3, [1, 2, 4, 5, 6], [(1, 0), (2, 1), (4, 2)]), (0, 3, [1, 2, 4, 5], [(1, 0), (2, 1), (4, 2)])]⟩) g.E.length (by simp [outV, inV]) (fun i hi => ?_) ?_
    · have f1 := prs_fst hi
      have f2 := prs_snd hi
      have s1 := outV_take_succ (E := g.E) (v := v) hi
      have s2 := inV_take_succ (E := g.E) (v := v) hi
      have b1 : (T1 ++ outV (g.E.take i) v).length ≤ 500000 := by
        have := outV_len_le (g.E.take i) v
        rw [List.length_take] at this
        rw [List.length_append]; omega
      have b2 : (T2 ++ inV (g.E.take i) v).length ≤ 500000 := by
        have := inV_len_le (g.E.take i) v
        rw [List.length_take] at this
        rw [List.length_append]; omega
      generalize g.E.getD i default = x at *
      by_cases c1 : x.1 = v <;> by_cases c2 : x.2 = v <;> simp only [c1, c2, if_true, if_false] at s1 s2 <;> rw [s1, s2] <;> (try simp only [← List.append_assoc]) <;> generalize T1 ++ outV (g.E.take i) v = U1 at * <;> generalize T2 ++ inV (g.E.take i) v = U2 at *
      · clear tl tr tl2 tr2 e1 e2 e3 e4 lo li ol or l1 l2 he gi
        simp (config := { maxSteps := 1000000 }) (disch := omega) only [go_sem, ↓reduceIte, Nat.reduceEqDiff, Nat.reduceAdd, Int.reduceToNat, reduceCtorEq, Nat.reduceLeDiff, Nat.reduceSub, Nat.reduceDiv, Nat.reduceMod, Nat.reduceMul, d1326_b1, f1, f2, c1, c2]
      · clear tl tr tl2 tr2 e1 e2 e3 e4 lo li ol or l1 l2 he gi
        simp (config := { maxSteps := 1000000 }) (disch := omega) only [go_sem, ↓reduceIte, Nat.reduceEqDiff, Nat.reduceAdd, Int.reduceToNat, reduceCtorEq, Nat.reduceLeDiff, Nat.reduceSub, Nat.reduceDiv, Nat.reduceMod, Nat.reduceMul, d1326_b1, f1, f2, c1, c2]
      · clear tl tr tl2 tr2 e1 e2 e3 e4 lo li ol or l1 l2 he gi
        simp (config := { maxSteps := 1000000 }) (disch := omega) only [go_sem, ↓reduceIte, Nat.reduceEqDiff, Nat.reduceAdd, Int.reduceToNat, reduceCtorEq, Nat.reduceLeDiff, Nat.reduceSub, Nat.reduceDiv, Nat.reduceMod, Nat.reduceMul, d1326_b1, f1, f2, c1, c2]
      · clear tl tr tl2 tr2 e1 e2 e3 e4 lo li ol or l1 l2 he gi
        simp (config := { maxSteps := 1000000 }) (disch := omega) only [go_sem, ↓reduceIte, Nat.reduceEqDiff, Nat.reduceAdd, Int.reduceToNat, reduceCtorEq, Nat.reduceLeDiff, Nat.reduceSub, Nat.reduceDiv, Nat.reduceMod, Nat.reduceMul, d1326_b1, f1, f2, c1, c2]
    · rw [List.take_length]
      simp (config := { maxSteps := 1000000 }) (disch := omega) only [go_sem, ↓reduceIte, Nat.reduceEqDiff, Nat.reduceAdd, Int.reduceToNat, reduceCtorEq, Nat.reduceLeDiff, Nat.reduceSub, Nat.reduceDiv, Nat.reduceMod, Nat.reduceMul, d1326_b1]
  · have z1 : outV g.E n = [] := by
      rw [outV, List.map_eq_nil_iff, List.filter_eq_nil_iff]
      intro e he
      have := h6 e he
      simp only [beq_iff_eq]; omega
    have z2 : inV g.E n = [] := by
      rw [inV, List.map_eq_nil_iff, List.filter_eq_nil_iff]
      intro e he
      have := h6 e he
      simp only [beq_iff_eq]; omega
    have e1 : mkR n g.E = ⟨bgO (outV g.E) (n + 1), bgT (outV g.E) (n + 1), bgO (inV g.E) (n + 1), bgT (inV g.E) (n + 1)⟩ := by
      rw [mkR_eq, bgO_offs, bgO_offs, bgT_succ, bgT_succ, z1, z2, List.append_nil, List.append_nil]; rfl
    rw [e1]
    simp only [m2S, rwV]
    generalize bgO (outV g.E) (n + 1) = O1 at *
    generalize bgO (inV g.E) (n + 1) = O2 at *
    generalize bgT (outV g.E) (n + 1) = T1 at *
    generalize bgT (inV g.E) (n + 1) = T2 at *
    simp (config := { maxSteps := 1000000 }) (disch := omega) only [go_sem, ↓reduceIte, Nat.reduceEqDiff, Nat.reduceAdd, Int.reduceToNat, reduceCtorEq, Nat.reduceLeDiff, Nat.reduceSub, Nat.reduceDiv, Nat.reduceMod, Nat.reduceMul, d1326_b0]
theorem mkA_oG (g : Gr) : mkA (oG g) = mkA g := by
  unfold mkA
  rw [oG_isB]; rfl
theorem mk_run {g : Gr} (hf : gFit g) : runP tab 1311 [.agg (gS g)] [] = some (.bool true, []) := by
  refine runP_fn t1311 rfl ?_
  have gb := bigG_run hf
  have gt := told_run
  cases hb : bigB g with
  | true =>
    rw [hb] at gb
    simp only [gS] at gb
    simp (config := { maxSteps := 1000000 }) (disch := omega) only [go_sem, ↓reduceIte, Nat.reduceEqDiff, Nat.reduceAdd, Int.reduceToNat, reduceCtorEq, Nat.reduceLeDiff, Nat.reduceSub, Nat.reduceDiv, Nat.reduceMod, Nat.reduceMul, d1311, gS, gb]
  | false =>
    rw [hb] at gb
    have hg := bigB_ok hf hb
    have ho := oG_ok hg
    have go := own_run hg
    have gm := makeG_run hg
    have gm2 := make2_run ho
    rw [mkA_oG] at gm2
    have s2 := sameG_run hg ho
    rw [oG_same] at s2
    have hl3 : (oG g).W.length ≤ 250 := ho.w
    have hl4 : (oG g).E.length ≤ 2100 := ho.e
    have hA : ∃ r c, mkA g = .tup [.agg (rwV r), .int .i64 c] ∧ okR r := by
      unfold mkA
      by_cases h : isB g = true
      · rw [if_pos h]
        obtain ⟨n, h1, h2, h3, h4, h5, h6⟩ := isB_pl h
        refine ⟨_, _, rfl, ?_⟩
        rw [h1, Int.toNat_natCast]
        exact okR_mk (mkR_ok h2 h3 h4 h5 h6)
      · rw [if_neg h]
        exact ⟨zR, 20, rfl, zR_ok⟩
    obtain ⟨r, c, hr, hk⟩ := hA
    rw [hr] at gm gm2
    have rs := rsame_run hk hk
    rw [decide_eq_true rfl] at rs
    generalize oG g = O at *
    obtain ⟨n2, E2, W2⟩ := O
    obtain ⟨o, t, ro, rv⟩ := r
    simp only [gS, gV, rwV, rwS] at gb go gm gm2 s2 rs hl3 hl4
    simp (config := { maxSteps := 1000000 }) (disch := omega) only [go_sem, ↓reduceIte, Nat.reduceEqDiff, Nat.reduceAdd, Int.reduceToNat, reduceCtorEq, Nat.reduceLeDiff, Nat.reduceSub, Nat.reduceDiv, Nat.reduceMod, Nat.reduceMul, d1311, gS, gb, gt, go, gm, gm2, s2, rs]
end Go.Proofs.Ytmeakgiojhoofaa
