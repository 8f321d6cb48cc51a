/- Postings: the order of words plays no part; more words. -/
import Derived.Test.YtmckpijdjoifoaaCn
namespace Go.Proofs.Ytmckpijdjoifoaa
set_option linter.unusedSimpArgs false
set_option linter.unusedVariables false
set_option maxHeartbeats 4000000
set_option maxRecDepth 100000
theorem allP_congr {P : List Po} {a b : List Txt} (ha : a ≠ []) (hb : b ≠ []) (h : ∀ w, w ∈ a ↔ w ∈ b) : allP P a = allP P b :=
  inc_ext (allP_asc _) (allP_asc _) fun x => by
    rw [allP_mem ha, allP_mem hb]
    exact ⟨fun h1 w hw => h1 w ((h w).2 hw), fun h1 w hw => h1 w ((h w).1 hw)⟩
theorem anyP_congr {P : List Po} {a b : List Txt} (h : ∀ w, w ∈ a ↔ w ∈ b) : anyP P a = anyP P b :=
  inc_ext (anyP_asc _) (anyP_asc _) fun x => by
    rw [anyP_mem, anyP_mem]
    exact ⟨fun ⟨w, h1, h2⟩ => ⟨w, (h w).1 h1, h2⟩, fun ⟨w, h1, h2⟩ => ⟨w, (h w).2 h1, h2⟩⟩
theorem allP_len {P : List Po} (hP : okP P) (ws : List Txt) : (allP P ws).length ≤ 1000 := by
  cases ws with
  | nil => simp [allP]
  | cons w r => exact allF_len hP r _ (nrm_findP hP w)
theorem anyP_len {P : List Po} (hP : okP P) (ws : List Txt) : (anyP P ws).length ≤ ws.length * 1000 := by
  have := anyF_len hP ws []
  simp only [List.length_nil, Nat.zero_add] at this
  exact this
def bkT (ws : List Txt) (k : Nat) : List Txt := ws.reverse.take k
theorem bkT_len {ws : List Txt} {k : Nat} (h : k ≤ ws.length) : (bkT ws k).length = k := by simp [bkT]; omega
theorem bkT_succ {ws : List Txt} {k : Nat} (h : k < ws.length) : bkT ws (k + 1) = bkT ws k ++ [ws.getD (ws.length - 1 - k) []] := by
  unfold bkT
  rw [take_snoc [] (by simpa using h)]
  congr 2
  rw [List.getD_eq_getElem?_getD, List.getD_eq_getElem?_getD, List.getElem?_reverse h]
theorem order5_law {P : List Po} {ws : List Txt} (hn : P.length ≤ 9223372036854775807) (hw : ∀ p ∈ P, p.1.length ≤ 9223372036854775807) (hr : ∀ p ∈ P, p.2.length ≤ 9223372036854775807) (wn : ws.length ≤ 9223372036854775807) (ww : ∀ s ∈ ws, s.length ≤ 9223372036854775807) : runP tabM 1591 [.sl 2 (poS P), .sl 1 (strs ws)] [] = some (.bool true, []) := by
  refine runP_fn (show tabM 1591 = _ from t1591) rfl ?_
  have L := strs_length ws
  have LP := poS_len P
  have gbig := up (bigP_run hn hw hr)
  have gfew := up (few_run wn ww)
  have gp := posted_run
  cases cb : bigP P with
  | true =>
    rw [cb] at gbig
    simp (config := { maxSteps := 1000000 }) (disch := omega) only [go_sem, ↓reduceIte, Nat.reduceEqDiff, reduceCtorEq, d1591, gbig, gp]
  | false =>
  rw [cb] at gbig
  cases cf : fewB ws with
  | false =>
    rw [cf] at gfew
    simp (config := { maxSteps := 1000000 }) (disch := omega) only [go_sem, ↓reduceIte, Nat.reduceEqDiff, reduceCtorEq, d1591, gbig, gfew, gp]
  | true =>
  rw [cf] at gfew
  by_cases h0 : ws = []
  · subst h0
    simp (config := { maxSteps := 1000000 }) (disch := omega) only [go_sem, ↓reduceIte, Nat.reduceEqDiff, reduceCtorEq, d1591, L, gbig, gfew, gp]
  have hp : 0 < ws.length := List.length_pos_iff.2 h0
  obtain ⟨hl, hx⟩ := fewB_ok cf
  have hP := bigP_okP cb
  have LB := strs_length (ws.reverse ++ [ws.getD 0 []])
  have lb : (ws.reverse ++ [ws.getD 0 []]).length = ws.length + 1 := by simp
  have hbn : ws.reverse ++ [ws.getD 0 []] ≠ [] := by simp
  have hmem : ∀ w, w ∈ ws.reverse ++ [ws.getD 0 []] ↔ w ∈ ws := by
    intro w
    rw [List.mem_append, List.mem_reverse, List.mem_singleton]
    exact ⟨fun h => h.elim id fun e => e ▸ getD_mem (d := []) hp, .inl⟩
  have ga := up (all05_run hP (ws := ws) (by omega))
  have gb := up (all05_run hP (ws := ws.reverse ++ [ws.getD 0 []]) (by omega))
  have gc := up (any05_run hP (ws := ws) (by omega))
  have gd := up (any05_run hP (ws := ws.reverse ++ [ws.getD 0 []]) (by omega))
  rw [if_neg h0] at ga gc
  rw [if_neg hbn] at gb gd
  rw [allP_congr hbn h0 hmem] at gb
  rw [anyP_congr hmem] at gd
  have l1 := allP_len hP ws
  have l2 := anyP_len hP ws
  have i1 := up (ints_run (a := allP P ws) (b := allP P ws) (by omega) (by omega))
  have i2 := up (ints_run (a := anyP P ws) (b := anyP P ws) (by omega) (by omega))
  rw [beq_self_eq_true] at i1 i2
  have hlast : bkT ws ws.length = ws.reverse := by unfold bkT; rw [List.take_of_length_le (by simp)]
  have eapp : strs (ws.reverse ++ [ws.getD 0 []]) = strs ws.reverse ++ [.str (ws.getD 0 [])] := (strs_snoc _ _).symm
  have LR := strs_length ws.reverse
  have lr : ws.reverse.length = ws.length := by simp
  rw [eapp] at gb gd
  simp (config := { maxSteps := 1000000 }) (disch := omega) only [go_sem, ↓reduceIte, Nat.reduceEqDiff, reduceCtorEq, d1591, L, gbig, gfew]
  refine Ev_loop0 (fun k => ⟨[(0, .sl 2 (poS P)), (1, .sl 1 (strs ws)), (5, .own 1 0), (6, .int .i64 ((ws.length : Int) - 1 - (k : Int)))], [.row false (strs (bkT ws k))], 0, [(0, 1, [0, 1, 5, 6], [(5, 0)])]⟩) ws.length (by simp [bkT, strs]) (fun k hk => ?_) ?_
  · have z : ((ws.length : Int) - 1 - (k : Int)).toNat = ws.length - 1 - k := by omega
    have e1 := strs_rdc (l := ws) (i := ws.length - 1 - k) (by omega)
    have Lk := strs_length (bkT ws k)
    have lk := bkT_len (ws := ws) (k := k) (by omega)
    rw [bkT_succ hk, ← strs_snoc]
    simp (config := { maxSteps := 1000000 }) (disch := omega) only [go_sem, ↓reduceIte, Nat.reduceEqDiff, Nat.reduceAdd, reduceCtorEq, Nat.reduceLeDiff, d1591_b0, L, e1, z, Lk, lk]
    rw [show (ws.length : Int) - 1 - (k : Int) - 1 = (ws.length : Int) - 1 - ((k : Int) + 1) by omega]
  · rw [hlast]
    have e1 := strs_rdc (l := ws) (i := 0) hp
    rw [List.drop_zero] at e1
    simp (config := { maxSteps := 1000000 }) (disch := omega) only [go_sem, ↓reduceIte, Nat.reduceEqDiff, Nat.reduceAdd, Int.reduceToNat, reduceCtorEq, d1591_b0, L, LR, lr, e1, ga, gb, gc, gd, i1, i2, gp]
theorem more5_law {P : List Po} {ws : List Txt} {w : Txt} (hn : P.length ≤ 9223372036854775807) (hw : ∀ p ∈ P, p.1.length ≤ 9223372036854775807) (hr : ∀ p ∈ P, p.2.length ≤ 9223372036854775807) (wn : ws.length ≤ 9223372036854775807) (ww : ∀ s ∈ ws, s.length ≤ 9223372036854775807) (w1 : w.length ≤ 9223372036854775807) : runP tabM 1592 [.sl 2 (poS P), .sl 1 (strs ws), .str w] [] = some (.bool true, []) := by
  refine runP_fn (show tabM 1592 = _ from t1592) rfl ?_
  have L := strs_length ws
  have LP := poS_len P
  have gbig := up (bigP_run hn hw hr)
  have gfew := up (few_run wn ww)
  have gp := posted_run
  cases cb : bigP P with
  | true =>
    rw [cb] at gbig
    simp (config := { maxSteps := 1000000 }) (disch := omega) only [go_sem, ↓reduceIte, Nat.reduceEqDiff, Nat.reduceAdd, reduceCtorEq, d1592, gbig, gp]
  | false =>
  rw [cb] at gbig
  cases cf : fewB ws with
  | false =>
    rw [cf] at gfew
    simp (config := { maxSteps := 1000000 }) (disch := omega) only [go_sem, ↓reduceIte, Nat.reduceEqDiff, Nat.reduceAdd, reduceCtorEq, d1592, gbig, gfew, gp]
  | true =>
  rw [cf] at gfew
  by_cases h0 : ws = []
  · subst h0
    simp (config := { maxSteps := 1000000 }) (disch := omega) only [go_sem, ↓reduceIte, Nat.reduceEqDiff, Nat.reduceAdd, reduceCtorEq, d1592, L, gbig, gfew, gp]
  have hp : 0 < ws.length := List.length_pos_iff.2 h0
  by_cases c4 : w.length ≤ 60
  case neg => simp (config := { maxSteps := 1000000 }) (disch := omega) only [go_sem, ↓reduceIte, Nat.reduceEqDiff, Nat.reduceAdd, reduceCtorEq, d1592, L, gbig, gfew, gp]
  obtain ⟨hl, hx⟩ := fewB_ok cf
  have hP := bigP_okP cb
  have gx := up (otx_run (l := ws) (by omega))
  have hbn : ws ++ [w] ≠ [] := by simp
  have lb : (ws ++ [w]).length = ws.length + 1 := by simp
  have ga := up (all05_run hP (ws := ws) (by omega))
  have gb := up (all05_run hP (ws := ws ++ [w]) (by omega))
  have gc := up (any05_run hP (ws := ws) (by omega))
  have gd := up (any05_run hP (ws := ws ++ [w]) (by omega))
  rw [if_neg h0] at ga gc
  rw [if_neg hbn] at gb gd
  have eapp : strs (ws ++ [w]) = strs ws ++ [.str w] := (strs_snoc _ _).symm
  rw [eapp] at gb gd
  have l1 := allP_len hP ws
  have l2 := anyP_len hP ws
  have l3 := allP_len hP (ws ++ [w])
  have l4 := anyP_len hP (ws ++ [w])
  have m1 : ∀ x ∈ allP P (ws ++ [w]), x ∈ allP P ws := fun x hx => (allP_mem h0).2 fun v hv => (allP_mem hbn).1 hx v (List.mem_append_left _ hv)
  have m2 : ∀ x ∈ anyP P ws, x ∈ anyP P (ws ++ [w]) := fun x hx => (anyP_mem _).2 (by obtain ⟨v, h1, h2⟩ := (anyP_mem _).1 hx; exact ⟨v, List.mem_append_left _ h1, h2⟩)
  have m3 : ∀ x ∈ allP P ws, x ∈ anyP P ws := fun x hx => (anyP_mem _).2 ⟨_, getD_mem (d := []) hp, (allP_mem h0).1 hx _ (getD_mem (d := []) hp)⟩
  generalize allP P ws = A at *
  generalize allP P (ws ++ [w]) = B at *
  generalize anyP P ws = C at *
  generalize anyP P (ws ++ [w]) = D at *
  have LA := ints_length A
  have LB := ints_length B
  have LC := ints_length C
  have gA : ∀ x ∈ A, runP tabM 1020 [.sl 1 (ints A), .int .i64 x] [] = some (.bool true, []) := fun x hx => by have := up (qin_run (l := A) (x := x) (by omega)); rw [decide_eq_true hx] at this; exact this
  have gC : ∀ x ∈ C, runP tabM 1020 [.sl 1 (ints C), .int .i64 x] [] = some (.bool true, []) := fun x hx => by have := up (qin_run (l := C) (x := x) (by omega)); rw [decide_eq_true hx] at this; exact this
  have gD : ∀ x ∈ D, runP tabM 1020 [.sl 1 (ints D), .int .i64 x] [] = some (.bool true, []) := fun x hx => by have := up (qin_run (l := D) (x := x) (by omega)); rw [decide_eq_true hx] at this; exact this
  simp (config := { maxSteps := 1000000 }) (disch := omega) only [go_sem, ↓reduceIte, Nat.reduceEqDiff, Nat.reduceAdd, reduceCtorEq, d1592, L, gbig, gfew, gx, ga, gb, gc, gd]
  refine Ev_loop0 (fun i => ⟨[(8, .own 1 2), (9, .int .i64 0), (10, .own 1 3), (11, .int .i64 0), (12, .own 1 4), (13, .int .i64 0), (14, .own 1 5), (15, .int .i64 0), (16, .int .i64 (i : Int))], [.dead, .row false (strs ws ++ [.str w]), .row false (ints A), .row false (ints B), .row false (ints C), .row false (ints D)], 0, [(0, 6, [8, 9, 10, 11, 12, 13, 14, 15, 16], [(8, 2), (10, 3), (12, 4), (14, 5)])]⟩) B.length rfl (fun i hi => ?_) ?_
  · have e1 := ints_rdc0 hi
    have g := gA _ (m1 _ (getD_memI hi))
    simp (config := { maxSteps := 1000000 }) (disch := omega) only [go_sem, ↓reduceIte, Nat.reduceEqDiff, Nat.reduceAdd, d1592_b0, LB, e1, g]
  simp (config := { maxSteps := 1000000 }) (disch := omega) only [go_sem, ↓reduceIte, Nat.reduceEqDiff, Nat.reduceAdd, reduceCtorEq, d1592_b0, LB]
  refine Ev_loop0 (fun i => ⟨[(8, .own 1 2), (9, .int .i64 0), (11, .int .i64 0), (12, .own 1 4), (13, .int .i64 0), (14, .own 1 5), (15, .int .i64 0), (17, .int .i64 (i : Int))], [.dead, .row false (strs ws ++ [.str w]), .row false (ints A), .row false (ints B), .row false (ints C), .row false (ints D)], 0, [(1, 6, [8, 9, 11, 12, 13, 14, 15, 17], [(8, 2), (12, 4), (14, 5)]), (0, 6, [8, 9, 10, 11, 12, 13, 14, 15, 16], [(8, 2), (10, 3), (12, 4), (14, 5)])]⟩) C.length rfl (fun i hi => ?_) ?_
  · have e1 := ints_rdc0 hi
    have g := gD _ (m2 _ (getD_memI hi))
    simp (config := { maxSteps := 1000000 }) (disch := omega) only [go_sem, ↓reduceIte, Nat.reduceEqDiff, Nat.reduceAdd, d1592_b1, LC, e1, g]
  simp (config := { maxSteps := 1000000 }) (disch := omega) only [go_sem, ↓reduceIte, Nat.reduceEqDiff, Nat.reduceAdd, reduceCtorEq, d1592_b1, LC]
  refine Ev_loop0 (fun i => ⟨[(8, .own 1 2), (9, .int .i64 0), (11, .int .i64 0), (12, .own 1 4), (13, .int .i64 0), (15, .int .i64 0), (18, .int .i64 (i : Int))], [.dead, .row false (strs ws ++ [.str w]), .row false (ints A), .row false (ints B), .row false (ints C), .row false (ints D)], 0, [(2, 6, [8, 9, 11, 12, 13, 15, 18], [(8, 2), (12, 4)]), (1, 6, [8, 9, 11, 12, 13, 14, 15, 17], [(8, 2), (12, 4), (14, 5)]), (0, 6, [8, 9, 10, 11, 12, 13, 14, 15, 16], [(8, 2), (10, 3), (12, 4), (14, 5)])]⟩) A.length rfl (fun i hi => ?_) ?_
  · have e1 := ints_rdc0 hi
    have g := gC _ (m3 _ (getD_memI hi))
    simp (config := { maxSteps := 1000000 }) (disch := omega) only [go_sem, ↓reduceIte, Nat.reduceEqDiff, Nat.reduceAdd, d1592_b2, LA, e1, g]
  simp (config := { maxSteps := 1000000 }) (disch := omega) only [go_sem, ↓reduceIte, Nat.reduceEqDiff, reduceCtorEq, d1592_b2, LA, gp]
end Go.Proofs.Ytmckpijdjoifoaa
