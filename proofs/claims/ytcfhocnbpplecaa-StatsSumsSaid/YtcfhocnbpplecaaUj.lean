import Derived.Test.YtcfhocnbpplecaaUi
namespace Go.Proofs.Ytcfhocnbpplecaa
set_option maxHeartbeats 4000000
set_option maxRecDepth 100000
theorem ctsP_len (C : List Int) : (ctsP C).length = (rising C).length := by simp [ctsP]
theorem ctsP_at {C : List Int} {i : Nat} (h : i < (rising C).length) : (ctsP C).getD i default = ⟨(rising C).getD i 0, (cnI C ((rising C).getD i 0) : Nat)⟩ := by
  unfold ctsP
  rw [List.getD_eq_getElem?_getD, List.getD_eq_getElem?_getD, List.getElem?_map, List.getElem?_eq_getElem h]; rfl
theorem ctsP_v {C : List Int} {i : Nat} (h : i < (rising C).length) : rdc (hts ((ctsP C).drop i)) none = some (.int .i64 ((rising C).getD i 0)) := by
  have e := ctsP_at h
  have h' : i < (ctsP C).length := by rw [ctsP_len]; exact h
  rw [List.drop_eq_getElem_cons h', hts_cons]
  rw [List.getD_eq_getElem?_getD, List.getElem?_eq_getElem h'] at e
  rw [show (ctsP C)[i] = _ from e]; rfl
theorem ctsP_d {C : List Int} {i : Nat} (h : i < (rising C).length) : rdc (List.drop (i * 2 + 1) (hts (ctsP C))) none = some (.int .i64 (cnI C ((rising C).getD i 0) : Nat)) := by
  have e := ctsP_at h
  have h' : i < (ctsP C).length := by rw [ctsP_len]; exact h
  rw [← List.drop_drop, hts_drop, List.drop_eq_getElem_cons h', hts_cons]
  rw [List.getD_eq_getElem?_getD, List.getElem?_eq_getElem h'] at e
  rw [show (ctsP C)[i] = _ from e]; rfl
theorem ctsP_d' {C : List Int} {i : Nat} (h : i < (rising C).length) : rdc (List.drop 1 (hts ((ctsP C).drop i))) none = some (.int .i64 (cnI C ((rising C).getD i 0) : Nat)) := by
  have := ctsP_d h
  rwa [← List.drop_drop, hts_drop] at this
def cntT (C : List Int) (e : Int) (i : Nat) : Nat := if e ∈ (rising C).take i then cnI C e else 0
theorem cntT_all (C : List Int) (e : Int) : cntT C e (rising C).length = cnI C e := by
  unfold cntT
  rw [List.take_length]
  by_cases h : e ∈ rising C
  · rw [if_pos h]
  · rw [if_neg h, cnI_zero (fun h' => h ((rising_mem _ _).2 h'))]
theorem cntT_yes {C : List Int} {e : Int} {i : Nat} (hi : i < (rising C).length) (h : (rising C).getD i 0 = e) : cntT C e i = 0 ∧ cntT C e (i + 1) = cnI C e := by
  unfold cntT
  refine ⟨if_neg fun hm => ?_, by rw [take_snoc 0 hi, h]; exact if_pos (by simp)⟩
  have hn := rising_nodup C
  rw [← List.take_append_drop i (rising C), List.nodup_append] at hn
  refine hn.2.2 e hm e ?_ rfl
  rw [List.drop_eq_getElem_cons hi, List.mem_cons]
  rw [List.getD_eq_getElem?_getD, List.getElem?_eq_getElem hi] at h
  exact .inl h.symm
theorem cntT_no {C : List Int} {e : Int} {i : Nat} (hi : i < (rising C).length) (h : (rising C).getD i 0 ≠ e) : cntT C e (i + 1) = cntT C e i := by
  unfold cntT
  rw [take_snoc 0 hi]
  by_cases hm : e ∈ (rising C).take i
  · rw [if_pos hm, if_pos (by simp [hm])]
  · rw [if_neg hm, if_neg]
    intro h2
    rcases List.mem_append.1 h2 with h3 | h3
    · exact hm h3
    · rw [List.mem_singleton] at h3; exact h h3.symm
theorem cntT_le (C : List Int) (e : Int) (i : Nat) : cntT C e i ≤ C.length := by
  have := cnI_len C e
  unfold cntT; split <;> omega
def couS (C : List Int) (e : Int) (i : Nat) : St := ⟨[(0, .sl 2 (hts (ctsP C))), (1, .int .i64 e), (5, .int .i64 (cntT C e i : Nat)), (6, .int .i64 (i : Int))], [], 0, [(0, 0, [0, 1, 5, 6], [])]⟩
theorem count_run {C : List Int} {e : Int} (hC : C.length ≤ 60000) : runP tab 1409 [.sl 2 (hts (ctsP C)), .int .i64 e] [] = some (.int .i64 (cnI C e : Nat), []) := by
  refine runP_fn t1409 rfl ?_
  have hl := rising_len C
  have L := hts_len (ctsP C)
  have L2 := ctsP_len C
  simp (disch := omega) only [go_sem, ↓reduceIte, Nat.reduceEqDiff, reduceCtorEq, d1409]
  refine Ev_loop0 (fun i => couS C e i) (rising C).length (by simp [couS, cntT]) (fun i hi => ?_) ?_
  · have e1 := ctsP_v hi
    have e2 := ctsP_d' hi
    have e3 := ctsP_d hi
    have b1 := cntT_le C e i
    have b2 := cntT_le C e (i + 1)
    unfold couS
    by_cases h : (rising C).getD i 0 = e
    · obtain ⟨a1, a2⟩ := cntT_yes hi h
      rw [a1, a2]
      rw [a2] at b2
      rw [h] at e1 e2 e3
      simp (disch := omega) only [go_sem, ↓reduceIte, Nat.reduceEqDiff, reduceCtorEq, d1409_b0, e1, e2, L, L2]
    · rw [cntT_no hi h]
      generalize cntT C e i = n at *
      simp (disch := omega) only [go_sem, ↓reduceIte, Nat.reduceEqDiff, reduceCtorEq, d1409_b0, e1, L, L2, h]
  · unfold couS
    rw [cntT_all]
    have b1 := cnI_len C e
    generalize cnI C e = n at *
    simp (disch := omega) only [go_sem, ↓reduceIte, Nat.reduceEqDiff, reduceCtorEq, d1409_b0, L, L2]
theorem cdsR_app (l m : List Txt) : cdsR (l ++ m) = cdsR l ++ cdsR m := by unfold cdsR; rw [reps_app, List.map_append]
theorem odds_app (l m : List Txt) : odds (l ++ m) = odds l + odds m := List.countP_append
theorem cnI_app (l m : List Int) (e : Int) : cnI (l ++ m) e = cnI l e + cnI m e := List.countP_append
def suS (l m : List Txt) (code : Int) (i : Nat) : St := ⟨[(2, .int .i64 code), (7, .own 1 1), (8, .own 2 2), (9, .int .i64 (odds l : Nat)), (10, .own 2 3), (11, .int .i64 (odds m : Nat)), (12, .own 2 4), (13, .int .i64 (odds (l ++ m) : Nat)), (14, .int .i64 (odds (l ++ m) + (((rising (cdsR (l ++ m))).take i).map (cnI (cdsR (l ++ m)))).sum : Nat)), (15, .int .i64 (i : Int))], [.dead, .row false (strs l ++ strs m), .row false (hts (ctsP (cdsR l))), .row false (hts (ctsP (cdsR m))), .row false (hts (ctsP (cdsR (l ++ m))))], 0, [(0, 5, [2, 7, 8, 9, 10, 11, 12, 13, 14, 15], [(7, 1), (8, 2), (10, 3), (12, 4)])]⟩
theorem sums_law {l m : List Txt} {code : Int} (hl : l.length ≤ 9223372036854775807) (ht : ∀ w ∈ l, w.length ≤ 9223372036854775807) (hm : m.length ≤ 9223372036854775807) (ht' : ∀ w ∈ m, w.length ≤ 9223372036854775807) : runP tabP 1394 [.sl 1 (strs l), .sl 1 (strs m), .int .i64 code] [] = some (.bool true, []) := by
  refine runP_fn (show tabP 1394 = _ from t1394) rfl ?_
  obtain ⟨b, gb, hb⟩ := bigB_run hl ht
  obtain ⟨b', gb', hb'⟩ := bigB_run hm ht'
  have gb := upP (up gb)
  have gb' := upP (up gb')
  cases b with
  | true => simp (disch := omega) only [go_sem, ↓reduceIte, Nat.reduceEqDiff, Nat.reduceAdd, reduceCtorEq, d1394, gb]
  | false =>
  cases b' with
  | true => simp (disch := omega) only [go_sem, ↓reduceIte, Nat.reduceEqDiff, Nat.reduceAdd, reduceCtorEq, d1394, gb, gb']
  | false =>
  obtain ⟨h1, h2⟩ := hb rfl
  obtain ⟨h3, h4⟩ := hb' rfl
  have ok : okB l := ⟨by omega, fun i hi => by have := h2 i hi; omega⟩
  have ok' : okB m := ⟨by omega, fun i hi => by have := h4 i hi; omega⟩
  have ok2 : okB (l ++ m) := ⟨by simp; omega, fun i hi => by
    rw [List.getD_eq_getElem?_getD]
    by_cases h : i < l.length
    · rw [List.getElem?_append_left h, ← List.getD_eq_getElem?_getD]; have := h2 i h; omega
    · rw [List.getElem?_append_right (by omega), ← List.getD_eq_getElem?_getD]
      rw [List.length_append] at hi
      have := h4 (i - l.length) (by omega); omega⟩
  have g1 := upP (up (otx_run (l := l) (by omega)))
  have g2 := codes_run ok
  have g3 := codes_run ok'
  have g4 := codes_run ok2
  have g6 := counted_run
  have c1 := cdsR_len l
  have c2 := cdsR_len m
  have c3 := cdsR_len (l ++ m)
  simp only [List.length_append] at c3
  have k1 := upP (up (count_run (C := cdsR l) (e := code) (by omega)))
  have k2 := upP (up (count_run (C := cdsR m) (e := code) (by omega)))
  have k3 := upP (up (count_run (C := cdsR (l ++ m)) (e := code) (by omega)))
  have o1 := odds_app l m
  have o2 := odds_add (l ++ m)
  have o3 := reps_len (l ++ m)
  rw [List.length_append] at o2 o3
  have q1 : cnI (cdsR (l ++ m)) code = cnI (cdsR l) code + cnI (cdsR m) code := by rw [cdsR_app, cnI_app]
  have n1 := cnI_len (cdsR l) code
  have n2 := cnI_len (cdsR m) code
  have s1 := nsum_rising (cdsR (l ++ m))
  have cl : (cdsR (l ++ m)).length = (reps (l ++ m)).length := by simp [cdsR]
  have L := strs_length l
  have L' := strs_length m
  have L2 := strs_length (l ++ m)
  have hS := rising_len (cdsR (l ++ m))
  have LH := hts_len (ctsP (cdsR (l ++ m)))
  have LH2 := ctsP_len (cdsR (l ++ m))
  rw [List.length_append] at L2
  have es : strs (l ++ m) = strs l ++ strs m := by simp [strs]
  rw [es] at g4 L2
  simp (disch := omega) only [go_sem, ↓reduceIte, Nat.reduceEqDiff, Nat.reduceAdd, reduceCtorEq, d1394, gb, gb', g1, g2, g3, g4, L, L']
  refine Ev_loop0 (fun i => suS l m code i) (rising (cdsR (l ++ m))).length (by simp [suS]) (fun i hi => ?_) ?_
  · have e1 := ctsP_v hi
    have e2 := ctsP_d hi
    have e3 : 0 < i → rdc (hts ((ctsP (cdsR (l ++ m))).drop (i - 1))) none = some (.int .i64 ((rising (cdsR (l ++ m))).getD (i - 1) 0)) := fun h => ctsP_v (by omega)
    have e4 : 0 < i → (rising (cdsR (l ++ m))).getD (i - 1) 0 < (rising (cdsR (l ++ m))).getD i 0 := fun h => by
      have := rising_lt (l := cdsR (l ++ m)) (i := i - 1) (by omega)
      rwa [show i - 1 + 1 = i by omega] at this
    have e5 : 0 < i → ((i : Int) - 1).toNat = i - 1 := fun _ => by omega
    have hp : 0 < cnI (cdsR (l ++ m)) ((rising (cdsR (l ++ m))).getD i 0) := (cnI_pos _ _).2 ((rising_mem _ _).1 (getD_memI hi))
    have b1 := nsum_take (cnI (cdsR (l ++ m))) (rising (cdsR (l ++ m))) (i + 1)
    unfold suS
    rw [nsum_snoc _ hi] at b1 ⊢
    generalize (((rising (cdsR (l ++ m))).take i).map (cnI (cdsR (l ++ m)))).sum = n at *
    by_cases hz : 0 < i
    · have e3 := e3 hz
      have e4 := e4 hz
      have e5 := e5 hz
      simp (disch := omega) only [go_sem, ↓reduceIte, Nat.reduceEqDiff, Nat.reduceAdd, d1394_b0, e1, e2, e3, e5, LH, LH2]
      rw [Int.add_assoc]
    · obtain rfl : i = 0 := by omega
      rw [List.drop_zero] at e1
      simp (disch := omega) only [go_sem, ↓reduceIte, Nat.reduceEqDiff, Nat.reduceAdd, Int.reduceToNat, d1394_b0, e2, LH, LH2]
      rw [Int.add_assoc]
  · unfold suS
    rw [List.take_length, s1]
    simp (disch := omega) only [go_sem, ↓reduceIte, Nat.reduceEqDiff, reduceCtorEq, d1394_b0, LH, LH2, L2, g6, k1, k2, k3]
end Go.Proofs.Ytcfhocnbpplecaa
