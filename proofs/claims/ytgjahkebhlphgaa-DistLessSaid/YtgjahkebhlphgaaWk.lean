/- Layer 8: DistPath, DistLess. -/
import Derived.Test.YtgjahkebhlphgaaWj
namespace Go.Proofs.Ytgjahkebhlphgaa
set_option linter.unusedSimpArgs false
set_option linter.unusedVariables false
set_option maxHeartbeats 4000000
set_option maxRecDepth 100000
theorem vi_add (r : Rw) (t : Nat) (s : Int) (i : Nat) : ∀ j, vi r t (vi r t s i) j = vi r t s (i + j)
  | 0 => rfl
  | j + 1 => by
    show nx8 r t (vi r t (vi r t s i) j) = nx8 r t (vi r t s (i + j))
    rw [vi_add r t s i j]
theorem pl8_drop {r : Rw} {t : Nat} {s : Int} {D i : Nat} (h : i ≤ D) : (pl8 r t s D).drop i = pl8 r t (vi r t s i) (D - i) := by
  refine gi_ext (by rw [List.length_drop, pl8_len, pl8_len]; omega) fun j hj => ?_
  rw [List.length_drop, pl8_len] at hj
  have e1 : gi ((pl8 r t s D).drop i) j = (pl8 r t s D).getD (i + j) 0 := by simp [gi, List.getD_eq_getElem?_getD, List.getElem?_drop]
  have e2 : gi (pl8 r t (vi r t s i) (D - i)) j = (pl8 r t (vi r t s i) (D - i)).getD j 0 := rfl
  rw [e1, e2, pl8_at (by omega), pl8_at (by omega), vi_add]
theorem rising_nodup {l : List Int} (h : l.Nodup) : (rising l).length = l.length := by
  refine Nat.le_antisymm (rising_len l) ?_
  exact h.length_le_of_subset fun x hx => (rising_mem l x).2 hx
theorem tow_int {r : Rw} (ok : r.ok) {t : Nat} (ht : t < plc r) {v : Int} (hv : 0 ≤ v ∧ v < plc r) : lev (nbr r false) v t = tow r t v := by
  obtain ⟨n, rfl⟩ : ∃ n : Nat, v = n := ⟨v.toNat, by omega⟩
  exact (tow_lev ok (by omega) ht).symm
theorem pchk_yes {r : Rw} (hc : chk r = true) {v t : Int} (hv : 0 ≤ v ∧ v < plc r) (ht : 0 ≤ t ∧ t < plc r) : pchk r [v, t] = 0 := by
  rcases pchk2 r v t with ⟨h, e⟩ | ⟨_, h, e⟩ | ⟨_, _, e⟩
  · exact absurd hc h
  · exact absurd ⟨hv, ht⟩ h
  · exact e
theorem pl8_nodup {r : Rw} (ok : r.ok) {t D : Nat} (ht : t < plc r) {s : Int} (hs : 0 ≤ s ∧ s < plc r) (hD : tow r t s = D) : (pl8 r t s D).Nodup := by
  refine nodup_ix.2 fun i hi hm => ?_
  rw [pl8_len] at hi
  rw [pl8_at (by omega)] at hm
  obtain ⟨j, hj, e⟩ := mem_getD (d := 0) hm
  rw [List.length_take, pl8_len] at hj
  have e2 : ((pl8 r t s D).take i).getD j 0 = (pl8 r t s D).getD j 0 := by simp [List.getD_eq_getElem?_getD, List.getElem?_take, show j < i by omega]
  rw [e2, pl8_at (by omega)] at e
  have b1 := (vi_spec ok ht hs hD i (by omega)).2
  have b2 := (vi_spec ok ht hs hD j (by omega)).2
  rw [← e, b2] at b1
  omega
theorem pl8_walk {r : Rw} (hc : chk r = true) {t D : Nat} (ht : t < plc r) {s : Int} (hs : 0 ≤ s ∧ s < plc r) (hD : tow r t s = D) : WalkP r (pl8 r t s D) := by
  have ok := chk_iff.1 hc
  refine ⟨hc, fun h => by have := pl8_len r t s D; rw [h] at this; simp at this, by rw [pl8_at (by omega)]; exact hs, fun i hi => ?_⟩
  rw [pl8_len] at hi
  rw [pl8_at (by omega), pl8_at (by omega), way_iff hc]
  obtain ⟨h1, h2⟩ := vi_spec ok ht hs hD i (by omega)
  obtain ⟨k, _, _, _, _, h5, _⟩ := nx8_ok ok ht h1 (m := D - (i + 1)) (by rw [h2]; omega)
  exact ⟨h1, h5⟩
theorem pl8_pl {r : Rw} (ok : r.ok) {t D : Nat} (ht : t < plc r) {s : Int} (hs : 0 ≤ s ∧ s < plc r) (hD : tow r t s = D) : ∀ v ∈ pl8 r t s D, 0 ≤ v ∧ v < plc r := by
  intro v hv
  obtain ⟨i, hi, rfl⟩ := mem_getD (d := 0) hv
  rw [pl8_len] at hi
  rw [pl8_at (by omega)]
  exact (vi_spec ok ht hs hD i (by omega)).1
theorem dp_end {r : Rw} (hr : okR r) (hc : chk r = true) {t D i : Nat} {s : Int} {X : List AV} (ht : t < plc r) (hs : 0 ≤ s ∧ s < plc r) (hD : tow r t s = D) (hD2 : D ≤ 200) (hi : i < D + 1) : Ev tab d1323_b0 ⟨[(2, .int .i64 (t : Int)), (3, .ref 0 0), (10, .own 1 1), (13, .int .i64 (i : Int))], [.row false (rwS r), .row false (ints (pl8 r t s D)), .row false (ints (rising (pl8 r t s D)))], 0, [(0, 3, [2, 3, 10, 13], [(3, 0), (10, 1)])]⟩ (fun x st => x = .normal ∧ st = ⟨[(2, .int .i64 (t : Int)), (3, .ref 0 0), (10, .own 1 1), (13, .int .i64 ((i + 1 : Nat) : Int))], [.row false (rwS r), .row false (ints (pl8 r t s D)), .row false (ints (rising (pl8 r t s D)))], 0, [(0, 3, [2, 3, 10, 13], [(3, 0), (10, 1)])]⟩) := by
  have ok := chk_iff.1 hc
  obtain ⟨hv, hcv⟩ := vi_spec ok ht hs hD i (by omega)
  have hl := pl8_len r t s D
  have ha := pl8_at (r := r) (t := t) (s := s) (j := D) (i := i) (by omega)
  have g := path_run (s := vi r t s i) (t := (t : Int)) hr
  rw [ptT, if_pos (pchk_yes hc hv ⟨by omega, by omega⟩), tow_int ok ht hv, hcv, if_pos (by omega), Int.toNat_natCast, Int.toNat_natCast, ← pl8_drop (by omega)] at g
  have hdl : ((pl8 r t s D).drop i).length < 1000000 := by rw [List.length_drop, hl]; omega
  have gi1 := ints_run hdl hdl
  simp only [beq_self_eq_true] at gi1
  have e2 : ((i + 1 : Nat) : Int) = (i : Int) + 1 := by omega
  rw [e2]
  generalize rising (pl8 r t s D) = Z at *
  generalize pl8 r t s D = P at *
  generalize vi r t s i = v at *
  simp only [rwS] at g
  have htk : (P.drop i).take (P.length - i) = P.drop i := List.take_of_length_le (by rw [List.length_drop]; exact Nat.le_refl _)
  simp (config := { maxSteps := 1000000 }) (disch := omega) only [go_sem, ↓reduceIte, Nat.reduceEqDiff, Nat.reduceAdd, Int.reduceToNat, reduceCtorEq, Nat.reduceLeDiff, Nat.reduceSub, Nat.reduceDiv, Nat.reduceMod, Nat.reduceMul, d1323_b0, rwS, ha, g, gi1, htk]
theorem dpath_run {r : Rw} {s t : Int} (hf : rwFit r) : runP tab 1323 [.agg (rwS r), .int .i64 s, .int .i64 t] [] = some (.bool true, []) := by
  refine runP_fn t1323 rfl ?_
  have gb := bigR_run hf
  have gt := dists_run
  simp only [rwS] at gb
  cases hb : bigR r with
  | true =>
    rw [hb] at gb
    simp (config := { maxSteps := 1000000 }) (disch := omega) only [go_sem, ↓reduceIte, Nat.reduceEqDiff, Nat.reduceAdd, Int.reduceToNat, reduceCtorEq, Nat.reduceLeDiff, Nat.reduceSub, Nat.reduceDiv, Nat.reduceMod, Nat.reduceMul, d1323, rwS, gb]
  | false =>
    rw [hb] at gb
    have hr := bigR_ok hb
    have g1 := dist_run (s := s) (t := t) hr
    have g2 := path_run (s := s) (t := t) hr
    unfold dsT at g1
    unfold ptT at g2
    rcases pchk2 r s t with ⟨hc, e⟩ | ⟨hc, h, e⟩ | ⟨hc, ⟨hs, ht⟩, e⟩
    · rw [e, if_neg (by decide)] at g1 g2
      simp only [rwS] at g1 g2
      simp (config := { maxSteps := 1000000 }) (disch := omega) only [go_sem, ↓reduceIte, Nat.reduceEqDiff, Nat.reduceAdd, Int.reduceToNat, reduceCtorEq, Nat.reduceLeDiff, Nat.reduceSub, Nat.reduceDiv, Nat.reduceMod, Nat.reduceMul, d1323, rwS, gb, gt, g1, g2]
    · rw [e, if_neg (by decide)] at g1 g2
      simp only [rwS] at g1 g2
      simp (config := { maxSteps := 1000000 }) (disch := omega) only [go_sem, ↓reduceIte, Nat.reduceEqDiff, Nat.reduceAdd, Int.reduceToNat, reduceCtorEq, Nat.reduceLeDiff, Nat.reduceSub, Nat.reduceDiv, Nat.reduceMod, Nat.reduceMul, d1323, rwS, gb, gt, g1, g2]
    · rw [e, if_pos rfl] at g1 g2
      obtain ⟨t, rfl⟩ : ∃ n : Nat, t = n := ⟨t.toNat, by omega⟩
      have ok := chk_iff.1 hc
      have hpl : plc r ≤ 200 := by have := ok.f.hi; unfold plc; omega
      have htl := tow_int ok (t := t) (by omega) hs
      rw [htl] at g1 g2
      rw [Int.toNat_natCast] at g2
      by_cases hD : 0 ≤ tow r t s
      · rw [if_pos hD] at g1 g2
        obtain ⟨D, hD2⟩ : ∃ D : Nat, tow r t s = D := ⟨(tow r t s).toNat, by omega⟩
        have hDn : D ≤ 200 := by
          obtain ⟨n, rfl⟩ : ∃ n : Nat, s = n := ⟨s.toNat, by omega⟩
          have := lev_lt ok false (s := n) (by omega) t
          rw [htl] at this; omega
        have gw := walk_run (l := pl8 r t s D) hr (by rw [pl8_len]; omega) (fun v hv => by have := pl8_pl ok (by omega) hs hD2 v hv; exact ⟨by omega, by omega⟩)
        rw [wlk_yes (pl8_walk hc (by omega) hs hD2)] at gw
        have gr := rising_run (l := pl8 r t s D) (by rw [pl8_len]; omega)
        have hrl := rising_nodup (pl8_nodup ok (by omega) hs hD2)
        have hl := pl8_len r t s D
        have h0 : rdc (ints (pl8 r t s D)) none = some (.int .i64 s) := by
          have := ints_rdc0 (l := pl8 r t s D) (i := 0) (by omega)
          rw [List.drop_zero, pl8_at (by omega)] at this
          exact this
        have hN := pl8_at (r := r) (t := t) (s := s) (j := D) (i := D) (by omega)
        have hend : vi r t s D = t := (tow_zero (r := r) (t := t)).1 (by rw [(vi_spec ok (by omega) hs hD2 D (by omega)).2]; omega)
        rw [hend] at hN
        have step := fun i => dp_end (i := i) (X := []) hr hc (by omega) hs hD2 hDn
        rw [hD2] at g1 g2
        rw [Int.toNat_natCast] at g2
        generalize rising (pl8 r t s D) = Z at *
        generalize pl8 r t s D = P at *
        simp only [rwS] at g1 g2 gw
        simp (config := { maxSteps := 1000000 }) (disch := omega) only [go_sem, ↓reduceIte, Nat.reduceEqDiff, Nat.reduceAdd, Int.reduceToNat, reduceCtorEq, Nat.reduceLeDiff, Nat.reduceSub, Nat.reduceDiv, Nat.reduceMod, Nat.reduceMul, d1323, rwS, gb, gt, g1, g2, gw, gr, hrl, h0, hN, hl, Int.natCast_add, Int.cast_ofNat_Int]
        refine Ev_loop0 (fun i => ⟨[(2, .int .i64 (t : Int)), (3, .ref 0 0), (10, .own 1 1), (13, .int .i64 (i : Int))], [.row false (rwS r), .row false (ints P), .row false (ints Z)], 0, [(0, 3, [2, 3, 10, 13], [(3, 0), (10, 1)])]⟩) (D + 1) (by simp [rwS]) (fun i hi => step i hi) ?_
        simp (config := { maxSteps := 1000000 }) (disch := omega) only [go_sem, ↓reduceIte, Nat.reduceEqDiff, Nat.reduceAdd, Int.reduceToNat, reduceCtorEq, Nat.reduceLeDiff, Nat.reduceSub, Nat.reduceDiv, Nat.reduceMod, Nat.reduceMul, d1323_b0, rwS, hl, gt]
      · rw [if_neg hD] at g1 g2
        simp only [rwS] at g1 g2
        simp (config := { maxSteps := 1000000 }) (disch := omega) only [go_sem, ↓reduceIte, Nat.reduceEqDiff, Nat.reduceAdd, Int.reduceToNat, reduceCtorEq, Nat.reduceLeDiff, Nat.reduceSub, Nat.reduceDiv, Nat.reduceMod, Nat.reduceMul, d1323, rwS, gb, gt, g1, g2]
theorem dl_num {r : Rw} (hr : okR r) (hc : chk r = true) {t D i : Nat} {s : Int} {P R : List Int} (ht : t < plc r) (hs : 0 ≤ s ∧ s < plc r) (hD : tow r t s = D) (hR : R = nbr r false s) (hi : i < R.length) (hP : P.length = D + 1) (hD1 : 1 ≤ D) (hD2 : D ≤ 200) (hlt : R.getD i 0 < P.getD 1 0) (hne : tow r t (R.getD i 0) ≠ ((D - 1 : Nat) : Int)) : Ev tab d1325_b0 ⟨[(2, .int .i64 (t : Int)), (3, .ref 0 0), (7, .own 1 1), (10, .own 1 2), (11, .bool true), (12, .int .i64 (i : Int))], [.row false (rwS r), .row false (ints P), .row false (ints R)], 0, [(0, 3, [2, 3, 7, 10, 11, 12], [(3, 0), (7, 1), (10, 2)])]⟩ (fun x st => x = .normal ∧ st = ⟨[(2, .int .i64 (t : Int)), (3, .ref 0 0), (7, .own 1 1), (10, .own 1 2), (11, .bool true), (12, .int .i64 ((i + 1 : Nat) : Int))], [.row false (rwS r), .row false (ints P), .row false (ints R)], 0, [(0, 3, [2, 3, 7, 10, 11, 12], [(3, 0), (7, 1), (10, 2)])]⟩) := by
  have ok := chk_iff.1 hc
  have hm : R.getD i 0 ∈ nbr r false s := by rw [← hR]; exact getD_mem hi
  have hv := nbr_plc ok false s hs.1 hs.2 _ hm
  have hRl := nbr_len ok false hs.1 hs.2
  rw [← hR] at hRl
  have g := dist_run (s := R.getD i 0) (t := (t : Int)) hr
  rw [dsT, if_pos (pchk_yes hc hv ⟨by omega, by omega⟩), tow_int ok ht hv] at g
  have key : 0 ≤ tow r t (R.getD i 0) → (D : Int) ≤ tow r t (R.getD i 0) := fun h => by
    rcases lev_cases (nbr r true) t (R.getD i 0) with ⟨n, hn, en⟩ | ⟨_, en⟩
    · have en : tow r t (R.getD i 0) = n := en
      have M := nbr_mirror ok true
      have hs2 : s ∈ nbr r true (R.getD i 0) := (M (R.getD i 0) s hv.1 hv.2 hs.1 hs.2).2 hm
      obtain ⟨j, hj, hd⟩ := Wk_dsk (show Wk (nbr r true) t (n + 1) s from ⟨R.getD i 0, hn.1, hs2⟩)
      have : tow r t s = j := lev_yes hd
      omega
    · have : tow r t (R.getD i 0) = -1 := en
      omega
  have e2 : ((i + 1 : Nat) : Int) = (i : Int) + 1 := by omega
  rw [e2]
  generalize tow r t (R.getD i 0) = n at *
  generalize hvv : R.getD i 0 = v at *
  generalize hp1 : P.getD 1 0 = p1 at *
  clear hne hm
  simp only [rwS] at g
  by_cases hn : 0 ≤ n
  · rw [if_pos hn] at g
    have key := key hn
    simp (config := { maxSteps := 1000000 }) (disch := omega) only [go_sem, ↓reduceIte, Nat.reduceEqDiff, Nat.reduceAdd, Int.reduceToNat, reduceCtorEq, Nat.reduceLeDiff, Nat.reduceSub, Nat.reduceDiv, Nat.reduceMod, Nat.reduceMul, d1325_b0, rwS, hvv, hp1, hP, g, Int.natCast_add, Int.cast_ofNat_Int]
  · rw [if_neg hn] at g
    clear key
    simp (config := { maxSteps := 1000000 }) (disch := omega) only [go_sem, ↓reduceIte, Nat.reduceEqDiff, Nat.reduceAdd, Int.reduceToNat, reduceCtorEq, Nat.reduceLeDiff, Nat.reduceSub, Nat.reduceDiv, Nat.reduceMod, Nat.reduceMul, d1325_b0, rwS, hvv, hp1, hP, g, Int.natCast_add, Int.cast_ofNat_Int]
theorem dless_run {r : Rw} {s t : Int} (hf : rwFit r) : runP tab 1325 [.agg (rwS r), .int .i64 s, .int .i64 t] [] = some (.bool true, []) := by
  refine runP_fn t1325 rfl ?_
  have gb := bigR_run hf
  have gt := dists_run
  simp only [rwS] at gb
  cases hb : bigR r with
  | true =>
    rw [hb] at gb
    simp (config := { maxSteps := 1000000 }) (disch := omega) only [go_sem, ↓reduceIte, Nat.reduceEqDiff, Nat.reduceAdd, Int.reduceToNat, reduceCtorEq, Nat.reduceLeDiff, Nat.reduceSub, Nat.reduceDiv, Nat.reduceMod, Nat.reduceMul, d1325, rwS, gb]
  | false =>
    rw [hb] at gb
    have hr := bigR_ok hb
    have g2 := path_run (s := s) (t := t) hr
    unfold ptT at g2
    rcases pchk2 r s t with ⟨hc, e⟩ | ⟨hc, h, e⟩ | ⟨hc, ⟨hs, ht⟩, e⟩
    · rw [e, if_neg (by decide)] at g2
      simp only [rwS] at g2
      simp (config := { maxSteps := 1000000 }) (disch := omega) only [go_sem, ↓reduceIte, Nat.reduceEqDiff, Nat.reduceAdd, Int.reduceToNat, reduceCtorEq, Nat.reduceLeDiff, Nat.reduceSub, Nat.reduceDiv, Nat.reduceMod, Nat.reduceMul, d1325, rwS, gb, gt, g2]
    · rw [e, if_neg (by decide)] at g2
      simp only [rwS] at g2
      simp (config := { maxSteps := 1000000 }) (disch := omega) only [go_sem, ↓reduceIte, Nat.reduceEqDiff, Nat.reduceAdd, Int.reduceToNat, reduceCtorEq, Nat.reduceLeDiff, Nat.reduceSub, Nat.reduceDiv, Nat.reduceMod, Nat.reduceMul, d1325, rwS, gb, gt, g2]
    · rw [e, if_pos rfl] at g2
      obtain ⟨t, rfl⟩ : ∃ n : Nat, t = n := ⟨t.toNat, by omega⟩
      have ok := chk_iff.1 hc
      have lo := ok.f.lo
      have hpl : plc r ≤ 200 := by have := ok.f.hi; unfold plc; omega
      have htl := tow_int ok (t := t) (by omega) hs
      rw [htl] at g2
      rw [Int.toNat_natCast] at g2
      by_cases hD : 0 ≤ tow r t s
      · rw [if_pos hD] at g2
        obtain ⟨D, hD2⟩ : ∃ D : Nat, tow r t s = D := ⟨(tow r t s).toNat, by omega⟩
        have hDn : D ≤ 200 := by
          obtain ⟨n, rfl⟩ : ∃ n : Nat, s = n := ⟨s.toNat, by omega⟩
          have := lev_lt ok false (s := n) (by omega) t
          rw [htl] at this; omega
        have hl := pl8_len r t s D
        rw [hD2] at g2
        rw [Int.toNat_natCast] at g2
        by_cases hD0 : D = 0
        · subst hD0
          generalize pl8 r t s 0 = P at *
          simp only [rwS] at g2
          simp (config := { maxSteps := 1000000 }) (disch := omega) only [go_sem, ↓reduceIte, Nat.reduceEqDiff, Nat.reduceAdd, Int.reduceToNat, reduceCtorEq, Nat.reduceLeDiff, Nat.reduceSub, Nat.reduceDiv, Nat.reduceMod, Nat.reduceMul, d1325, rwS, gb, gt, g2, hl]
        · have h1 := pl8_at (r := r) (t := t) (s := s) (j := D) (i := 1) (by omega)
          obtain ⟨k, k1, k2, k3, k4, k5, k6⟩ := nx8_ok ok (t := t) (by omega) hs (m := D - 1) (by rw [hD2]; omega)
          have e1 : vi r t s 1 = nx8 r t s := rfl
          rw [e1] at h1
          have go := out_run (v := s) hr ⟨by omega, by omega⟩
          have ht1 : told1 r r.off r.to s = .tup [.vec 1 (ints (nbr r false s)), .bool true] := by
            rw [told1, if_pos ⟨hc, hs.1, by unfold plc at hs; omega⟩]; rfl
          rw [ht1] at go
          have hRl := nbr_len ok false hs.1 hs.2
          have hinc : (nbr r false s).Pairwise (· < ·) := ok.f.inc (v := s.toNat) (by unfold plc at hs; omega)
          have step := fun i P R hR hi hP hlt hne => dl_num (i := i) (P := P) (R := R) hr hc (t := t) (by omega) hs hD2 hR hi hP (by omega) hDn hlt hne
          have hlt : ∀ i, i < k → (nbr r false s).getD i 0 < (pl8 r t s D).getD 1 0 := fun i hi => by
            rw [h1, ← k2]
            exact inc_at hinc hi k1
          generalize hR : nbr r false s = R at *
          generalize pl8 r t s D = P at *
          simp only [rwS] at g2 go
          simp (config := { maxSteps := 1000000 }) (disch := omega) only [go_sem, ↓reduceIte, Nat.reduceEqDiff, Nat.reduceAdd, Int.reduceToNat, reduceCtorEq, Nat.reduceLeDiff, Nat.reduceSub, Nat.reduceDiv, Nat.reduceMod, Nat.reduceMul, d1325, rwS, gb, gt, g2, go, hl]
          refine Ev_loop0 (fun i => ⟨[(2, .int .i64 (t : Int)), (3, .ref 0 0), (7, .own 1 1), (10, .own 1 2), (11, .bool true), (12, .int .i64 (i : Int))], [.row false (rwS r), .row false (ints P), .row false (ints R)], 0, [(0, 3, [2, 3, 7, 10, 11, 12], [(3, 0), (7, 1), (10, 2)])]⟩) k (by simp [rwS]) (fun i hi => step i P R rfl (by omega) hl (hlt i hi) (k4 i hi)) ?_
          simp (config := { maxSteps := 1000000 }) (disch := omega) only [go_sem, ↓reduceIte, Nat.reduceEqDiff, Nat.reduceAdd, Int.reduceToNat, reduceCtorEq, Nat.reduceLeDiff, Nat.reduceSub, Nat.reduceDiv, Nat.reduceMod, Nat.reduceMul, d1325_b0, rwS, h1, k2, gt]
      · rw [if_neg hD] at g2
        simp only [rwS] at g2
        simp (config := { maxSteps := 1000000 }) (disch := omega) only [go_sem, ↓reduceIte, Nat.reduceEqDiff, Nat.reduceAdd, Int.reduceToNat, reduceCtorEq, Nat.reduceLeDiff, Nat.reduceSub, Nat.reduceDiv, Nat.reduceMod, Nat.reduceMul, d1325, rwS, gb, gt, g2]
end Go.Proofs.Ytgjahkebhlphgaa
