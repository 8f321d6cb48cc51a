/- Walks. -/
import Derived.Test.YtgjahkebhlphgaaWe
namespace Go.Proofs.Ytgjahkebhlphgaa
set_option linter.unusedSimpArgs false
set_option linter.unusedVariables false
set_option maxHeartbeats 4000000
set_option maxRecDepth 100000
def fnd8 (c : Int → Int) (d : Int) : List Int → Int
  | [] => 0
  | w :: l => if c w = d then w else fnd8 c d l
theorem fnd8_spec {c : Int → Int} {d : Int} : ∀ {l : List Int}, (∃ w ∈ l, c w = d) → ∃ k, k < l.length ∧ l.getD k 0 = fnd8 c d l ∧ c (fnd8 c d l) = d ∧ ∀ i, i < k → c (l.getD i 0) ≠ d
  | [], h => by obtain ⟨w, hw, _⟩ := h; cases hw
  | x :: l, h => by
    unfold fnd8
    by_cases hx : c x = d
    · rw [if_pos hx]
      exact ⟨0, by simp, by simp, hx, fun i hi => by omega⟩
    · rw [if_neg hx]
      obtain ⟨k, h1, h2, h3, h4⟩ := fnd8_spec (l := l) (by
        obtain ⟨w, hw, e⟩ := h
        rcases List.mem_cons.1 hw with rfl | hw
        · exact absurd e hx
        · exact ⟨w, hw, e⟩)
      refine ⟨k + 1, by simpa using h1, by simpa using h2, h3, fun i hi => ?_⟩
      cases i with
      | zero => simpa using hx
      | succ i => simpa using h4 i (by omega)
theorem fnd8_drop {c : Int → Int} {d : Int} {l : List Int} {m : Nat} (h : m < l.length) : fnd8 c d (l.drop m) = if c (l.getD m 0) = d then l.getD m 0 else fnd8 c d (l.drop (m + 1)) := by
  rw [List.drop_eq_getElem_cons h, fnd8, List.getD_eq_getElem?_getD, List.getElem?_eq_getElem h]; rfl
noncomputable def tow (r : Rw) (t : Nat) (v : Int) : Int := lev (nbr r true) t v
noncomputable def nx8 (r : Rw) (t : Nat) (v : Int) : Int := fnd8 (tow r t) (tow r t v - 1) (nbr r false v)
noncomputable def vi (r : Rw) (t : Nat) (s : Int) : Nat → Int
  | 0 => s
  | j + 1 => nx8 r t (vi r t s j)
noncomputable def pl8 (r : Rw) (t : Nat) (s : Int) (j : Nat) : List Int := (List.range (j + 1)).map (vi r t s)
theorem pl8_succ (r : Rw) (t : Nat) (s : Int) (j : Nat) : pl8 r t s (j + 1) = pl8 r t s j ++ [vi r t s (j + 1)] := by simp [pl8, List.range_succ]
theorem pl8_len (r : Rw) (t : Nat) (s : Int) (j : Nat) : (pl8 r t s j).length = j + 1 := by simp [pl8]
theorem pl8_at {r : Rw} {t : Nat} {s : Int} {j i : Nat} (h : i ≤ j) : (pl8 r t s j).getD i 0 = vi r t s i := by
  have : i < j + 1 := by omega
  simp [pl8, List.getD_eq_getElem?_getD, this]
theorem nx8_ok {r : Rw} (ok : r.ok) {t : Nat} (ht : t < plc r) {v : Int} (hv : 0 ≤ v ∧ v < plc r) {m : Nat} (h : tow r t v = m + 1) : ∃ k, k < (nbr r false v).length ∧ (nbr r false v).getD k 0 = nx8 r t v ∧ tow r t (nx8 r t v) = m ∧ (∀ i, i < k → tow r t ((nbr r false v).getD i 0) ≠ m) ∧ nx8 r t v ∈ nbr r false v ∧ 0 ≤ nx8 r t v ∧ nx8 r t v < plc r := by
  have H := nbr_plc ok false
  have H2 := nbr_plc ok true
  have M := nbr_mirror ok false
  have hd : dsk (nbr r true) t (m + 1) v := lev_dst.1 (by rw [show lev (nbr r true) t v = tow r t v from rfl, h]; omega)
  obtain ⟨u, hu, hvu⟩ := dsk_pred hd
  have hup := Wk_pl H2 (s := (t : Int)) ⟨by omega, by omega⟩ hu.1
  have hm : u ∈ nbr r false v := (M v u hv.1 hv.2 hup.1 hup.2).2 hvu
  obtain ⟨k, h1, h2, h3, h4⟩ := fnd8_spec (c := tow r t) (d := tow r t v - 1) (l := nbr r false v) ⟨u, hm, by rw [h]; have := lev_yes hu; unfold tow; omega⟩
  have e : tow r t v - 1 = m := by omega
  have hmem : nx8 r t v ∈ nbr r false v := by rw [nx8, ← h2]; exact getD_mem h1
  have hp := H v hv.1 hv.2 _ hmem
  refine ⟨k, h1, h2, by rw [← e]; exact h3, fun i hi => by rw [← e]; exact h4 i hi, hmem, hp.1, hp.2⟩
theorem vi_spec {r : Rw} (ok : r.ok) {t D : Nat} (ht : t < plc r) {s : Int} (hs : 0 ≤ s ∧ s < plc r) (hD : tow r t s = D) : ∀ j, j ≤ D → (0 ≤ vi r t s j ∧ vi r t s j < plc r) ∧ tow r t (vi r t s j) = ((D - j : Nat) : Int)
  | 0, _ => ⟨hs, by rw [vi, hD]; omega⟩
  | j + 1, hj => by
    obtain ⟨h1, h2⟩ := vi_spec ok ht hs hD j (by omega)
    obtain ⟨k, _, _, h3, _, _, h4⟩ := nx8_ok ok ht h1 (m := D - (j + 1)) (by rw [h2]; omega)
    exact ⟨h4, h3⟩
theorem tow_zero {r : Rw} {t : Nat} {v : Int} : tow r t v = 0 ↔ v = t := by
  have := lev_dst (nb := nbr r true) (s := (t : Int)) (v := v) (k := 0)
  rw [dsk_zero] at this
  exact this
theorem tow_lev {r : Rw} (ok : r.ok) {s t : Nat} (hs : s < plc r) (ht : t < plc r) : tow r t s = lev (nbr r false) s t := (nbr_rev ok hs ht).symm
theorem near1_run {L : List Int} {d : Int} {w : Nat} (hw : w < L.length) : runP tab 1376 [.int .i64 (w : Int), .ip [.sl 1 (ints L)], .ip [.int .i64 d]] [] = some (.bool (decide (L.getD w 0 = d)), []) := by
  refine runP_fn t1376 rfl ?_
  simp (config := { maxSteps := 1000000 }) (disch := omega) only [go_sem, ↓reduceIte, Nat.reduceEqDiff, Nat.reduceAdd, Int.reduceToNat, reduceCtorEq, Nat.reduceLeDiff, Nat.reduceSub, Nat.reduceDiv, Nat.reduceMod, Nat.reduceMul, d1376]
theorem idx_run {R L : List Int} {d : Int} {k : Nat} (hR : R.length ≤ 1000000) (hk : k < R.length) (hp : ∀ w ∈ R, 0 ≤ w ∧ w < L.length) (h : gi L (R.getD k 0).toNat = d) (hb : ∀ i, i < k → gi L (R.getD i 0).toNat ≠ d) : runP tab 1375 [.sl 1 (ints R), .clo 1376 [] [.ip [.sl 1 (ints L)], .ip [.int .i64 d]]] [] = some (.int .i64 (k : Int), []) := by
  refine runP_fn t1375 rfl ?_
  simp (config := { maxSteps := 1000000 }) (disch := omega) only [go_sem, ↓reduceIte, Nat.reduceEqDiff, Nat.reduceAdd, Int.reduceToNat, reduceCtorEq, Nat.reduceLeDiff, Nat.reduceSub, Nat.reduceDiv, Nat.reduceMod, Nat.reduceMul, d1375]
  have step : ∀ i, i < R.length → runP tab 1376 [.int .i64 (R.getD i 0), .ip [.sl 1 (ints L)], .ip [.int .i64 d]] [] = some (.bool (decide (gi L (R.getD i 0).toNat = d)), []) := fun i hi => by
    have := hp _ (getD_mem (d := 0) hi)
    obtain ⟨w, hw⟩ : ∃ w : Nat, R.getD i 0 = w := ⟨(R.getD i 0).toNat, by omega⟩
    rw [hw] at this ⊢
    rw [Int.toNat_natCast]
    exact near1_run (by omega)
  refine Ev_loop0 (fun i => ⟨[(0, .sl 1 (ints R)), (1, .clo 1376 [] [.ip [.sl 1 (ints L)], .ip [.int .i64 d]]), (7, .int .i64 (R.length : Int)), (8, .int .i64 (i : Int))], [], 0, [(0, 0, [0, 1, 7, 8], [])]⟩) k rfl (fun i hi => ?_) ?_
  · have g := step i (by omega)
    rw [decide_eq_false (hb i hi)] at g
    simp (config := { maxSteps := 1000000 }) (disch := omega) only [go_sem, ↓reduceIte, Nat.reduceEqDiff, Nat.reduceAdd, Int.reduceToNat, reduceCtorEq, Nat.reduceLeDiff, Nat.reduceSub, Nat.reduceDiv, Nat.reduceMod, Nat.reduceMul, d1375_b0, g]
  · have g := step k hk
    rw [decide_eq_true h] at g
    simp (config := { maxSteps := 1000000 }) (disch := omega) only [go_sem, ↓reduceIte, Nat.reduceEqDiff, Nat.reduceAdd, Int.reduceToNat, reduceCtorEq, Nat.reduceLeDiff, Nat.reduceSub, Nat.reduceDiv, Nat.reduceMod, Nat.reduceMul, d1375_b0, g]
theorem nearer_run {R L : List Int} {d : Int} {k : Nat} (hR : R.length ≤ 1000000) (hk : k < R.length) (hp : ∀ w ∈ R, 0 ≤ w ∧ w < L.length) (h : gi L (R.getD k 0).toNat = d) (hb : ∀ i, i < k → gi L (R.getD i 0).toNat ≠ d) : runP tab 1366 [.sl 1 (ints R), .sl 1 (ints L), .int .i64 d] [] = some (.int .i64 (R.getD k 0), []) := by
  refine runP_fn t1366 rfl ?_
  have g := idx_run hR hk hp h hb
  simp (config := { maxSteps := 1000000 }) (disch := omega) only [go_sem, ↓reduceIte, Nat.reduceEqDiff, Nat.reduceAdd, Int.reduceToNat, reduceCtorEq, Nat.reduceLeDiff, Nat.reduceSub, Nat.reduceDiv, Nat.reduceMod, Nat.reduceMul, d1366, g]
noncomputable def ptT (r : Rw) (s t : Int) : AV := if pchk r [s, t] = 0 then (if 0 ≤ lev (nbr r false) s t then .tup [.vec 1 (ints (pl8 r t.toNat s (lev (nbr r false) s t).toNat)), .bool true, .int .i64 0] else .tup [.vec 1 [], .bool false, .int .i64 0]) else .tup [.vec 1 [], .bool false, .int .i64 (pchk r [s, t])]
noncomputable def paS (r : Rw) (s t k : Nat) : St := ⟨[(1, .int .i64 (s : Int)), (2, .int .i64 (t : Int)), (3, .ref 0 0), (10, .ref 1 0)], [.row false (rwS r), .row false (sdC r true t k)], 0, [(0, 2, [1, 2, 3, 10], [(3, 0), (10, 1)])]⟩
theorem pa_go {r : Rw} (ok : r.ok) {s t k : Nat} (hs : s < plc r) (ht : t < plc r) (hk : k ≤ 300) (h : gi (sdL r true t k) s < 0) (hf : sdF r true t (k + 1) ≠ []) : Ev tab d1348_b0 (paS r s t k) (fun x st => x = .normal ∧ st = paS r s t (k + 1)) := by
  have g := step_run (b := true) (s := t) (d := k) ok ht (by omega)
  rw [decide_eq_true hf] at g
  have hl := sdL_len r true t k
  unfold sdC ldC at g
  simp only [rwS] at g
  unfold paS sdC
  have e : (sdL r true t k).getD s 0 = gi (sdL r true t k) s := rfl
  generalize sdL r true t k = L1 at *
  generalize sdF r true t k = F1 at *
  generalize sdL r true t (k + 1) = L1' at *
  generalize sdF r true t (k + 1) = F1' at *
  simp (config := { maxSteps := 1000000 }) (disch := omega) only [go_sem, ↓reduceIte, Nat.reduceEqDiff, Nat.reduceAdd, Int.reduceToNat, reduceCtorEq, Nat.reduceLeDiff, Nat.reduceSub, Nat.reduceDiv, Nat.reduceMod, Nat.reduceMul, d1348_b0, ldC, rwS, g]
end Go.Proofs.Ytgjahkebhlphgaa

namespace Go.Proofs.Ytgjahkebhlphgaa
set_option linter.unusedSimpArgs false
set_option linter.unusedVariables false
set_option maxHeartbeats 4000000
set_option maxRecDepth 100000
noncomputable def pbS (r : Rw) (s t D j : Nat) : St := ⟨[(2, .int .i64 (t : Int)), (10, .ref 1 0), (11, .ref 3 0), (12, .own 1 4), (13, .int .i64 (vi r t s j))], [.row false (rwS r), .row false [ldC r true, .own 1 2, .vec 1 (ints (sdF r true t D))], .row false (ints (sdL r true t D)), .row false (sdC r false s 0), .row false (ints (pl8 r t s j))], 0, [(1, 5, [2, 10, 11, 12, 13], [(10, 1), (11, 3), (12, 4)]), (0, 2, [1, 2, 3, 10], [(3, 0), (10, 1)])]⟩
theorem pb_go {r : Rw} (ok : r.ok) {s t D j : Nat} (hs : s < plc r) (ht : t < plc r) (hD : tow r t s = D) (hD2 : D ≤ 200) (hj : j < D) : Ev tab d1348_b1 (pbS r s t D j) (fun x st => x = .normal ∧ st = pbS r s t D (j + 1)) := by
  obtain ⟨hv, hc⟩ := vi_spec ok ht (s := (s : Int)) ⟨by omega, by omega⟩ hD j (by omega)
  obtain ⟨k, k1, k2, k3, k4, k5, k6⟩ := nx8_ok ok ht hv (m := D - (j + 1)) (by rw [hc]; omega)
  have hp := nbr_plc ok false _ hv.1 hv.2
  have hR := nbr_len ok false hv.1 hv.2
  have g1 := ld_run ok false hv.1 hv.2
  have hl := sdL_len r true t D
  have hlt : vi r t s j ≠ t := fun e => by
    have := (tow_zero (r := r) (t := t)).2 e
    rw [hc] at this; omega
  have gl : ∀ w : Nat, w < plc r → gi (sdL r true t D) w = if tow r t w ≤ D then tow r t w else -1 := fun w hw => sdL_get hw
  have hlv : gi (sdL r true t D) (vi r t s j).toNat = ((D - j : Nat) : Int) := by
    rw [gl _ (by omega), show (((vi r t s j).toNat : Nat) : Int) = vi r t s j by omega, hc, if_pos (by omega)]
  have gn := nearer_run (R := nbr r false (vi r t s j)) (L := sdL r true t D) (d := ((D - (j + 1) : Nat) : Int)) (k := k) (by omega) k1 (fun w hw => by rw [hl]; exact hp w hw) (by
    rw [k2, gl _ (by omega), show (((nx8 r t (vi r t s j)).toNat : Nat) : Int) = nx8 r t (vi r t s j) by omega, k3, if_pos (by omega)]) (fun i hi => by
    have hm := hp _ (getD_mem (d := 0) (show i < (nbr r false (vi r t s j)).length by omega))
    have := k4 i hi
    rw [gl _ (by omega), show ((((nbr r false (vi r t s j)).getD i 0).toNat : Nat) : Int) = (nbr r false (vi r t s j)).getD i 0 by omega]
    split
    · exact this
    · omega)
  rw [k2] at gn
  have e1 : vi r t s (j + 1) = nx8 r t (vi r t s j) := rfl
  have e2 := pl8_succ r t s j
  have hpl := pl8_len r t s j
  unfold pbS sdC
  rw [e2, e1]
  generalize nx8 r t (vi r t s j) = w at *
  generalize pl8 r t s j = P at *
  generalize vi r t s j = v at *
  generalize nbr r false v = R at *
  generalize sdL r true t D = L at *
  generalize sdF r true t D = F at *
  generalize sdL r false s 0 = L0 at *
  generalize sdF r false s 0 = F0 at *
  obtain ⟨v, rfl⟩ : ∃ n : Nat, v = n := ⟨v.toNat, by omega⟩
  rw [Int.toNat_natCast] at hlv
  have hlv2 : L.getD v 0 = ((D - j : Nat) : Int) := hlv
  have hdd : ((D - j : Nat) : Int) - 1 = ((D - (j + 1) : Nat) : Int) := by omega
  simp only [ldK, rwS, Bool.false_eq_true, if_false] at g1
  clear gl hp k4 e2
  simp (config := { maxSteps := 1000000 }) (disch := omega) only [go_sem, ↓reduceIte, Nat.reduceEqDiff, Nat.reduceAdd, Int.reduceToNat, reduceCtorEq, Nat.reduceLeDiff, Nat.reduceSub, Nat.reduceDiv, Nat.reduceMod, Nat.reduceMul, d1348_b1, ldC, ldK, rwS, g1, gn, hlv2, hdd]
theorem path_run {r : Rw} {s t : Int} (hr : okR r) : runP tab 1348 [.agg (rwS r), .int .i64 s, .int .i64 t] [] = some (ptT r s t, []) := by
  refine runP_fn t1348 rfl ?_
  have g1 := pcheck_run (r := r) (l := [s, t]) hr (by simp)
  rw [ints2] at g1
  simp only [rwS] at g1
  unfold ptT
  rcases pchk2 r s t with ⟨hc, e⟩ | ⟨hc, h, e⟩ | ⟨hc, ⟨hs, ht⟩, e⟩
  · rw [e] at g1 ⊢
    rw [if_neg (by decide)]
    simp (config := { maxSteps := 1000000 }) (disch := omega) only [go_sem, ↓reduceIte, Nat.reduceEqDiff, Nat.reduceAdd, Int.reduceToNat, reduceCtorEq, Nat.reduceLeDiff, Nat.reduceSub, Nat.reduceDiv, Nat.reduceMod, Nat.reduceMul, d1348, rwS, g1]
  · rw [e] at g1 ⊢
    rw [if_neg (by decide)]
    simp (config := { maxSteps := 1000000 }) (disch := omega) only [go_sem, ↓reduceIte, Nat.reduceEqDiff, Nat.reduceAdd, Int.reduceToNat, reduceCtorEq, Nat.reduceLeDiff, Nat.reduceSub, Nat.reduceDiv, Nat.reduceMod, Nat.reduceMul, d1348, rwS, g1]
  · rw [e] at g1 ⊢
    rw [if_pos rfl]
    obtain ⟨s, rfl⟩ : ∃ n : Nat, s = n := ⟨s.toNat, by omega⟩
    obtain ⟨t, rfl⟩ : ∃ n : Nat, t = n := ⟨t.toNat, by omega⟩
    have ok := chk_iff.1 hc
    have hs : s < plc r := by omega
    have ht : t < plc r := by omega
    have hpl : plc r ≤ 200 := by have := ok.f.hi; unfold plc; omega
    have htl := tow_lev ok hs ht
    have g2 := into_run hr ok ht
    have g3 := out8_run hr ok hs
    rw [Int.toNat_natCast, ← htl]
    have hget : ∀ k, gi (sdL r true t k) s = if tow r t s ≤ k then tow r t s else -1 := fun k => sdL_get hs
    have hgd : ∀ k, (sdL r true t k).getD s 0 = gi (sdL r true t k) s := fun _ => rfl
    have hln := fun k => sdL_len r true t k
    unfold sdC ldC at g2 g3
    simp only [rwS] at g2 g3
    rcases lev_cases (nbr r true) t s with ⟨D, hd, eD⟩ | ⟨hn, eD⟩
    · have eD : tow r t s = D := eD
      have hDn := dsk_lt (nbr_plc ok true) (s := (t : Int)) ⟨by omega, by omega⟩ hd
      have hsome : ∀ k, k < D → sdF r true t (k + 1) ≠ [] := fun k hk => by
        obtain ⟨x, h1, _⟩ := meets_of (nbr_plc ok true) (nbr_plc ok false) (nbr_mirror ok true) (s := (t : Int)) (t := (s : Int)) ⟨by omega, by omega⟩ ⟨by omega, by omega⟩ hd (i := k + 1) (by omega)
        exact sdF_some ok ht h1
      rw [eD, if_pos (by omega), Int.toNat_natCast]
      simp (config := { maxSteps := 1000000 }) (disch := omega) only [go_sem, ↓reduceIte, Nat.reduceEqDiff, Nat.reduceAdd, Int.reduceToNat, reduceCtorEq, Nat.reduceLeDiff, Nat.reduceSub, Nat.reduceDiv, Nat.reduceMod, Nat.reduceMul, d1348, rwS, g1, g2]
      refine Ev_loop0 (paS r s t) D (by simp [paS, sdC, ldC, rwS]) (fun k hk => pa_go ok hs ht (by omega) (by rw [hget, eD, if_neg (by omega)]; omega) (hsome k hk)) ?_
      have hD0 := hget D
      rw [eD, if_pos (by omega)] at hD0
      have hgD := hgd D
      rw [hD0] at hgD
      have hlD := hln D
      have fin := fun j => pb_go (j := j) ok hs ht eD (by omega)
      have hend : vi r t s D = t := (tow_zero (r := r) (t := t)).1 (by rw [(vi_spec ok ht (s := (s : Int)) ⟨by omega, by omega⟩ eD D (by omega)).2]; omega)
      have hP0 : ints (pl8 r t s 0) = [.int .i64 (s : Int)] := rfl
      have hv0 : vi r t s 0 = s := rfl
      have main : Ev tab (.loop d1348_b1) (pbS r s t D 0) (fun x st => x = .exit 2 ∧ lk st.env 12 = .own 1 4 ∧ st.hp = (pbS r s t D D).hp) := by
        refine Ev_loop0 (pbS r s t D) D rfl (fun j hj => fin j hj) ?_
        unfold pbS sdC
        rw [hend]
        generalize sdL r true t D = L at *
        generalize sdF r true t D = F at *
        generalize sdL r false s 0 = L0 at *
        generalize sdF r false s 0 = F0 at *
        generalize pl8 r t s D = P at *
        simp (config := { maxSteps := 1000000 }) (disch := omega) only [go_sem, ↓reduceIte, Nat.reduceEqDiff, Nat.reduceAdd, Int.reduceToNat, reduceCtorEq, Nat.reduceLeDiff, Nat.reduceSub, Nat.reduceDiv, Nat.reduceMod, Nat.reduceMul, d1348_b1, ldC, rwS]
      unfold pbS sdC at main
      rw [hP0, hv0, hend] at main
      unfold paS sdC
      clear fin hget hgd hln
      generalize sdL r true t D = L at *
      generalize sdF r true t D = F at *
      generalize sdL r false s 0 = L0 at *
      generalize sdF r false s 0 = F0 at *
      generalize pl8 r t s D = P at *
      simp only [ldC, rwS] at main
      simp (config := { maxSteps := 1000000 }) (disch := omega) only [go_sem, ↓reduceIte, Nat.reduceEqDiff, Nat.reduceAdd, Int.reduceToNat, reduceCtorEq, Nat.reduceLeDiff, Nat.reduceSub, Nat.reduceDiv, Nat.reduceMod, Nat.reduceMul, d1348_b0, ldC, rwS, g3, hgD]
      refine Ev_imp main fun x st h => ?_
      obtain ⟨env, hp, lo, mks⟩ := st
      obtain ⟨rfl, e12, eh⟩ := h
      simp only at e12 eh
      subst eh
      simp (config := { maxSteps := 1000000 }) (disch := omega) only [go_sem, ↓reduceIte, Nat.reduceEqDiff, Nat.reduceAdd, Int.reduceToNat, reduceCtorEq, Nat.reduceLeDiff, Nat.reduceSub, Nat.reduceDiv, Nat.reduceMod, Nat.reduceMul, e12]
    · have eD : tow r t s = -1 := eD
      have hg : ∀ k, gi (sdL r true t k) s = -1 := fun k => by rw [hget, eD]; split <;> rfl
      rw [eD, if_neg (by omega)]
      have hp : decide (sdF r true t (plc r - 1 + 1) ≠ []) = false := by rw [show plc r - 1 + 1 = plc r by omega, sdF_end ok true ht]; simp
      obtain ⟨a, b, c⟩ := kUf_spec (p := fun k => decide (sdF r true t (k + 1) ≠ [])) (f := plc r + 1) (k := 0) (m := plc r - 1) (by omega) (by omega) hp
      generalize kUf (fun k => decide (sdF r true t (k + 1) ≠ [])) (plc r + 1) 0 = m at *
      simp (config := { maxSteps := 1000000 }) (disch := omega) only [go_sem, ↓reduceIte, Nat.reduceEqDiff, Nat.reduceAdd, Int.reduceToNat, reduceCtorEq, Nat.reduceLeDiff, Nat.reduceSub, Nat.reduceDiv, Nat.reduceMod, Nat.reduceMul, d1348, rwS, g1, g2]
      refine Ev_loop0 (paS r s t) m (by simp [paS, sdC, ldC, rwS]) (fun k hk => pa_go ok hs ht (by omega) (by rw [hg]; omega) (by simpa using a k (by omega) hk)) ?_
      have gs := step_run (b := true) (s := t) (d := m) ok ht (by omega)
      rw [show decide (sdF r true t (m + 1) ≠ []) = false from b] at gs
      have hgm := hgd m
      rw [hg] at hgm
      have hlm := hln m
      unfold sdC ldC at gs
      simp only [rwS] at gs
      unfold paS sdC
      generalize sdL r true t m = L at *
      generalize sdF r true t m = F at *
      generalize sdL r true t (m + 1) = L' at *
      generalize sdF r true t (m + 1) = F' at *
      simp (config := { maxSteps := 1000000 }) (disch := omega) only [go_sem, ↓reduceIte, Nat.reduceEqDiff, Nat.reduceAdd, Int.reduceToNat, reduceCtorEq, Nat.reduceLeDiff, Nat.reduceSub, Nat.reduceDiv, Nat.reduceMod, Nat.reduceMul, d1348_b0, ldC, rwS, gs, hgm]
end Go.Proofs.Ytgjahkebhlphgaa

namespace Go.Proofs.Ytgjahkebhlphgaa
set_option linter.unusedSimpArgs false
set_option linter.unusedVariables false
set_option maxHeartbeats 4000000
set_option maxRecDepth 100000
noncomputable def pcS (r : Rw) (s t j : Nat) (A B : List Int) : St := ⟨[(2, .int .i64 (t : Int)), (3, .ref 0 0), (10, .own 1 2), (12, .own 1 3), (13, .int .i64 (vi r t s j))], [.row false (rwS r), .row false (ints A), .row false (ints B), .row false (ints (pl8 r t s j))], 0, [(0, 4, [2, 3, 10, 12, 13], [(3, 0), (10, 2), (12, 3)])]⟩
def pcI (r : Rw) (t v m : Nat) (A B P R : List Int) (x : Int) : St := ⟨[(2, .int .i64 (t : Int)), (3, .ref 0 0), (10, .own 1 2), (12, .own 1 3), (13, .int .i64 (v : Int)), (14, .own 1 4), (16, .int .i64 x), (17, .int .i64 ((m : Int) - 1))], [.row false (rwS r), .row false (ints A), .row false (ints B), .row false (ints P), .row false (ints R)], 0, [(1, 5, [2, 3, 10, 12, 13, 14, 16, 17], [(3, 0), (10, 2), (12, 3), (14, 4)]), (0, 4, [2, 3, 10, 12, 13], [(3, 0), (10, 2), (12, 3)])]⟩
theorem pc_num {r : Rw} {t v m w : Nat} {A B P R : List Int} {x y d : Int} (hm : m < R.length) (hR : R.length ≤ 2000) (hw : R.getD m 0 = w) (hwB : w < B.length) (hvB : v < B.length) (hy : B.getD w 0 = y) (hd : B.getD v 0 = d) (hd1 : 1 ≤ d) (hd2 : d ≤ 1000) : Ev tab d1349_b1 (pcI r t v (m + 1) A B P R x) (fun q st => q = .normal ∧ st = pcI r t v m A B P R (if y = d - 1 then (w : Int) else x)) := by
  have e : ((m + 1 : Nat) : Int) - 1 = (m : Int) := by omega
  unfold pcI
  rw [e]
  by_cases q : y = d - 1
  · rw [if_pos q]
    simp (config := { maxSteps := 1000000 }) (disch := omega) only [go_sem, ↓reduceIte, Nat.reduceEqDiff, Nat.reduceAdd, Int.reduceToNat, reduceCtorEq, Nat.reduceLeDiff, Nat.reduceSub, Nat.reduceDiv, Nat.reduceMod, Nat.reduceMul, d1349_b1, rwS, hw, hy, hd]
  · rw [if_neg q]
    by_cases q2 : 0 ≤ y
    · simp (config := { maxSteps := 1000000 }) (disch := omega) only [go_sem, ↓reduceIte, Nat.reduceEqDiff, Nat.reduceAdd, Int.reduceToNat, reduceCtorEq, Nat.reduceLeDiff, Nat.reduceSub, Nat.reduceDiv, Nat.reduceMod, Nat.reduceMul, d1349_b1, rwS, hw, hy, hd]
    · simp (config := { maxSteps := 1000000 }) (disch := omega) only [go_sem, ↓reduceIte, Nat.reduceEqDiff, Nat.reduceAdd, Int.reduceToNat, reduceCtorEq, Nat.reduceLeDiff, Nat.reduceSub, Nat.reduceDiv, Nat.reduceMod, Nat.reduceMul, d1349_b1, rwS, hw, hy, hd]
theorem pc_loop {r : Rw} {t v : Nat} {A B P R : List Int} {c : Int → Int} {d : Int} {Q : AX → St → Prop} (hR : R.length ≤ 2000) (hp : ∀ w ∈ R, 0 ≤ w ∧ w < B.length) (hc : ∀ w : Nat, w < B.length → B.getD w 0 = c w) (hvB : v < B.length) (hd : c v = d) (hd1 : 1 ≤ d) (hd2 : d ≤ 1000) (hq : Ev tab d1349_b1 (pcI r t v 0 A B P R (fnd8 c (d - 1) R)) (fun x st => x ≠ .normal ∧ Q x st)) : ∀ m, m ≤ R.length → Ev tab (.loop d1349_b1) (pcI r t v m A B P R (fnd8 c (d - 1) (R.drop m))) Q
  | 0, _ => by rw [List.drop_zero]; exact Ev_stop hq
  | m + 1, h => by
    have hw := hp _ (getD_mem (d := 0) (show m < R.length by omega))
    obtain ⟨w, e⟩ : ∃ w : Nat, R.getD m 0 = w := ⟨(R.getD m 0).toNat, by omega⟩
    rw [e] at hw
    have ih := pc_loop (r := r) (t := t) (A := A) (P := P) hR hp hc hvB hd hd1 hd2 hq m (by omega)
    have f := fnd8_drop (c := c) (d := d - 1) (show m < R.length by omega)
    rw [e] at f
    rw [f] at ih
    exact Ev_step (pc_num (by omega) hR e (by omega) hvB (hc w (by omega)) ((hc v hvB).trans hd) hd1 hd2) ih
theorem pc_go {r : Rw} (hr : okR r) (hc : chk r = true) {s t D j : Nat} {A : List Int} (hs : s < plc r) (ht : t < plc r) (hD : tow r t s = D) (hD2 : D ≤ 200) (hj : j < D) : Ev tab d1349_b0 (pcS r s t j A (levs (nbr r true) t (plc r))) (fun x st => x = .normal ∧ st = pcS r s t (j + 1) A (levs (nbr r true) t (plc r))) := by
  have ok := chk_iff.1 hc
  have lo := ok.f.lo
  have hpl2 : plc r ≤ 200 := by have := ok.f.hi; unfold plc; omega
  obtain ⟨hv, hcv⟩ := vi_spec ok ht (s := (s : Int)) ⟨by omega, by omega⟩ hD j (by omega)
  have hp := nbr_plc ok false _ hv.1 hv.2
  have hR := nbr_len ok false hv.1 hv.2
  have hlt : vi r t s j ≠ t := fun e => by
    have := (tow_zero (r := r) (t := t)).2 e
    rw [hcv] at this; omega
  have e1 : vi r t s (j + 1) = nx8 r t (vi r t s j) := rfl
  have e2 := pl8_succ r t s j
  have hpl := pl8_len r t s j
  have hl := levs_len (nbr r true) t (plc r)
  have hB : ∀ w : Nat, w < plc r → (levs (nbr r true) t (plc r)).getD w 0 = tow r t w := fun w hw => levs_get hw
  unfold pcS
  rw [e2, e1]
  have g := rout_run (v := vi r t s j) hr ⟨by omega, by omega⟩
  have ht1 : told1 r r.off r.to (vi r t s j) = .tup [.vec 1 (ints (nbr r false (vi r t s j))), .bool true] := by
    rw [told1, if_pos ⟨hc, hv.1, by unfold plc at hv; omega⟩]; rfl
  rw [ht1] at g
  have en : nx8 r t (vi r t s j) = fnd8 (tow r t) (tow r t (vi r t s j) - 1) (nbr r false (vi r t s j)) := rfl
  rw [en, hcv]
  generalize pl8 r t s j = P at *
  generalize vi r t s j = v at *
  obtain ⟨v, rfl⟩ : ∃ n : Nat, v = n := ⟨v.toNat, by omega⟩
  generalize nbr r false (v : Int) = R at *
  generalize levs (nbr r true) t (plc r) = B at *
  have hvn : v < plc r := by omega
  simp only [rwS] at g
  simp (config := { maxSteps := 1000000 }) (disch := omega) only [go_sem, ↓reduceIte, Nat.reduceEqDiff, Nat.reduceAdd, Int.reduceToNat, reduceCtorEq, Nat.reduceLeDiff, Nat.reduceSub, Nat.reduceDiv, Nat.reduceMod, Nat.reduceMul, d1349_b0, rwS, g]
  have loop := fun Q hq => pc_loop (r := r) (t := t) (v := v) (A := A) (B := B) (P := P) (R := R) (c := tow r t) (d := ((D - j : Nat) : Int)) (Q := Q) hR (fun w hw => by rw [hl]; exact hp w hw) (fun w hw => hB w (by omega)) (by omega) hcv (by omega) (by omega) hq R.length (Nat.le_refl _)
  rw [List.drop_length] at loop
  unfold pcI at loop
  simp only [fnd8, rwS] at loop
  refine loop _ ?_
  generalize fnd8 (tow r t) (((D - j : Nat) : Int) - 1) R = w at *
  have e0 : ((0 : Nat) : Int) - 1 = -1 := rfl
  rw [e0]
  simp (config := { maxSteps := 1000000 }) (disch := omega) only [go_sem, ↓reduceIte, Nat.reduceEqDiff, Nat.reduceAdd, Int.reduceToNat, reduceCtorEq, Nat.reduceLeDiff, Nat.reduceSub, Nat.reduceDiv, Nat.reduceMod, Nat.reduceMul, d1349_b1, rwS]
theorem rpath_run {r : Rw} {s t : Int} (hr : okR r) : runP tab 1349 [.agg (rwS r), .int .i64 s, .int .i64 t] [] = some (ptT r s t, []) := by
  refine runP_fn t1349 rfl ?_
  have g := both8_run (s := s) (t := t) hr
  unfold btT at g
  unfold ptT
  rcases pchk2 r s t with ⟨hc, e⟩ | ⟨hc, h, e⟩ | ⟨hc, ⟨hs, ht⟩, e⟩
  · rw [e, if_neg (by decide), if_neg (fun h => hc h.1)] at g
    rw [e, if_neg (by decide)]
    simp only [rwS] at g
    simp (config := { maxSteps := 1000000 }) (disch := omega) only [go_sem, ↓reduceIte, Nat.reduceEqDiff, Nat.reduceAdd, Int.reduceToNat, reduceCtorEq, Nat.reduceLeDiff, Nat.reduceSub, Nat.reduceDiv, Nat.reduceMod, Nat.reduceMul, d1349, rwS, g]
  · rw [e, if_neg (by decide)] at g
    rw [e, if_neg (by decide)]
    by_cases hs : 0 ≤ s ∧ s < plc r
    · rw [if_pos ⟨hc, hs⟩] at g
      generalize levs (nbr r false) s (plc r) = L at *
      simp only [rwS] at g
      simp (config := { maxSteps := 1000000 }) (disch := omega) only [go_sem, ↓reduceIte, Nat.reduceEqDiff, Nat.reduceAdd, Int.reduceToNat, reduceCtorEq, Nat.reduceLeDiff, Nat.reduceSub, Nat.reduceDiv, Nat.reduceMod, Nat.reduceMul, d1349, rwS, g]
    · rw [if_neg (fun h => hs h.2)] at g
      simp only [rwS] at g
      simp (config := { maxSteps := 1000000 }) (disch := omega) only [go_sem, ↓reduceIte, Nat.reduceEqDiff, Nat.reduceAdd, Int.reduceToNat, reduceCtorEq, Nat.reduceLeDiff, Nat.reduceSub, Nat.reduceDiv, Nat.reduceMod, Nat.reduceMul, d1349, rwS, g]
  · rw [e, if_pos rfl] at g
    rw [e, if_pos rfl]
    obtain ⟨s, rfl⟩ : ∃ n : Nat, s = n := ⟨s.toNat, by omega⟩
    obtain ⟨t, rfl⟩ : ∃ n : Nat, t = n := ⟨t.toNat, by omega⟩
    have ok := chk_iff.1 hc
    have hs : s < plc r := by omega
    have ht : t < plc r := by omega
    have hpl : plc r ≤ 200 := by have := ok.f.hi; unfold plc; omega
    have htl := tow_lev ok hs ht
    have hl := levs_len (nbr r false) s (plc r)
    have ha := levs_get (nb := nbr r false) (s := s) (n := plc r) (i := t) (by omega)
    rw [← htl] at ha ⊢
    rw [Int.toNat_natCast]
    simp only [rwS] at g
    rcases lev_cases (nbr r true) t s with ⟨D, hd, eD⟩ | ⟨hn, eD⟩
    · have eD : tow r t s = D := eD
      have hDn := dsk_lt (nbr_plc ok true) (s := (t : Int)) ⟨by omega, by omega⟩ hd
      rw [eD] at ha
      rw [eD, if_pos (by omega), Int.toNat_natCast]
      have go := fun j => pc_go (A := levs (nbr r false) s (plc r)) (j := j) hr hc hs ht eD (by omega)
      have hend : vi r t s D = t := (tow_zero (r := r) (t := t)).1 (by rw [(vi_spec ok ht (s := (s : Int)) ⟨by omega, by omega⟩ eD D (by omega)).2]; omega)
      have hP0 : ints (pl8 r t s 0) = [.int .i64 (s : Int)] := rfl
      have hv0 : vi r t s 0 = s := rfl
      generalize levs (nbr r false) s (plc r) = A at *
      generalize levs (nbr r true) t (plc r) = B at *
      simp (config := { maxSteps := 1000000 }) (disch := omega) only [go_sem, ↓reduceIte, Nat.reduceEqDiff, Nat.reduceAdd, Int.reduceToNat, reduceCtorEq, Nat.reduceLeDiff, Nat.reduceSub, Nat.reduceDiv, Nat.reduceMod, Nat.reduceMul, d1349, rwS, g, ha]
      refine Ev_loop0 (fun j => pcS r s t j A B) D (by simp [pcS, rwS, hP0, hv0]) (fun j hj => go j hj) ?_
      unfold pcS
      rw [hend]
      generalize pl8 r t s D = P at *
      simp (config := { maxSteps := 1000000 }) (disch := omega) only [go_sem, ↓reduceIte, Nat.reduceEqDiff, Nat.reduceAdd, Int.reduceToNat, reduceCtorEq, Nat.reduceLeDiff, Nat.reduceSub, Nat.reduceDiv, Nat.reduceMod, Nat.reduceMul, d1349_b0, rwS]
    · have eD : tow r t s = -1 := eD
      rw [eD] at ha
      rw [eD, if_neg (by omega)]
      generalize levs (nbr r false) s (plc r) = A at *
      generalize levs (nbr r true) t (plc r) = B at *
      simp (config := { maxSteps := 1000000 }) (disch := omega) only [go_sem, ↓reduceIte, Nat.reduceEqDiff, Nat.reduceAdd, Int.reduceToNat, reduceCtorEq, Nat.reduceLeDiff, Nat.reduceSub, Nat.reduceDiv, Nat.reduceMod, Nat.reduceMul, d1349, rwS, g, ha]
end Go.Proofs.Ytgjahkebhlphgaa

namespace Go.Proofs.Ytgjahkebhlphgaa
set_option linter.unusedSimpArgs false
set_option linter.unusedVariables false
set_option maxHeartbeats 4000000
set_option maxRecDepth 100000
def WalkP (r : Rw) (l : List Int) : Prop := chk r = true ∧ l ≠ [] ∧ (0 ≤ l.getD 0 0 ∧ l.getD 0 0 < plc r) ∧ ∀ i, i + 1 < l.length → way r (l.getD i 0) (l.getD (i + 1) 0) = true
open Classical in
noncomputable def wlk (r : Rw) (l : List Int) : Bool := decide (WalkP r l)
theorem wlk_yes {r : Rw} {l : List Int} (h : WalkP r l) : wlk r l = true := by simp only [wlk, decide_eq_true_eq]; exact h
theorem wlk_no {r : Rw} {l : List Int} (h : ¬ WalkP r l) : wlk r l = false := by simp only [wlk, decide_eq_false_iff_not]; exact h
theorem way_iff {r : Rw} (hc : chk r = true) {v w : Int} : way r v w = true ↔ (0 ≤ v ∧ v < plc r) ∧ w ∈ nbr r false v := by
  have ok := chk_iff.1 hc
  have lo := ok.f.lo
  unfold way plc
  rw [hc]
  simp only [Bool.true_and, Bool.and_eq_true, decide_eq_true_eq]
  constructor
  · rintro ⟨h1, h2⟩; exact ⟨⟨h1.1, by omega⟩, h2⟩
  · rintro ⟨h1, h2⟩; exact ⟨⟨h1.1, by omega⟩, h2⟩
theorem walk_pl {r : Rw} {l : List Int} (h : WalkP r l) : ∀ v ∈ l, 0 ≤ v ∧ v < plc r := by
  obtain ⟨hc, hne, h0, hw⟩ := h
  have ok := chk_iff.1 hc
  intro v hv
  obtain ⟨i, hi, rfl⟩ := mem_getD (d := 0) hv
  cases i with
  | zero => exact h0
  | succ i =>
    have := (way_iff hc).1 (hw i hi)
    exact nbr_plc ok false _ this.1.1 this.1.2 _ this.2
theorem wk_step {r : Rw} {l : List Int} {i : Nat} (hr : okR r) (hi : i + 1 < l.length) (hl : l.length ≤ 1000000) (hI : ∀ v ∈ l, I64 v) (h : way r (l.getD i 0) (l.getD (i + 1) 0) = true) : Ev tab d1351_b0 ⟨[(1, .sl 1 (ints l)), (2, .ref 0 0), (5, .int .i64 ((i : Int) + 1))], [.row false (rwS r)], 0, [(0, 1, [1, 2, 5], [(2, 0)])]⟩ (fun x st => x = .normal ∧ st = ⟨[(1, .sl 1 (ints l)), (2, .ref 0 0), (5, .int .i64 (((i + 1 : Nat) : Int) + 1))], [.row false (rwS r)], 0, [(0, 1, [1, 2, 5], [(2, 0)])]⟩) := by
  have g := has_run (v := l.getD i 0) (w := l.getD (i + 1) 0) hr (hI _ (getD_mem (by omega))) (hI _ (getD_mem hi))
  rw [h] at g
  simp only [rwS] at g
  have e : (i : Int) + 1 - 1 = i := by omega
  have e2 : ((i + 1 : Nat) : Int) + 1 = (i : Int) + 1 + 1 := by omega
  rw [e2]
  simp (config := { maxSteps := 1000000 }) (disch := omega) only [go_sem, ↓reduceIte, Nat.reduceEqDiff, Nat.reduceAdd, Int.reduceToNat, reduceCtorEq, Nat.reduceLeDiff, Nat.reduceSub, Nat.reduceDiv, Nat.reduceMod, Nat.reduceMul, d1351_b0, rwS, g, e, tn1]
theorem rwk_step {r : Rw} {l : List Int} {i : Nat} (hr : okR r) (hi : i + 1 < l.length) (hl : l.length ≤ 1000000) (hI : ∀ v ∈ l, I64 v) (h : way r (l.getD i 0) (l.getD (i + 1) 0) = true) : Ev tab d1352_b0 ⟨[(1, .sl 1 (ints l)), (2, .ref 0 0), (5, .int .i64 ((i : Int) + 1))], [.row false (rwS r)], 0, [(0, 1, [1, 2, 5], [(2, 0)])]⟩ (fun x st => x = .normal ∧ st = ⟨[(1, .sl 1 (ints l)), (2, .ref 0 0), (5, .int .i64 (((i + 1 : Nat) : Int) + 1))], [.row false (rwS r)], 0, [(0, 1, [1, 2, 5], [(2, 0)])]⟩) := by
  have g := rhas_run (v := l.getD i 0) (w := l.getD (i + 1) 0) hr (hI _ (getD_mem (by omega))) (hI _ (getD_mem hi))
  rw [h] at g
  simp only [rwS] at g
  have e : (i : Int) + 1 - 1 = i := by omega
  have e2 : ((i + 1 : Nat) : Int) + 1 = (i : Int) + 1 + 1 := by omega
  rw [e2]
  simp (config := { maxSteps := 1000000 }) (disch := omega) only [go_sem, ↓reduceIte, Nat.reduceEqDiff, Nat.reduceAdd, Int.reduceToNat, reduceCtorEq, Nat.reduceLeDiff, Nat.reduceSub, Nat.reduceDiv, Nat.reduceMod, Nat.reduceMul, d1352_b0, rwS, g, e, tn1]
theorem walk_cases (r : Rw) (l : List Int) : (∀ i, i < l.length - 1 → way r (l.getD i 0) (l.getD (i + 1) 0) = true) ∨ ∃ m, m < l.length - 1 ∧ (∀ i, i < m → way r (l.getD i 0) (l.getD (i + 1) 0) = true) ∧ way r (l.getD m 0) (l.getD (m + 1) 0) = false := by
  rcases first_ix' (fun i => way r (l.getD i 0) (l.getD (i + 1) 0) = true) (l.length - 1) with h | ⟨m, h1, h2, h3⟩
  · exact .inl h
  · exact .inr ⟨m, h1, h2, by simpa using h3⟩
theorem walk_run {r : Rw} {l : List Int} (hr : okR r) (hl : l.length ≤ 1000000) (hI : ∀ v ∈ l, I64 v) : runP tab 1351 [.agg (rwS r), .sl 1 (ints l)] [] = some (.bool (wlk r l), []) := by
  refine runP_fn t1351 rfl ?_
  have g1 := pcheck_run (r := r) (l := l) hr hl
  simp only [rwS] at g1
  by_cases hne : l = []
  · rw [wlk_no (fun h => h.2.1 hne)]
    subst hne
    have e0 : ints [] = [] := rfl
    simp (config := { maxSteps := 1000000 }) (disch := omega) only [go_sem, ↓reduceIte, Nat.reduceEqDiff, Nat.reduceAdd, Int.reduceToNat, reduceCtorEq, Nat.reduceLeDiff, Nat.reduceSub, Nat.reduceDiv, Nat.reduceMod, Nat.reduceMul, d1351, rwS, e0]
  have hpos : 0 < l.length := List.length_pos_iff.2 hne
  rcases pchk_cases r l with ⟨e, hc⟩ | ⟨e, hc, ha⟩ | ⟨e, hc, ha⟩
  · rw [wlk_no (fun h => hc h.1)]
    rw [e] at g1
    simp (config := { maxSteps := 1000000 }) (disch := omega) only [go_sem, ↓reduceIte, Nat.reduceEqDiff, Nat.reduceAdd, Int.reduceToNat, reduceCtorEq, Nat.reduceLeDiff, Nat.reduceSub, Nat.reduceDiv, Nat.reduceMod, Nat.reduceMul, d1351, rwS, g1]
  · have ok := chk_iff.1 hc
    have lo := ok.f.lo
    rw [wlk_no (fun h => by
      have hp := walk_pl h
      rw [show allPl ((r.off.length : Int) - 1) l = true from List.all_eq_true.2 fun v hv => by
        have := hp v hv
        unfold plc at this
        rw [decide_eq_true_eq]; omega] at ha
      cases ha)]
    rw [e] at g1
    simp (config := { maxSteps := 1000000 }) (disch := omega) only [go_sem, ↓reduceIte, Nat.reduceEqDiff, Nat.reduceAdd, Int.reduceToNat, reduceCtorEq, Nat.reduceLeDiff, Nat.reduceSub, Nat.reduceDiv, Nat.reduceMod, Nat.reduceMul, d1351, rwS, g1]
  · have ok := chk_iff.1 hc
    have lo := ok.f.lo
    have hp := allPl_mem ha
    rw [e] at g1
    simp (config := { maxSteps := 1000000 }) (disch := omega) only [go_sem, ↓reduceIte, Nat.reduceEqDiff, Nat.reduceAdd, Int.reduceToNat, reduceCtorEq, Nat.reduceLeDiff, Nat.reduceSub, Nat.reduceDiv, Nat.reduceMod, Nat.reduceMul, d1351, rwS, g1]
    rcases walk_cases r l with h | ⟨m, h1, h2, h3⟩
    · rw [wlk_yes ⟨hc, hne, by have := hp _ (getD_mem (d := 0) hpos); unfold plc; omega, fun i hi => h i (by omega)⟩]
      refine Ev_loop0 (fun i => ⟨[(1, .sl 1 (ints l)), (2, .ref 0 0), (5, .int .i64 ((i : Int) + 1))], [.row false (rwS r)], 0, [(0, 1, [1, 2, 5], [(2, 0)])]⟩) (l.length - 1) (by simp [rwS]) (fun i hi => wk_step hr (by omega) hl hI (h i hi)) ?_
      simp (config := { maxSteps := 1000000 }) (disch := omega) only [go_sem, ↓reduceIte, Nat.reduceEqDiff, Nat.reduceAdd, Int.reduceToNat, reduceCtorEq, Nat.reduceLeDiff, Nat.reduceSub, Nat.reduceDiv, Nat.reduceMod, Nat.reduceMul, d1351_b0, rwS]
    · rw [wlk_no (fun h => by have := h.2.2.2 m (by omega); rw [h3] at this; cases this)]
      refine Ev_loop0 (fun i => ⟨[(1, .sl 1 (ints l)), (2, .ref 0 0), (5, .int .i64 ((i : Int) + 1))], [.row false (rwS r)], 0, [(0, 1, [1, 2, 5], [(2, 0)])]⟩) m (by simp [rwS]) (fun i hi => wk_step hr (by omega) hl hI (h2 i hi)) ?_
      have g := has_run (v := l.getD m 0) (w := l.getD (m + 1) 0) hr (hI _ (getD_mem (by omega))) (hI _ (getD_mem (by omega)))
      rw [h3] at g
      simp only [rwS] at g
      have em : (m : Int) + 1 - 1 = m := by omega
      simp (config := { maxSteps := 1000000 }) (disch := omega) only [go_sem, ↓reduceIte, Nat.reduceEqDiff, Nat.reduceAdd, Int.reduceToNat, reduceCtorEq, Nat.reduceLeDiff, Nat.reduceSub, Nat.reduceDiv, Nat.reduceMod, Nat.reduceMul, d1351_b0, rwS, g, em, tn1]
theorem rwalk_run {r : Rw} {l : List Int} (hr : okR r) (hl : l.length ≤ 1000000) (hI : ∀ v ∈ l, I64 v) : runP tab 1352 [.agg (rwS r), .sl 1 (ints l)] [] = some (.bool (wlk r l), []) := by
  refine runP_fn t1352 rfl ?_
  have g1 := rcheck_run hr
  have ha := hr.a
  simp only [rwS] at g1
  cases hc : chk r with
  | false =>
    rw [hc] at g1
    rw [wlk_no (fun h => by have h := h.1; rw [hc] at h; cases h)]
    simp (config := { maxSteps := 1000000 }) (disch := omega) only [go_sem, ↓reduceIte, Nat.reduceEqDiff, Nat.reduceAdd, Int.reduceToNat, reduceCtorEq, Nat.reduceLeDiff, Nat.reduceSub, Nat.reduceDiv, Nat.reduceMod, Nat.reduceMul, d1352, rwS, g1]
  | true =>
    rw [hc] at g1
    have ok := chk_iff.1 hc
    have lo := ok.f.lo
    by_cases hne : l = []
    · rw [wlk_no (fun h => h.2.1 hne)]
      subst hne
      have e0 : ints [] = [] := rfl
      simp (config := { maxSteps := 1000000 }) (disch := omega) only [go_sem, ↓reduceIte, Nat.reduceEqDiff, Nat.reduceAdd, Int.reduceToNat, reduceCtorEq, Nat.reduceLeDiff, Nat.reduceSub, Nat.reduceDiv, Nat.reduceMod, Nat.reduceMul, d1352, rwS, g1, e0]
    have hpos : 0 < l.length := List.length_pos_iff.2 hne
    have hd0 : rdc (ints l) none = some (.int .i64 (l.getD 0 0)) := by have := ints_rdc0 hpos; rwa [List.drop_zero] at this
    by_cases q1 : l.getD 0 0 < 0
    · rw [wlk_no (fun h => by have := h.2.2.1.1; omega)]
      simp (config := { maxSteps := 1000000 }) (disch := omega) only [go_sem, ↓reduceIte, Nat.reduceEqDiff, Nat.reduceAdd, Int.reduceToNat, reduceCtorEq, Nat.reduceLeDiff, Nat.reduceSub, Nat.reduceDiv, Nat.reduceMod, Nat.reduceMul, d1352, rwS, g1, hd0]
    by_cases q2 : (r.off.length : Int) - 1 ≤ l.getD 0 0
    · rw [wlk_no (fun h => by have := h.2.2.1.2; unfold plc at this; omega)]
      simp (config := { maxSteps := 1000000 }) (disch := omega) only [go_sem, ↓reduceIte, Nat.reduceEqDiff, Nat.reduceAdd, Int.reduceToNat, reduceCtorEq, Nat.reduceLeDiff, Nat.reduceSub, Nat.reduceDiv, Nat.reduceMod, Nat.reduceMul, d1352, rwS, g1, hd0]
    simp (config := { maxSteps := 1000000 }) (disch := omega) only [go_sem, ↓reduceIte, Nat.reduceEqDiff, Nat.reduceAdd, Int.reduceToNat, reduceCtorEq, Nat.reduceLeDiff, Nat.reduceSub, Nat.reduceDiv, Nat.reduceMod, Nat.reduceMul, d1352, rwS, g1, hd0]
    rcases walk_cases r l with h | ⟨m, h1, h2, h3⟩
    · rw [wlk_yes ⟨hc, hne, by unfold plc; omega, fun i hi => h i (by omega)⟩]
      refine Ev_loop0 (fun i => ⟨[(1, .sl 1 (ints l)), (2, .ref 0 0), (5, .int .i64 ((i : Int) + 1))], [.row false (rwS r)], 0, [(0, 1, [1, 2, 5], [(2, 0)])]⟩) (l.length - 1) (by simp [rwS]) (fun i hi => rwk_step hr (by omega) hl hI (h i hi)) ?_
      simp (config := { maxSteps := 1000000 }) (disch := omega) only [go_sem, ↓reduceIte, Nat.reduceEqDiff, Nat.reduceAdd, Int.reduceToNat, reduceCtorEq, Nat.reduceLeDiff, Nat.reduceSub, Nat.reduceDiv, Nat.reduceMod, Nat.reduceMul, d1352_b0, rwS]
    · rw [wlk_no (fun h => by have := h.2.2.2 m (by omega); rw [h3] at this; cases this)]
      refine Ev_loop0 (fun i => ⟨[(1, .sl 1 (ints l)), (2, .ref 0 0), (5, .int .i64 ((i : Int) + 1))], [.row false (rwS r)], 0, [(0, 1, [1, 2, 5], [(2, 0)])]⟩) m (by simp [rwS]) (fun i hi => rwk_step hr (by omega) hl hI (h2 i hi)) ?_
      have g := rhas_run (v := l.getD m 0) (w := l.getD (m + 1) 0) hr (hI _ (getD_mem (by omega))) (hI _ (getD_mem (by omega)))
      rw [h3] at g
      simp only [rwS] at g
      have em : (m : Int) + 1 - 1 = m := by omega
      simp (config := { maxSteps := 1000000 }) (disch := omega) only [go_sem, ↓reduceIte, Nat.reduceEqDiff, Nat.reduceAdd, Int.reduceToNat, reduceCtorEq, Nat.reduceLeDiff, Nat.reduceSub, Nat.reduceDiv, Nat.reduceMod, Nat.reduceMul, d1352_b0, rwS, g, em, tn1]
end Go.Proofs.Ytgjahkebhlphgaa
