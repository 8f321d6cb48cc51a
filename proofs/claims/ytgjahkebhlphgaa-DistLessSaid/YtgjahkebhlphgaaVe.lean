/- What lies beyond a front. -/
import Derived.Test.YtgjahkebhlphgaaVd
namespace Go.Proofs.Ytgjahkebhlphgaa
set_option linter.unusedSimpArgs false
set_option linter.unusedVariables false
set_option maxHeartbeats 4000000
set_option maxRecDepth 100000
theorem bey1_len1 (t : List Bool × List Int) (w : Int) : (bey1 t w).1.length = t.1.length := by unfold bey1; split <;> simp
theorem bey1_len2 (t : List Bool × List Int) (w : Int) : (bey1 t w).2.length ≤ t.2.length + 1 := by unfold bey1; split <;> simp
theorem beyR_len1 : ∀ (R : List Int) (t : List Bool × List Int), (R.foldl bey1 t).1.length = t.1.length
  | [], t => rfl
  | w :: R, t => by rw [List.foldl_cons, beyR_len1 R, bey1_len1]
theorem beyR_len2 : ∀ (R : List Int) (t : List Bool × List Int), (R.foldl bey1 t).2.length ≤ t.2.length + R.length
  | [], t => Nat.le_refl _
  | w :: R, t => by
    rw [List.foldl_cons]; have := beyR_len2 R (bey1 t w); have := bey1_len2 t w; rw [List.length_cons]; omega
theorem beyV_len1 (nb : Int → List Int) : ∀ (l : List Int) (t : List Bool × List Int), (l.foldl (beyV nb) t).1.length = t.1.length
  | [], t => rfl
  | v :: l, t => by rw [List.foldl_cons, beyV_len1 nb l, beyV, beyR_len1]
theorem beyV_len2 {nb : Int → List Int} {M : Nat} : ∀ (l : List Int) (t : List Bool × List Int), (∀ v ∈ l, (nb v).length ≤ M) → (l.foldl (beyV nb) t).2.length ≤ t.2.length + l.length * M
  | [], t, _ => by simp
  | v :: l, t, h => by
    rw [List.foldl_cons]
    have h1 := beyV_len2 l (beyV nb t v) (fun x hx => h x (by simp [hx]))
    have h2 := beyR_len2 (nb v) t
    have h3 := h v (by simp)
    rw [List.length_cons, Nat.succ_mul]
    unfold beyV at h1 ⊢
    omega
theorem foldl_snoc {α β : Type} (f : β → α → β) {l : List α} {i : Nat} (d : α) (h : i < l.length) (b : β) : (l.take (i + 1)).foldl f b = f ((l.take i).foldl f b) (l.getD i d) := by
  rw [take_snoc d h, List.foldl_append]; rfl
def byBT (r : Rw) (b : Bool) (l R : List Int) (i j : Nat) (t : List Bool × List Int) : St := ⟨[(1, .own 1 1), (2, ldC r b), (7, .own 1 2), (12, .own 1 0), (13, .int .i64 (l.length : Int)), (14, .int .i64 (i : Int)), (20, .sl 1 (ints R)), (21, .int .i64 (R.length : Int)), (22, .int .i64 (j : Int))], [.row false (ints l), .row false (bls t.1), .row false (ints t.2)], 2, [(1, 3, [1, 2, 7, 12, 13, 14, 20, 21, 22], [(1, 1), (7, 2), (12, 0)]), (0, 3, [1, 2, 7, 12, 13, 14], [(1, 1), (7, 2), (12, 0)])]⟩
def byBS (r : Rw) (b : Bool) (l : List Int) (i : Nat) (t : List Bool × List Int) : St := ⟨[(1, .own 1 1), (2, ldC r b), (7, .own 1 2), (12, .own 1 0), (13, .int .i64 (l.length : Int)), (14, .int .i64 (i : Int))], [.row false (ints l), .row false (bls t.1), .row false (ints t.2)], 2, [(0, 3, [1, 2, 7, 12, 13, 14], [(1, 1), (7, 2), (12, 0)])]⟩
theorem byB_num {r : Rw} {b : Bool} {l R : List Int} {i j : Nat} {t : List Bool × List Int} (hj : j < R.length) (hw : 0 ≤ R.getD j 0 ∧ R.getD j 0 < t.1.length) (ht : t.2.length ≤ 1000000000000) (hR : R.length ≤ 1000000) : Ev tab d1356_b1 (byBT r b l R i j t) (fun x st => x = .normal ∧ st = byBT r b l R i (j + 1) (bey1 t (R.getD j 0))) := by
  obtain ⟨w, hw2⟩ : ∃ w : Nat, R.getD j 0 = w := ⟨(R.getD j 0).toNat, by omega⟩
  obtain ⟨t1, t2⟩ := t
  simp only at hw ht
  have hw3 : w < t1.length := by omega
  rw [hw2]
  cases hs : t1.getD w false with
  | true =>
    have e : bey1 (t1, t2) (w : Int) = (t1, t2) := by rw [bey1, if_pos (by simpa [sne] using hs)]
    rw [e]
    simp (config := { maxSteps := 1000000 }) (disch := omega) only [go_sem, ↓reduceIte, Nat.reduceEqDiff, Nat.reduceAdd, Int.reduceToNat, reduceCtorEq, Nat.reduceLeDiff, Nat.reduceSub, Nat.reduceDiv, Nat.reduceMod, Nat.reduceMul, d1356_b1, byBT, ldC, rwS, hw2, hs]
  | false =>
    have e : bey1 (t1, t2) (w : Int) = (t1.set w true, t2 ++ [(w : Int)]) := by rw [bey1, if_neg (by show ¬ (t1.getD ((w : Int)).toNat false = true); rw [Int.toNat_natCast, hs]; simp)]; rfl
    rw [e]
    simp (config := { maxSteps := 1000000 }) (disch := omega) only [go_sem, ↓reduceIte, Nat.reduceEqDiff, Nat.reduceAdd, Int.reduceToNat, reduceCtorEq, Nat.reduceLeDiff, Nat.reduceSub, Nat.reduceDiv, Nat.reduceMod, Nat.reduceMul, d1356_b1, byBT, ldC, rwS, hw2, hs]
theorem byB_place {r : Rw} {b : Bool} (ok : r.ok) {l : List Int} {i : Nat} {t : List Bool × List Int} (hi : i < l.length) (hv : 0 ≤ l.getD i 0 ∧ l.getD i 0 < plc r) (ht1 : t.1.length = plc r) (ht : t.2.length ≤ 100000000000) (hl : l.length ≤ 1000000) : Ev tab d1356_b0 (byBS r b l i t) (fun x st => x = .normal ∧ st = byBS r b l (i + 1) (beyV (nbr r b) t (l.getD i 0))) := by
  have g := ld_run ok b hv.1 hv.2
  have hR := nbr_len ok b hv.1 hv.2
  have hp := nbr_plc ok b _ hv.1 hv.2
  have ev : beyV (nbr r b) t (l.getD i 0) = (nbr r b (l.getD i 0)).foldl bey1 t := rfl
  rw [ev]
  simp only [rwS] at g
  generalize hv2 : l.getD i 0 = v at *
  generalize hR2 : nbr r b v = R at *
  simp (config := { maxSteps := 1000000 }) (disch := omega) only [go_sem, ↓reduceIte, Nat.reduceEqDiff, Nat.reduceAdd, Int.reduceToNat, reduceCtorEq, Nat.reduceLeDiff, Nat.reduceSub, Nat.reduceDiv, Nat.reduceMod, Nat.reduceMul, d1356_b0, byBS, ldC, rwS, hv2, g]
  refine Ev_loop0 (fun j => byBT r b l R i j ((R.take j).foldl bey1 t)) R.length (by simp [byBT, ldC, rwS]) (fun j hj => ?_) ?_
  · have e := foldl_snoc bey1 0 hj t
    have h1 := beyR_len1 (R.take j) t
    have h2 := beyR_len2 (R.take j) t
    rw [List.length_take] at h2
    have hm := hp _ (getD_mem (d := 0) hj)
    rw [e]
    exact byB_num hj (by rw [h1, ht1]; exact hm) (by omega) (by omega)
  · rw [List.take_length]
    simp (config := { maxSteps := 1000000 }) (disch := omega) only [go_sem, ↓reduceIte, Nat.reduceEqDiff, Nat.reduceAdd, Int.reduceToNat, reduceCtorEq, Nat.reduceLeDiff, Nat.reduceSub, Nat.reduceDiv, Nat.reduceMod, Nat.reduceMul, d1356_b1, byBT, ldC, rwS]
theorem byB_run {r : Rw} {b : Bool} (ok : r.ok) {l : List Int} {s : List Bool} (hl : l.length ≤ 1000000) (hv : ∀ v ∈ l, 0 ≤ v ∧ v < plc r) (hs : s.length = plc r) : runP tab 1356 [.own 1 0, .own 1 1, ldC r b] [.row false (ints l), .row false (bls s)] = some (.vec 1 (ints (bey (nbr r b) l s).2), [.row false (ints l), .row false (bls (bey (nbr r b) l s).1)]) := by
  refine runP_fn t1356 rfl ?_
  have h0 : ∀ t : List Bool × List Int, (l.foldl (beyV (nbr r b)) t) = l.foldl (beyV (nbr r b)) t := fun _ => rfl
  simp (config := { maxSteps := 1000000 }) (disch := omega) only [go_sem, ↓reduceIte, Nat.reduceEqDiff, Nat.reduceAdd, Int.reduceToNat, reduceCtorEq, Nat.reduceLeDiff, Nat.reduceSub, Nat.reduceDiv, Nat.reduceMod, Nat.reduceMul, d1356, ldC, rwS]
  refine Ev_loop0 (fun i => byBS r b l i ((l.take i).foldl (beyV (nbr r b)) (s, []))) l.length (by simp [byBS, ldC, rwS, ints]) (fun i hi => ?_) ?_
  · have e := foldl_snoc (beyV (nbr r b)) 0 hi (s, [])
    have h1 := beyV_len1 (nbr r b) (l.take i) (s, [])
    have h2 := beyV_len2 (nb := nbr r b) (M := 2000) (l.take i) (s, []) (fun v hx => by
      have := hv v (List.mem_of_mem_take hx)
      exact nbr_len ok b this.1 this.2)
    rw [List.length_take] at h2
    simp only [List.length_nil] at h2
    have h3 : min i l.length * 2000 ≤ 2000000000 := by omega
    rw [e]
    exact byB_place ok hi (hv _ (getD_mem hi)) (by rw [h1]; exact hs) (by omega) hl
  · rw [List.take_length]
    have e : l.foldl (beyV (nbr r b)) (s, []) = bey (nbr r b) l s := rfl
    rw [e]
    generalize bey (nbr r b) l s = t at *
    obtain ⟨t1, t2⟩ := t
    simp (config := { maxSteps := 1000000 }) (disch := omega) only [go_sem, ↓reduceIte, Nat.reduceEqDiff, Nat.reduceAdd, Int.reduceToNat, reduceCtorEq, Nat.reduceLeDiff, Nat.reduceSub, Nat.reduceDiv, Nat.reduceMod, Nat.reduceMul, d1356_b0, byBS, ldC, rwS]
end Go.Proofs.Ytgjahkebhlphgaa
