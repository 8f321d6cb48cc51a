/- Layer 5: a graph has just these postings, or is refused. -/
import Derived.Test.YtmckpijdjoifoaaCp
import Derived.Test.YtmckpijdjoifoaaGq
set_option linter.unusedSimpArgs false
set_option linter.unusedVariables false
namespace Go.Proofs.Ytmckpijdjoifoaa
set_option maxHeartbeats 4000000
set_option maxRecDepth 100000
theorem ogw {g : Gr} {i : Nat} (hi : i < g.W.length) : (oG g).w i = g.w i := by
  simp [oG, Gr.w, fW, hi]
theorem oglen (g : Gr) : (oG g).W.length = g.W.length := fW_len id g _
theorem ogok {g : Gr} (h : okG g) : okG (oG g) := ⟨h.n, h.e, by rw [oglen]; exact h.w, fun i hi => by rw [oglen] at hi; rw [ogw hi]; exact h.r i hi, fun i hi => by rw [oglen] at hi; rw [ogw hi]; exact h.t i hi⟩
theorem ogokB (g : Gr) : okB (oG g) = okB g := by
  unfold okB
  have e : ∀ i, i < g.W.length → (oG g).w i = g.w i := fun i hi => ogw hi
  have e1 : (oG g).n = g.n := rfl
  have e2 : (oG g).E = g.E := rfl
  rw [oglen, e1, e2]
  congr 2
  rw [Bool.eq_iff_iff, List.all_eq_true, List.all_eq_true]
  exact ⟨fun h i hi => by rw [← e i (by simpa using hi)]; exact h i hi, fun h i hi => by rw [e i (by simpa using hi)]; exact h i hi⟩
theorem ogisB (g : Gr) : isB (oG g) = isB g := by
  have e : wAsc (oG g) = wAsc g := by
    by_cases c : ∀ i, i < g.W.length → asc ltS (g.w i)
    · rw [wAsc_yes c, wAsc_yes fun i hi => by rw [oglen] at hi; rw [ogw hi]; exact c i hi]
    · rw [wAsc_no c, wAsc_no fun h => c fun i hi => by rw [← ogw hi]; exact h i (by rw [oglen]; exact hi)]
  unfold isB
  rw [ogokB, e]; rfl
theorem ogsame (g : Gr) : sameB g (oG g) = true := by
  have : wl (oG g).W = wl g.W := by
    refine getD_all [] (by rw [wl_len, wl_len, oglen]) fun i hi => ?_
    rw [wl_len, oglen] at hi
    rw [wl_at, wl_at]
    exact ogw hi
  simp only [sameB, this, Bool.and_eq_true, decide_eq_true_eq]
  exact ⟨rfl, rfl, trivial⟩
theorem pfx_congr {W V : Wds} : ∀ n, (∀ i, i < n → (W.getD i none).getD [] = (V.getD i none).getD []) → pfx W n = pfx V n
  | 0, _ => rfl
  | n + 1, h => by rw [pfx, pfx, pfx_congr n fun i hi => h i (by omega), h n (by omega)]
theorem ogpfx (g : Gr) : pfx (oG g).W (oG g).W.length = pfx g.W g.W.length := by
  rw [oglen]
  exact pfx_congr _ fun i hi => ogw hi
theorem postP_okW {g : Gr} (hg : okG g) : okW (postP (pfx g.W g.W.length)) := by
  have h5 := kyP_len5 hg (Nat.le_refl _)
  have hk := kyP_len (pfx g.W g.W.length)
  have hs := sorted_len (lt := ltS) (kyP (pfx g.W g.W.length))
  refine ⟨by unfold postP; rw [List.length_map]; omega, fun p hp => ?_⟩
  unfold postP at hp
  obtain ⟨w, _, rfl⟩ := List.mem_map.1 hp
  have := plc_len (pfx g.W g.W.length) w
  simp only; omega
theorem makes_law {g : Gr} (hf : gFit g) : runP tabM 1589 [.agg (gS g)] [] = some (.bool true, []) := by
  refine runP_fn (show tabM 1589 = _ from t1589) rfl ?_
  have gb := up (bigG_run hf)
  have gp := posted_run
  cases hb : bigB g with
  | true =>
    rw [hb] at gb
    simp only [gS] at gb
    simp (config := { maxSteps := 1000000 }) (disch := omega) only [go_sem, ↓reduceIte, Nat.reduceEqDiff, Nat.reduceAdd, d1589, gS, gb]
  | false =>
    rw [hb] at gb
    have hg := bigB_ok hf hb
    have ho := ogok hg
    have go := up (own_run hg)
    have s2 := up (sameG_run hg ho)
    rw [ogsame] at s2
    have hl3 : (oG g).W.length ≤ 250 := ho.w
    have hl4 : (oG g).E.length ≤ 2100 := ho.e
    have hA : ∃ Q c, runP tabM 1552 [.agg (gS g)] [] = some (.tup [.vec 2 (poS Q), .int .i64 c], []) ∧ runP tabM 1594 [.agg (gS (oG g))] [] = some (.tup [.vec 2 (poV Q), .int .i64 c], []) ∧ okW Q := by
      cases hi : isB g with
      | true =>
        have h2 := up (rmake_run ho (by rw [ogisB]; exact hi))
        rw [ogpfx] at h2
        exact ⟨_, _, pmake_run hg hi, h2, postP_okW hg⟩
      | false => exact ⟨[], 20, pmake_no hg hi, up (rmake_no ho (by rw [ogisB]; exact hi)), ⟨by simp, by simp⟩⟩
    obtain ⟨Q, c, gm, gm2, hk⟩ := hA
    have rs := up (psame_run hk hk)
    rw [decide_eq_true rfl] at rs
    have Lq := poS_len Q
    generalize oG g = O at *
    obtain ⟨n2, E2, W2⟩ := O
    simp only [gS, gV] at gb go gm gm2 s2 hl3 hl4
    simp (config := { maxSteps := 1000000 }) (disch := omega) only [go_sem, ↓reduceIte, Nat.reduceEqDiff, Nat.reduceAdd, d1589, gS, gb, gp, go, gm, gm2, s2, rs]
end Go.Proofs.Ytmckpijdjoifoaa
