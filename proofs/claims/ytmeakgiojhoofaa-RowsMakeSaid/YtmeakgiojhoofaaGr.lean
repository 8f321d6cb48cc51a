/- Layer 2: GraphTurns. -/
import Derived.Test.YtmeakgiojhoofaaGq
namespace Go.Proofs.Ytmeakgiojhoofaa
set_option linter.unusedSimpArgs false
set_option linter.unusedVariables false
set_option maxHeartbeats 4000000
set_option maxRecDepth 100000
theorem oG_w {g : Gr} {i : Nat} (hi : i < g.W.length) : (oG g).w i = g.w i := by
  show (List.getD (fW id g g.W.length) i none).getD [] = _
  rw [fW, List.getD_eq_getElem?_getD, List.getElem?_map, List.getElem?_range hi]; rfl
theorem oG_len (g : Gr) : (oG g).W.length = g.W.length := fW_len id g _
theorem oG_wl (g : Gr) : wl (oG g).W = wl g.W := by
  refine getD_all [] (by rw [wl_len, wl_len, oG_len]) fun i hi => ?_
  rw [wl_len, oG_len] at hi
  rw [wl_at, wl_at]
  exact oG_w hi
theorem oG_ok {g : Gr} (h : okG g) : okG (oG g) := ⟨h.n, h.e, by rw [oG_len]; exact h.w, fun i hi => by rw [oG_len] at hi; rw [oG_w hi]; exact h.r i hi, fun i hi => by rw [oG_len] at hi; rw [oG_w hi]; exact h.t i hi⟩
theorem oG_same (g : Gr) : sameB g (oG g) = true := by
  simp only [sameB, oG_wl, Bool.and_eq_true, decide_eq_true_eq]
  exact ⟨rfl, rfl, trivial⟩
theorem oG_okB (g : Gr) : okB (oG g) = okB g := by
  rw [Bool.eq_iff_iff, okB_iff, okB_iff]
  have e : ∀ i, i < g.W.length → (oG g).w i = g.w i := fun i hi => oG_w hi
  have e1 : (oG g).n = g.n := rfl
  have e2 : (oG g).E = g.E := rfl
  rw [oG_len, e1, e2]
  constructor
  · rintro ⟨a, b, c⟩; exact ⟨a, b, fun i hi => by rw [← e i hi]; exact c i hi⟩
  · rintro ⟨a, b, c⟩; exact ⟨a, b, fun i hi => by rw [e i hi]; exact c i hi⟩
theorem oG_isB (g : Gr) : isB (oG g) = isB g := by
  have e : wAsc (oG g) = wAsc g := by
    by_cases c : ∀ i, i < g.W.length → asc ltS (g.w i)
    · rw [wAsc_yes c, wAsc_yes fun i hi => by rw [oG_len] at hi; rw [oG_w hi]; exact c i hi]
    · rw [wAsc_no c, wAsc_no fun h => c fun i hi => by rw [← oG_w hi]; exact h i (by rw [oG_len]; exact hi)]
  unfold isB
  rw [oG_okB, e]; rfl
end Go.Proofs.Ytmeakgiojhoofaa
