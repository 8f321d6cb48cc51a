/- Layer 2: GraphTwice. -/
import Derived.Test.YtmeakgiojhoofaaGi
namespace Go.Proofs.Ytmeakgiojhoofaa
set_option linter.unusedSimpArgs false
set_option linter.unusedVariables false
set_option maxHeartbeats 4000000
set_option maxRecDepth 100000
theorem nrmW_of {a b : Gr} (hl : a.W.length = b.W.length) (h : ∀ i, i < a.W.length → ∀ s, s ∈ a.w i ↔ s ∈ b.w i) : nrmW a = nrmW b := by
  unfold nrmW
  rw [hl]
  refine List.map_congr_left fun i hi => ?_
  rw [List.mem_range] at hi
  exact nrm_congr ordrS (h i (by omega))
theorem nG_of {a b : Gr} (hn : a.n = b.n) (he : ∀ e, e ∈ a.E ↔ e ∈ b.E) (hl : a.W.length = b.W.length) (h : ∀ i, i < a.W.length → ∀ s, s ∈ a.w i ↔ s ∈ b.w i) : nG a = nG b := by
  unfold nG
  rw [hn, nrm_congr ordrE he, nrmW_of hl h]
theorem sameB_self (g : Gr) : sameB g g = true := by simp [sameB]
end Go.Proofs.Ytmeakgiojhoofaa
