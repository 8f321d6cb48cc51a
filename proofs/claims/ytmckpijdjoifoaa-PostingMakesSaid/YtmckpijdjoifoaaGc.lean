/- Graphs: the normal one; the one that is turned. -/
import Derived.Test.YtmckpijdjoifoaaGb
set_option linter.unusedSimpArgs false
set_option linter.unusedVariables false
namespace Go.Proofs.Ytmckpijdjoifoaa
set_option maxHeartbeats 4000000
set_option maxRecDepth 100000
def gV (n : Int) (E : List Ed) (W : Wds) : List AV := [.int .i64 n, .vec 2 (prs E), .vec 1 (wos W)]
theorem okB_n {g : Gr} (h : okB g = true) : 1 ≤ g.n ∧ g.n ≤ 200 ∧ g.E.length ≤ 2000 ∧ (g.W.length : Int) = g.n := by
  simp only [okB, Bool.and_eq_true, decide_eq_true_eq] at h
  obtain ⟨⟨⟨h1, h2⟩, h3, h4⟩, _⟩ := h
  exact ⟨h1, h2, h3, h4⟩
end Go.Proofs.Ytmckpijdjoifoaa
