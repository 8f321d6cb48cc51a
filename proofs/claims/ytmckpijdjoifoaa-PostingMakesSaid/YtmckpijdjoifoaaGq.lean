/- Graphs by definition: one's own; turned; degrees. -/
import Derived.Test.YtmckpijdjoifoaaGp
set_option linter.unusedSimpArgs false
set_option linter.unusedVariables false
namespace Go.Proofs.Ytmckpijdjoifoaa
set_option maxHeartbeats 4000000
set_option maxRecDepth 100000
def oG (g : Gr) : Gr := ⟨g.n, g.E, fW id g g.W.length⟩
theorem own_run {g : Gr} (hg : okG g) : runP tab 1264 [.agg (gS g)] [] = some (.agg (gV (oG g).n (oG g).E (oG g).W), []) := by
  refine runP_fn t1264 rfl ?_
  have he := hg.e
  have hw := hg.w
  have q0 : fW id g 0 = [] := rfl
  simp (config := { maxSteps := 1000000 }) (disch := omega) only [go_sem, ↓reduceIte, Nat.reduceEqDiff, Nat.reduceAdd, Nat.reduceLeDiff, d1264, gS]
  refine Ev_loop0 (fun i => ⟨[(1, .ref 0 0), (2, .ref 1 0), (3, .ref 2 0), (4, .int .i64 (i : Int))], [.row false [.int .i64 g.n, .sl 2 (prs g.E), .sl 1 (wcs g.W)], .row false [.int .i64 0, .nils, .nils], .row false [.int .i64 g.n, .vec 2 (prs g.E), .vec 1 (wos (fW id g i))], .dead], 0, [(0, 4, [1, 2, 3, 4], [(1, 0), (2, 1), (3, 2)])]⟩) g.W.length (by simp only [q0]; rfl) (fun i hi => ?_) ?_
  · have e := wcs_at hi
    have gs := otx_run (l := g.w i) (by have := hg.r i hi; omega)
    have es := fW_succ id g i
    have el := fW_len id g i
    have ew : g.w i = (g.W.getD i none).getD [] := rfl
    rw [es]
    simp only [id]
    rw [ew] at gs ⊢
    generalize fW id g i = W' at *
    cases hx : g.W.getD i none with
    | none =>
      rw [hx] at e gs
      simp only [Option.getD_none, strs0] at gs ⊢
      have ws := wos_snoc W' []
      rw [strs0] at ws
      simp (config := { maxSteps := 1000000 }) (disch := omega) only [go_sem, ↓reduceIte, Nat.reduceEqDiff, Nat.reduceAdd, Nat.reduceLeDiff, d1264_b0, e, wc, gs, el, ws]
    | some l =>
      rw [hx] at e gs
      simp only [Option.getD_some] at gs ⊢
      simp (config := { maxSteps := 1000000 }) (disch := omega) only [go_sem, ↓reduceIte, Nat.reduceEqDiff, Nat.reduceAdd, Nat.reduceLeDiff, d1264_b0, e, wc, gs, el, wos_snoc, strs_noid']
  · simp only [oG]
    generalize fW id g g.W.length = W' at *
    simp (config := { maxSteps := 1000000 }) (disch := omega) only [go_sem, ↓reduceIte, Nat.reduceEqDiff, Nat.reduceAdd, reduceCtorEq, d1264_b0, gV]
end Go.Proofs.Ytmckpijdjoifoaa
