/- Layer 2: GraphOrder. -/
import Derived.Test.YtmeakgiojhoofaaGk
namespace Go.Proofs.Ytmeakgiojhoofaa
set_option linter.unusedSimpArgs false
set_option linter.unusedVariables false
set_option maxHeartbeats 4000000
set_option maxRecDepth 100000
def bkE (E : List Ed) (k : Nat) : List Ed := E.reverse.take k
theorem bkE_succ {E : List Ed} {k : Nat} (h : k < E.length) : bkE E (k + 1) = bkE E k ++ [E.getD (E.length - 1 - k) default] := by
  unfold bkE
  rw [take_snoc default (by simpa using h)]
  congr 2
  rw [List.getD_eq_getElem?_getD, List.getD_eq_getElem?_getD, List.getElem?_reverse h]
theorem bkE_all (E : List Ed) : bkE E E.length = E.reverse := by rw [bkE, List.take_of_length_le (by simp)]
theorem bkE_len {E : List Ed} {k : Nat} (h : k ≤ E.length) : (bkE E k).length = k := by simp [bkE]; omega
theorem okB_of {a b : Gr} (hn : a.n = b.n) (hw : a.W = b.W) (he : ∀ e, e ∈ a.E ↔ e ∈ b.E) (ha : a.E.length ≤ 2000) (hb : b.E.length ≤ 2000) : okB a = okB b := by
  have key : ∀ {a b : Gr}, a.n = b.n → a.W = b.W → (∀ e, e ∈ a.E ↔ e ∈ b.E) → b.E.length ≤ 2000 → okB a = true → okB b = true := fun {a b} hn hw he hb h => by
    obtain ⟨⟨h1, h2, _, h4⟩, h5, h6⟩ := okB_iff.1 h
    refine okB_iff.2 ⟨⟨by omega, by omega, hb, by rw [← hw, ← hn]; exact h4⟩, fun e hx => by rw [← hn]; exact h5 e ((he e).2 hx), fun i hi => ?_⟩
    have := h6 i (by rw [hw]; exact hi)
    rw [Gr.w, hw] at this
    exact this
  cases h : okB a with
  | true => rw [key hn hw he hb h]
  | false =>
    cases h2 : okB b with
    | false => rfl
    | true => rw [key hn.symm hw.symm (fun e => (he e).symm) ha h2] at h; cases h
theorem order_run {g : Gr} {v : Int} (hf : gFit g) : runP tab 1261 [.agg (gS g), .int .i64 v] [] = some (.bool true, []) := by
  refine runP_fn t1261 rfl ?_
  have gb := bigG_run hf
  have gg := graphs_run
  have he := hf.e
  cases hb : bigB g with
  | true =>
    rw [hb] at gb
    simp only [gS] at gb
    simp (config := { maxSteps := 1000000 }) (disch := omega) only [go_sem, ↓reduceIte, Nat.reduceEqDiff, Nat.reduceAdd, Int.reduceToNat, reduceCtorEq, Nat.reduceLeDiff, Nat.reduceSub, Nat.reduceDiv, Nat.reduceMod, Nat.reduceMul, d1261, gS, gb]
  | false =>
    rw [hb] at gb
    have hg := bigB_ok hf hb
    by_cases h60 : 60 < g.E.length
    case pos =>
      simp only [gS] at gb
      simp (config := { maxSteps := 1000000 }) (disch := omega) only [go_sem, ↓reduceIte, Nat.reduceEqDiff, Nat.reduceAdd, Int.reduceToNat, reduceCtorEq, Nat.reduceLeDiff, Nat.reduceSub, Nat.reduceDiv, Nat.reduceMod, Nat.reduceMul, d1261, gS, gb]
    have gn := norm_run hg
    rw [nrmA_eq] at gn
    simp only [gS] at gn gb
    simp (config := { maxSteps := 1000000 }) (disch := omega) only [go_sem, ↓reduceIte, Nat.reduceEqDiff, Nat.reduceAdd, Int.reduceToNat, reduceCtorEq, Nat.reduceLeDiff, Nat.reduceSub, Nat.reduceDiv, Nat.reduceMod, Nat.reduceMul, d1261, gS, gb]
    refine Ev_loop0 (fun k => ⟨[(1, .int .i64 v), (2, .ref 0 0), (5, .ref 1 0), (6, .int .i64 ((g.E.length : Int) - 1 - (k : Int)))], [.row false [.int .i64 g.n, .sl 2 (prs g.E), .sl 1 (wcs g.W)], .row false [.int .i64 g.n, .vec 2 (prs (bkE g.E k)), .sl 1 (wcs g.W)]], 0, [(0, 2, [1, 2, 5, 6], [(2, 0), (5, 1)])]⟩) g.E.length (by simp [bkE, prs]) (fun i hi => ?_) ?_
    · have e := prs_at (l := g.E) (i := g.E.length - 1 - i) (by omega)
      have es := bkE_succ hi
      have el := bkE_len (E := g.E) (k := i) (by omega)
      have q : (g.E.length : Int) - 1 - (i : Int) = ((g.E.length - 1 - i : Nat) : Int) := by omega
      have q2 : (g.E.length : Int) - 1 - ((i : Int) + 1) = ((g.E.length - 1 - i : Nat) : Int) - 1 := by omega
      rw [q]
      generalize g.E.getD (g.E.length - 1 - i) default = x at *
      simp (config := { maxSteps := 1000000 }) (disch := omega) only [go_sem, ↓reduceIte, Nat.reduceEqDiff, Nat.reduceAdd, Int.reduceToNat, reduceCtorEq, Nat.reduceLeDiff, Nat.reduceSub, Nat.reduceDiv, Nat.reduceMod, Nat.reduceMul, d1261_b0, e, es, el, prs_snoc, q2]
    · have eb := bkE_all g.E
      rw [eb]
      have hin : ∀ B : List Ed, (∀ e, e ∈ B ↔ e ∈ g.E) → B.length ≤ 61 → runP tab 1265 [.agg [.int .i64 g.n, .sl 2 (prs B), .sl 1 (wcs g.W)]] [] = some (.tup [.agg (gV (tG g).n (tG g).E (tG g).W), .int .i64 (codeA g)], []) := fun B hB hl => by
        have ok : okG ⟨g.n, B, g.W⟩ := ⟨hg.n, by simp only; omega, hg.w, hg.r, hg.t⟩
        have gn := norm_run ok
        have eo : okB ⟨g.n, B, g.W⟩ = okB g := okB_of rfl rfl hB (by simp only; omega) (by omega)
        have et : tG ⟨g.n, B, g.W⟩ = tG g := by
          unfold tG
          rw [eo, nG_of (a := ⟨g.n, B, g.W⟩) (b := g) rfl hB rfl fun i hi s => Iff.rfl]
        rw [nrmA_eq, codeA, eo, et] at gn
        exact gn
      have hs := sameG_run (tG_ok hg) (tG_ok hg)
      rw [sameB_self] at hs
      have hl : (tG g).W.length ≤ 250 := (tG_ok hg).w
      have hl2 : (tG g).E.length ≤ 2100 := (tG_ok hg).e
      generalize tG g = N at *
      generalize codeA g = cd at *
      obtain ⟨n', E', W'⟩ := N
      simp only [gS, gV] at hs hl hl2 gn hin
      have h0 := hin g.E.reverse (fun e => List.mem_reverse) (by rw [List.length_reverse]; omega)
      by_cases c1 : 0 ≤ v
      case neg => simp (config := { maxSteps := 1000000 }) (disch := omega) only [go_sem, ↓reduceIte, Nat.reduceEqDiff, Nat.reduceAdd, Int.reduceToNat, reduceCtorEq, Nat.reduceLeDiff, Nat.reduceSub, Nat.reduceDiv, Nat.reduceMod, Nat.reduceMul, d1261_b0, gn, h0, hs, gg]
      by_cases c2 : v < g.E.length
      case neg => simp (config := { maxSteps := 1000000 }) (disch := omega) only [go_sem, ↓reduceIte, Nat.reduceEqDiff, Nat.reduceAdd, Int.reduceToNat, reduceCtorEq, Nat.reduceLeDiff, Nat.reduceSub, Nat.reduceDiv, Nat.reduceMod, Nat.reduceMul, d1261_b0, gn, h0, hs, gg]
      obtain ⟨w, rfl⟩ : ∃ w : Nat, v = w := ⟨v.toNat, by omega⟩
      have e := prs_at (l := g.E) (i := w) (by omega)
      have h1 := hin (g.E.reverse ++ [g.E.getD w default]) (fun e => by
        rw [List.mem_append, List.mem_reverse, List.mem_singleton]
        exact ⟨fun h => by rcases h with h | rfl; exact h; exact getD_mem (d := default) (by omega), .inl⟩) (by rw [List.length_append, List.length_reverse]; simp; omega)
      have hr := List.length_reverse (as := g.E)
      generalize g.E.getD w default = x at *
      generalize g.E.reverse = R at *
      simp (config := { maxSteps := 1000000 }) (disch := omega) only [go_sem, ↓reduceIte, Nat.reduceEqDiff, Nat.reduceAdd, Int.reduceToNat, reduceCtorEq, Nat.reduceLeDiff, Nat.reduceSub, Nat.reduceDiv, Nat.reduceMod, Nat.reduceMul, d1261_b0, gn, h1, hs, gg, e, prs_snoc]
end Go.Proofs.Ytmeakgiojhoofaa
