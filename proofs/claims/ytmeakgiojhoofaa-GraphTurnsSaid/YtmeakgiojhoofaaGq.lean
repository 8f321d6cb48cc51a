/- Graphs by definition: one's own; turned; degrees. -/
import Derived.Test.YtmeakgiojhoofaaGp
namespace Go.Proofs.Ytmeakgiojhoofaa
set_option linter.unusedSimpArgs false
set_option linter.unusedVariables false
set_option maxHeartbeats 4000000
set_option maxRecDepth 100000
def oG (g : Gr) : Gr := ⟨g.n, g.E, fW id g g.W.length⟩
theorem own_run {g : Gr} (hg : okG g) : runP tab 1264 [.agg (gS g)] [] = some (.agg (gV (oG g).n (oG g).E (oG g).W), []) := by
  refine runP_fn t1264 rfl ?_
  have he := hg.e
  have hw := hg.w
  have q0 : fW id g 0 = [] := rfl
  simp (config := { maxSteps := 1000000 }) (disch := omega) only [go_sem, ↓reduceIte, Nat.reduceEqDiff, Nat.reduceAdd, Int.reduceToNat, reduceCtorEq, Nat.reduceLeDiff, Nat.reduceSub, Nat.reduceDiv, Nat.reduceMod, Nat.reduceMul, d1264, gS]
  refine Ev_loop0 (fun i => ⟨[(1, .ref 0 0), (2, .ref 1 0), (3, .ref 2 0), (4, .int .i64 (i : Int))], [.row false [.int .i64 g.n, .sl 2 (prs g.E), .sl 1 (wcs g.W)], .row false [.int .i64 0, .nils, .nils], .row false [.int .i64 g.n, .vec 2 (prs g.E), .vec 1 (wos (fW id g i))], .dead], 0, [(0, 4, [1, 2, 3, 4], [(1, 0), (2, 1), (3, 2)])]⟩) g.W.length (by simp only [q0]; rfl) (fun i hi => ?_) ?_
  · have e := wcs_at hi
    have gs := otx_run (l := g.w i) (by have := hg.r i hi; omega)
    have es := fW_succ id g i
    have el := fW_len id g i
    have ew : g.w i = (g.W.getD i none).getD [] := rfl
    rw [es]
    simp only [id]
    rw [ew] at gs ⊢
    generalize fW id g i = W' at *
    cases hx : g.W.getD i none with
    | none =>
      rw [hx] at e gs
      simp only [Option.getD_none, strs0] at gs ⊢
      have ws := wos_snoc W' []
      rw [strs0] at ws
      simp (config := { maxSteps := 1000000 }) (disch := omega) only [go_sem, ↓reduceIte, Nat.reduceEqDiff, Nat.reduceAdd, Int.reduceToNat, reduceCtorEq, Nat.reduceLeDiff, Nat.reduceSub, Nat.reduceDiv, Nat.reduceMod, Nat.reduceMul, d1264_b0, e, wc, gs, el, ws]
    | some l =>
      rw [hx] at e gs
      simp only [Option.getD_some] at gs ⊢
      simp (config := { maxSteps := 1000000 }) (disch := omega) only [go_sem, ↓reduceIte, Nat.reduceEqDiff, Nat.reduceAdd, Int.reduceToNat, reduceCtorEq, Nat.reduceLeDiff, Nat.reduceSub, Nat.reduceDiv, Nat.reduceMod, Nat.reduceMul, d1264_b0, e, wc, gs, el, wos_snoc, strs_noid']
  · simp only [oG]
    generalize fW id g g.W.length = W' at *
    simp (config := { maxSteps := 1000000 }) (disch := omega) only [go_sem, ↓reduceIte, Nat.reduceEqDiff, Nat.reduceAdd, Int.reduceToNat, reduceCtorEq, Nat.reduceLeDiff, Nat.reduceSub, Nat.reduceDiv, Nat.reduceMod, Nat.reduceMul, d1264_b0, gV]
theorem norm2_no {g : Gr} (hg : okG g) (c : okB g = false) : runP tab 1266 [.agg (gS g)] [] = some (.tup [.agg [.int .i64 0, .vec 2 [], .vec 1 []], .int .i64 20], []) := by
  refine runP_fn t1266 rfl ?_
  have gc := gck2_run hg
  rw [c] at gc
  simp only [gS] at gc
  simp (config := { maxSteps := 1000000 }) (disch := omega) only [go_sem, ↓reduceIte, Nat.reduceEqDiff, Nat.reduceAdd, Int.reduceToNat, reduceCtorEq, Nat.reduceLeDiff, Nat.reduceSub, Nat.reduceDiv, Nat.reduceMod, Nat.reduceMul, d1266, gS, gc]
theorem prs_fst {l : List Ed} {i : Nat} (h : i < l.length) : rdc (prs (l.drop i)) none = some (.int .i64 (l.getD i default).1) := by
  rw [List.drop_eq_getElem_cons h, prs_cons, List.getD_eq_getElem?_getD, List.getElem?_eq_getElem h]; rfl
theorem prs_snd {l : List Ed} {i : Nat} (h : i < l.length) : rdc (List.drop 1 (prs (l.drop i))) none = some (.int .i64 (l.getD i default).2) := by
  rw [List.drop_eq_getElem_cons h, prs_cons, List.getD_eq_getElem?_getD, List.getElem?_eq_getElem h]; rfl
def tuP (E : List Ed) (i : Nat) : List Ed := turnE (E.take i)
theorem tuP_succ {E : List Ed} {i : Nat} (h : i < E.length) : tuP E (i + 1) = tuP E i ++ [((E.getD i default).2, (E.getD i default).1)] := by
  unfold tuP
  rw [take_snoc default h]; simp [turnE]
theorem tuP_len {E : List Ed} {i : Nat} (h : i ≤ E.length) : (tuP E i).length = i := by rw [tuP, turnE_len, List.length_take]; omega
theorem turned2_gen {g : Gr} (hg : okG g) {A : AV} (gn : ∀ E, E = turnE g.E → runP tab 1266 [.agg [.int .i64 g.n, .sl 2 (prs E), .sl 1 (wcs g.W)]] [] = some (A, [])) (hA : (∃ n E W e, A = .tup [.agg [.int .i64 n, .sl 2 (prs E), .vec 1 (wos W)], .int .i64 e]) ∨ ∃ n E W e, A = .tup [.agg [.int .i64 n, .vec 2 (prs E), .vec 1 (wos W)], .int .i64 e]) : runP tab 1273 [.agg (gS g)] [] = some (A, []) := by
  have he := hg.e
  have hw := hg.w
  refine runP_fn t1273 rfl ?_
  have q0 : tuP g.E 0 = [] := rfl
  have q1 : tuP g.E g.E.length = turnE g.E := by rw [tuP, List.take_length]
  simp (config := { maxSteps := 1000000 }) (disch := omega) only [go_sem, ↓reduceIte, Nat.reduceEqDiff, Nat.reduceAdd, Int.reduceToNat, reduceCtorEq, Nat.reduceLeDiff, Nat.reduceSub, Nat.reduceDiv, Nat.reduceMod, Nat.reduceMul, d1273, gS]
  refine Ev_loop0 (fun i => ⟨[(1, .ref 0 0), (2, .ref 1 0), (4, .ref 2 0), (5, .int .i64 (i : Int))], [.row false [.int .i64 g.n, .sl 2 (prs g.E), .sl 1 (wcs g.W)], .row false [.int .i64 0, .nils, .nils], .row false [.int .i64 g.n, .vec 2 (prs (tuP g.E i)), .sl 1 (wcs g.W)]], 0, [(0, 3, [1, 2, 4, 5], [(1, 0), (2, 1), (4, 2)])]⟩) g.E.length (by simp only [q0]; rfl) (fun i hi => ?_) ?_
  · have e := prs_fst hi
    have e' := prs_snd hi
    have el := tuP_len (E := g.E) (i := i) (by omega)
    rw [tuP_succ hi]
    generalize tuP g.E i = d at *
    generalize g.E.getD i default = x at *
    simp (config := { maxSteps := 1000000 }) (disch := omega) only [go_sem, ↓reduceIte, Nat.reduceEqDiff, Nat.reduceAdd, Int.reduceToNat, reduceCtorEq, Nat.reduceLeDiff, Nat.reduceSub, Nat.reduceDiv, Nat.reduceMod, Nat.reduceMul, d1273_b0, e, e', el, prs_snoc]
  · rw [q1]
    have gn' := gn _ rfl
    have tl := turnE_len g.E
    generalize turnE g.E = E at *
    rcases hA with ⟨n', E', W', e', rfl⟩ | ⟨n', E', W', e', rfl⟩ <;> simp (config := { maxSteps := 1000000 }) (disch := omega) only [go_sem, ↓reduceIte, Nat.reduceEqDiff, Nat.reduceAdd, Int.reduceToNat, reduceCtorEq, Nat.reduceLeDiff, Nat.reduceSub, Nat.reduceDiv, Nat.reduceMod, Nat.reduceMul, d1273_b0, gn']
def nrm2A (g : Gr) (b : Bool) : AV := if okB g = true then nrmV g b else .tup [.agg [.int .i64 0, .vec 2 [], .vec 1 []], .int .i64 20]
theorem normal2_run {g : Gr} (hg : okG g) : ∃ b, runP tab 1266 [.agg (gS g)] [] = some (nrm2A g b, []) := by
  unfold nrm2A
  cases c : okB g with
  | true => exact norm2_run hg c
  | false => exact ⟨true, norm2_no hg c⟩
theorem turned2_run {g : Gr} (hg : okG g) : ∃ b, runP tab 1273 [.agg (gS g)] [] = some (nrm2A (turnG g) b, []) := by
  obtain ⟨b, gn⟩ := normal2_run (turnG_ok hg)
  refine ⟨b, turned2_gen hg (A := nrm2A (turnG g) b) (fun E hE => by subst hE; exact gn) ?_⟩
  unfold nrm2A
  split
  · cases b with
    | true => exact .inl ⟨_, _, _, _, rfl⟩
    | false => exact .inr ⟨_, _, _, _, rfl⟩
  · exact .inr ⟨0, [], [], 20, rfl⟩
theorem deg2_run {g : Gr} (hg : okG g) {v : Int} : runP tab 1275 [.agg (gS g), .int .i64 v] [] = some (degA g v, []) := by
  refine runP_fn t1275 rfl ?_
  obtain ⟨b, gn⟩ := normal2_run hg
  unfold degA
  unfold nrm2A at gn
  by_cases c : okB g = true
  case neg =>
    rw [if_neg c] at gn
    rw [if_neg (fun h => c h.1)]
    simp only [gS] at gn
    simp (config := { maxSteps := 1000000 }) (disch := omega) only [go_sem, ↓reduceIte, Nat.reduceEqDiff, Nat.reduceAdd, Int.reduceToNat, reduceCtorEq, Nat.reduceLeDiff, Nat.reduceSub, Nat.reduceDiv, Nat.reduceMod, Nat.reduceMul, d1275, gS, gn]
  rw [if_pos c] at gn
  have nl := nrm_len (lt := ltE) g.E
  have he := hg.e
  have hw := hg.w
  have wl := nG_len g
  simp only [nG] at wl
  unfold nrmV at gn
  generalize nrmL ltE g.E = E at *
  generalize (nrmW g).map some = W at *
  simp only [gV, gS] at gn
  by_cases hv : 0 ≤ v ∧ v < g.n
  case neg =>
    rw [if_neg (fun h => hv h.2)]
    by_cases h0 : 0 ≤ v
    · have h1 : ¬ v < g.n := fun h => hv ⟨h0, h⟩
      cases b <;> simp only at gn <;> simp (config := { maxSteps := 1000000 }) (disch := omega) only [go_sem, ↓reduceIte, Nat.reduceEqDiff, Nat.reduceAdd, Int.reduceToNat, reduceCtorEq, Nat.reduceLeDiff, Nat.reduceSub, Nat.reduceDiv, Nat.reduceMod, Nat.reduceMul, d1275, gS, gn]
    · cases b <;> simp only at gn <;> simp (config := { maxSteps := 1000000 }) (disch := omega) only [go_sem, ↓reduceIte, Nat.reduceEqDiff, Nat.reduceAdd, Int.reduceToNat, reduceCtorEq, Nat.reduceLeDiff, Nat.reduceSub, Nat.reduceDiv, Nat.reduceMod, Nat.reduceMul, d1275, gS, gn]
  rw [if_pos ⟨c, hv⟩]
  obtain ⟨v1, v2⟩ := hv
  generalize ha : ctE (fun e => e.1) v E = A
  generalize hb : ctE (fun e => e.2) v E = B
  cases b with
  | false =>
    simp only at gn
    simp (config := { maxSteps := 1000000 }) (disch := omega) only [go_sem, ↓reduceIte, Nat.reduceEqDiff, Nat.reduceAdd, Int.reduceToNat, reduceCtorEq, Nat.reduceLeDiff, Nat.reduceSub, Nat.reduceDiv, Nat.reduceMod, Nat.reduceMul, d1275, gS, gn]
    refine Ev_loop0 (fun i => ⟨[(1, .int .i64 v), (7, .ref 3 0), (9, .int .i64 (A i : Nat)), (10, .int .i64 (B i : Nat)), (11, .int .i64 (i : Int))], [.row false [.int .i64 g.n, .sl 2 (prs g.E), .sl 1 (wcs g.W)], .dead, .dead, .row false [.int .i64 g.n, .vec 2 (prs E), .vec 1 (wos W)]], 0, [(0, 4, [1, 7, 9, 10, 11], [(7, 3)])]⟩) E.length (by rw [← ha, ← hb]; simp [ctE]) (fun i hi => ?_) ?_
    · have e := prs_fst hi
      have e' := prs_snd hi
      have e2 := e'
      rw [← prs_drop, List.drop_drop] at e2
      have r1 := ctE_succ (f := fun e => e.1) (v := v) hi
      have r2 := ctE_succ (f := fun e => e.2) (v := v) hi
      have l1 := ctE_le (fun e => e.1) v E i
      have l2 := ctE_le (fun e => e.2) v E i
      rw [ha] at r1 l1
      rw [hb] at r2 l2
      generalize E.getD i default = x at *
      by_cases c1 : x.1 = v <;> by_cases c2 : x.2 = v <;> simp only [c1, c2, if_true, if_false] at r1 r2 <;>
        simp (config := { maxSteps := 1000000 }) (disch := omega) only [go_sem, ↓reduceIte, Nat.reduceEqDiff, Nat.reduceAdd, Int.reduceToNat, reduceCtorEq, Nat.reduceLeDiff, Nat.reduceSub, Nat.reduceDiv, Nat.reduceMod, Nat.reduceMul, d1275_b0, e, e', e2, c1, c2, r1, r2]
    · simp (config := { maxSteps := 1000000 }) (disch := omega) only [go_sem, ↓reduceIte, Nat.reduceEqDiff, Nat.reduceAdd, Int.reduceToNat, reduceCtorEq, Nat.reduceLeDiff, Nat.reduceSub, Nat.reduceDiv, Nat.reduceMod, Nat.reduceMul, d1275_b0]
  | true =>
    simp only at gn
    simp (config := { maxSteps := 1000000 }) (disch := omega) only [go_sem, ↓reduceIte, Nat.reduceEqDiff, Nat.reduceAdd, Int.reduceToNat, reduceCtorEq, Nat.reduceLeDiff, Nat.reduceSub, Nat.reduceDiv, Nat.reduceMod, Nat.reduceMul, d1275, gS, gn]
    refine Ev_loop0 (fun i => ⟨[(1, .int .i64 v), (7, .ref 2 0), (9, .int .i64 (A i : Nat)), (10, .int .i64 (B i : Nat)), (11, .int .i64 (i : Int))], [.row false [.int .i64 g.n, .sl 2 (prs g.E), .sl 1 (wcs g.W)], .dead, .row false [.int .i64 g.n, .sl 2 (prs E), .vec 1 (wos W)]], 0, [(0, 3, [1, 7, 9, 10, 11], [(7, 2)])]⟩) E.length (by rw [← ha, ← hb]; simp [ctE]) (fun i hi => ?_) ?_
    · have e := prs_fst hi
      have e' := prs_snd hi
      have e2 := e'
      rw [← prs_drop, List.drop_drop] at e2
      have r1 := ctE_succ (f := fun e => e.1) (v := v) hi
      have r2 := ctE_succ (f := fun e => e.2) (v := v) hi
      have l1 := ctE_le (fun e => e.1) v E i
      have l2 := ctE_le (fun e => e.2) v E i
      rw [ha] at r1 l1
      rw [hb] at r2 l2
      generalize E.getD i default = x at *
      by_cases c1 : x.1 = v <;> by_cases c2 : x.2 = v <;> simp only [c1, c2, if_true, if_false] at r1 r2 <;>
        simp (config := { maxSteps := 1000000 }) (disch := omega) only [go_sem, ↓reduceIte, Nat.reduceEqDiff, Nat.reduceAdd, Int.reduceToNat, reduceCtorEq, Nat.reduceLeDiff, Nat.reduceSub, Nat.reduceDiv, Nat.reduceMod, Nat.reduceMul, d1275_b0, e, e', e2, c1, c2, r1, r2]
    · simp (config := { maxSteps := 1000000 }) (disch := omega) only [go_sem, ↓reduceIte, Nat.reduceEqDiff, Nat.reduceAdd, Int.reduceToNat, reduceCtorEq, Nat.reduceLeDiff, Nat.reduceSub, Nat.reduceDiv, Nat.reduceMod, Nat.reduceMul, d1275_b0]
end Go.Proofs.Ytmeakgiojhoofaa
