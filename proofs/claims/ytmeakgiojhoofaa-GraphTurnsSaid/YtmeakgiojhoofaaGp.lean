/- Graphs by definition: the normal one, one's own. -/
import Derived.Test.YtmeakgiojhoofaaGo
namespace Go.Proofs.Ytmeakgiojhoofaa
set_option linter.unusedSimpArgs false
set_option linter.unusedVariables false
set_option maxHeartbeats 4000000
set_option maxRecDepth 100000
theorem otx_run {l : List Txt} (hl : l.length ≤ 1000) : runP tab 1276 [.sl 1 (strs l)] [] = some (.vec 1 (strs l), []) := by
  refine runP_fn t1276 rfl ?_
  simp (config := { maxSteps := 1000000 }) (disch := omega) only [go_sem, ↓reduceIte, Nat.reduceEqDiff, Nat.reduceAdd, Int.reduceToNat, reduceCtorEq, Nat.reduceLeDiff, Nat.reduceSub, Nat.reduceDiv, Nat.reduceMod, Nat.reduceMul, d1276, strs_length]
def fW (f : List Txt → List Txt) (g : Gr) (i : Nat) : Wds := (List.range i).map fun j => some (f (g.w j))
theorem fW_succ (f : List Txt → List Txt) (g : Gr) (i : Nat) : fW f g (i + 1) = fW f g i ++ [some (f (g.w i))] := by simp [fW, List.range_succ]
theorem fW_len (f : List Txt → List Txt) (g : Gr) (i : Nat) : (fW f g i).length = i := by simp [fW]
theorem wos_snoc (W : Wds) (l : List Txt) : wos W ++ [.vec 1 (strs l)] = wos (W ++ [some l]) := by simp [wos, wo]
def dnE (E : List Ed) (i : Nat) : List Ed := nrmL ltE (E.take i)
def evE (E : List Ed) : Nat → AV
  | 0 => .nils
  | i + 1 => .sl 2 (prs (dnE E (i + 1)))
def n2S (g : Gr) (i : Nat) : St := ⟨[(1, .ref 0 0), (2, .ref 1 0), (4, .ref 2 0), (5, .int .i64 (i : Int))], [.row false [.int .i64 g.n, .sl 2 (prs g.E), .sl 1 (wcs g.W)], .row false [.int .i64 0, .nils, .nils], .row false [.int .i64 g.n, evE g.E i, .nils]], 0, [(0, 3, [1, 2, 4, 5], [(1, 0), (2, 1), (4, 2)])]⟩
theorem dnE_len (E : List Ed) (i : Nat) : (dnE E i).length ≤ E.length := by
  have := nrm_len (lt := ltE) (E.take i)
  rw [List.length_take] at this
  show (nrmL ltE (E.take i)).length ≤ _
  omega
theorem n2_step {g : Gr} (hl : g.E.length ≤ 2100) {i : Nat} (hi : i < g.E.length) : Ev tab d1266_b0 (n2S g i) (fun x st => x = .normal ∧ st = n2S g (i + 1)) := by
  have ex := prs_at hi
  have es : dnE g.E (i + 1) = nrmL ltE (dnE g.E i ++ [g.E.getD i default]) := by rw [dnE, dnE, nrm_snoc ordrE, take_snoc default hi]
  have dl := dnE_len g.E i
  have ha : asc ltE (dnE g.E i) := nrm_asc ordrE _
  have gp := put_run (l := dnE g.E i) (x := g.E.getD i default) (by omega) ha
  unfold putA at gp
  rw [← es] at gp
  have ev : evE g.E (i + 1) = .sl 2 (prs (dnE g.E (i + 1))) := rfl
  cases i with
  | zero =>
    have e0 : dnE g.E 0 = [] := nrm_of_asc ordrE .nil
    rw [e0] at es
    have e1 : dnE g.E 1 = [g.E.getD 0 default] := by
      rw [show (1 : Nat) = 0 + 1 from rfl, es]; exact nrm_of_asc ordrE (by simp [asc])
    simp only [Nat.zero_add] at ev
    rw [e1] at ev
    rw [List.drop_zero] at ex
    have gq := put_nil (x := g.E.getD 0 default)
    simp only [n2S]
    rw [ev]
    generalize g.E.getD 0 default = x at *
    simp (config := { maxSteps := 1000000 }) (disch := omega) only [go_sem, ↓reduceIte, Nat.reduceEqDiff, Nat.reduceAdd, Int.reduceToNat, reduceCtorEq, Nat.reduceLeDiff, Nat.reduceSub, Nat.reduceDiv, Nat.reduceMod, Nat.reduceMul, d1266_b0, n2S, evE, ex, gq]
  | succ j =>
    have ev0 : evE g.E (j + 1) = .sl 2 (prs (dnE g.E (j + 1))) := rfl
    simp only [n2S]
    rw [ev, ev0]
    generalize j + 1 = i at *
    generalize dnE g.E i = d at *
    generalize dnE g.E (i + 1) = d' at *
    generalize g.E.getD i default = x at *
    simp (config := { maxSteps := 1000000 }) (disch := omega) only [go_sem, ↓reduceIte, Nat.reduceEqDiff, Nat.reduceAdd, Int.reduceToNat, reduceCtorEq, Nat.reduceLeDiff, Nat.reduceSub, Nat.reduceDiv, Nat.reduceMod, Nat.reduceMul, d1266_b0, ex, gp]
def n3S (g : Gr) (v : AV) (i : Nat) : St := ⟨[(1, .ref 0 0), (2, .ref 1 0), (4, .ref 2 0), (7, .int .i64 (i : Int))], [.row false [.int .i64 g.n, .sl 2 (prs g.E), .sl 1 (wcs g.W)], .row false [.int .i64 0, .nils, .nils], .row false [.int .i64 g.n, v, .vec 1 (wos (fW (nrmL ltS) g i))]], 0, [(1, 3, [1, 2, 4, 7], [(1, 0), (2, 1), (4, 2)]), (0, 3, [1, 2, 4, 5], [(1, 0), (2, 1), (4, 2)])]⟩
theorem n3_step {g : Gr} (hg : okG g) (c4 : (g.W.length : Int) = g.n) {v : AV} (hv : v = .nils ∨ ∃ d, v = .sl 2 (prs d)) {i : Nat} (hi : i < g.W.length) : Ev tab d1266_b1 (n3S g v i) (fun x st => x = .normal ∧ st = n3S g v (i + 1)) := by
  have e := wcs_at hi
  have hw := hg.w
  have hi' : (i : Int) < g.n := by omega
  have gs := texts2_run (l := g.w i) (by have := hg.r i hi; omega)
  have es := fW_succ (nrmL ltS) g i
  have el := fW_len (nrmL ltS) g i
  have ew : g.w i = (g.W.getD i none).getD [] := rfl
  simp only [n3S]
  rw [es]
  rw [ew] at gs ⊢
  generalize fW (nrmL ltS) g i = W' at *
  rcases hv with rfl | ⟨d, rfl⟩
  all_goals
    cases hx : g.W.getD i none with
    | none =>
      rw [hx] at e gs
      simp only [Option.getD_none, strs0] at gs ⊢
      generalize nrmL ltS [] = z at *
      simp (config := { maxSteps := 1000000 }) (disch := omega) only [go_sem, ↓reduceIte, Nat.reduceEqDiff, Nat.reduceAdd, Int.reduceToNat, reduceCtorEq, Nat.reduceLeDiff, Nat.reduceSub, Nat.reduceDiv, Nat.reduceMod, Nat.reduceMul, d1266_b1, e, wc, gs, hi', el, wos_snoc]
    | some l =>
      rw [hx] at e gs
      simp only [Option.getD_some] at gs ⊢
      generalize nrmL ltS l = z at *
      simp (config := { maxSteps := 1000000 }) (disch := omega) only [go_sem, ↓reduceIte, Nat.reduceEqDiff, Nat.reduceAdd, Int.reduceToNat, reduceCtorEq, Nat.reduceLeDiff, Nat.reduceSub, Nat.reduceDiv, Nat.reduceMod, Nat.reduceMul, d1266_b1, e, wc, gs, hi', el, wos_snoc, strs_noid']
def nrmV (g : Gr) : Bool → AV
  | true => .tup [.agg [.int .i64 g.n, .sl 2 (prs (nrmL ltE g.E)), .vec 1 (wos ((nrmW g).map some))], .int .i64 0]
  | false => .tup [.agg (gV g.n (nrmL ltE g.E) ((nrmW g).map some)), .int .i64 0]
theorem norm2_run {g : Gr} (hg : okG g) (c : okB g = true) : ∃ b, runP tab 1266 [.agg (gS g)] [] = some (nrmV g b, []) := by
  have gc := gck2_run hg
  have he := hg.e
  have hw := hg.w
  obtain ⟨h1, h2, h3, h4⟩ := okB_n c
  rw [c] at gc
  simp only [gS] at gc
  have eE : dnE g.E g.E.length = nrmL ltE g.E := by rw [dnE, List.take_length]
  have eW : fW (nrmL ltS) g g.W.length = (nrmW g).map some := by simp [fW, nrmW, Function.comp_def]
  have hev : evE g.E g.E.length = .nils ∧ nrmL ltE g.E = [] ∨ evE g.E g.E.length = .sl 2 (prs (nrmL ltE g.E)) := by
    cases hn : g.E.length with
    | zero => exact .inl ⟨rfl, by rw [List.length_eq_zero_iff.1 hn]; exact nrm_of_asc ordrE .nil⟩
    | succ n =>
      refine .inr ?_
      rw [← eE, hn]; rfl
  have fin : ∀ v b, evE g.E g.E.length = v → (v = .nils ∧ nrmL ltE g.E = [] ∧ b = false ∨ v = .sl 2 (prs (nrmL ltE g.E)) ∧ b = true) → runP tab 1266 [.agg (gS g)] [] = some (nrmV g b, []) := fun v b ev hv => by
    refine runP_fn t1266 rfl ?_
    simp (config := { maxSteps := 1000000 }) (disch := omega) only [go_sem, ↓reduceIte, Nat.reduceEqDiff, Nat.reduceAdd, Int.reduceToNat, reduceCtorEq, Nat.reduceLeDiff, Nat.reduceSub, Nat.reduceDiv, Nat.reduceMod, Nat.reduceMul, d1266, gS, gc]
    refine Ev_loop0 (n2S g) g.E.length (by simp [n2S, evE]) (fun i hi => n2_step he hi) ?_
    simp only [n2S]
    rw [ev]
    have hst := fun (i : Nat) (hi : i < g.W.length) => n3_step hg h4 (v := v) (by rcases hv with ⟨e, _⟩ | ⟨e, _⟩; exact .inl e; exact .inr ⟨_, e⟩) hi
    simp only [n3S] at hst
    unfold nrmV
    have q0 : fW (nrmL ltS) g 0 = [] := rfl
    generalize nrmL ltE g.E = E' at *
    generalize (nrmW g).map some = W' at *
    rcases hv with ⟨rfl, rfl, rfl⟩ | ⟨rfl, rfl⟩
    all_goals
      simp (config := { maxSteps := 1000000 }) (disch := omega) only [go_sem, ↓reduceIte, Nat.reduceEqDiff, Nat.reduceAdd, Int.reduceToNat, reduceCtorEq, Nat.reduceLeDiff, Nat.reduceSub, Nat.reduceDiv, Nat.reduceMod, Nat.reduceMul, d1266_b0]
      refine Ev_loop0 (n3S g _) g.W.length (by simp only [n3S, q0]; rfl) (fun i hi => by simp only [n3S]; exact hst i hi) ?_
      simp only [n3S]
      rw [eW]
      simp (config := { maxSteps := 1000000 }) (disch := omega) only [go_sem, ↓reduceIte, Nat.reduceEqDiff, Nat.reduceAdd, Int.reduceToNat, reduceCtorEq, Nat.reduceLeDiff, Nat.reduceSub, Nat.reduceDiv, Nat.reduceMod, Nat.reduceMul, d1266_b1, h4, gV]
      first | done | rfl
  rcases hev with ⟨e, z⟩ | e
  · exact ⟨false, fin _ _ e (.inl ⟨rfl, z, rfl⟩)⟩
  · exact ⟨true, fin _ _ e (.inr ⟨rfl, rfl⟩)⟩
end Go.Proofs.Ytmeakgiojhoofaa
