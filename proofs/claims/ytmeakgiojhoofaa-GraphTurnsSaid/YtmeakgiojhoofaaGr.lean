/- Layer 2: GraphTurns. -/
import Derived.Test.YtmeakgiojhoofaaGq
namespace Go.Proofs.Ytmeakgiojhoofaa
set_option linter.unusedSimpArgs false
set_option linter.unusedVariables false
set_option maxHeartbeats 4000000
set_option maxRecDepth 100000
theorem oG_w {g : Gr} {i : Nat} (hi : i < g.W.length) : (oG g).w i = g.w i := by
  show (List.getD (fW id g g.W.length) i none).getD [] = _
  rw [fW, List.getD_eq_getElem?_getD, List.getElem?_map, List.getElem?_range hi]; rfl
theorem oG_len (g : Gr) : (oG g).W.length = g.W.length := fW_len id g _
theorem oG_wl (g : Gr) : wl (oG g).W = wl g.W := by
  refine getD_all [] (by rw [wl_len, wl_len, oG_len]) fun i hi => ?_
  rw [wl_len, oG_len] at hi
  rw [wl_at, wl_at]
  exact oG_w hi
theorem oG_ok {g : Gr} (h : okG g) : okG (oG g) := ⟨h.n, h.e, by rw [oG_len]; exact h.w, fun i hi => by rw [oG_len] at hi; rw [oG_w hi]; exact h.r i hi, fun i hi => by rw [oG_len] at hi; rw [oG_w hi]; exact h.t i hi⟩
theorem oG_same (g : Gr) : sameB g (oG g) = true := by
  simp only [sameB, oG_wl, Bool.and_eq_true, decide_eq_true_eq]
  exact ⟨rfl, rfl, trivial⟩
theorem oG_okB (g : Gr) : okB (oG g) = okB g := by
  rw [Bool.eq_iff_iff, okB_iff, okB_iff]
  have e : ∀ i, i < g.W.length → (oG g).w i = g.w i := fun i hi => oG_w hi
  have e1 : (oG g).n = g.n := rfl
  have e2 : (oG g).E = g.E := rfl
  rw [oG_len, e1, e2]
  constructor
  · rintro ⟨a, b, c⟩; exact ⟨a, b, fun i hi => by rw [← e i hi]; exact c i hi⟩
  · rintro ⟨a, b, c⟩; exact ⟨a, b, fun i hi => by rw [e i hi]; exact c i hi⟩
theorem oG_nG (g : Gr) : nG (oG g) = nG g := nG_of rfl (fun e => Iff.rfl) (oG_len g) fun i hi s => by rw [oG_len] at hi; rw [oG_w hi]
theorem oG_turn (g : Gr) : oG (turnG g) = turnG (oG g) := rfl
theorem oG_deg (g : Gr) (v : Int) : degA (oG g) v = degA g v := by rw [degA, degA, oG_okB]; rfl
theorem oG_nrm2 (g : Gr) (b : Bool) : nrm2A (oG g) b = nrm2A g b := by
  have e := oG_nG g
  simp only [nG, Gr.mk.injEq] at e
  obtain ⟨e1, e2, e3⟩ := e
  rw [nrm2A, nrm2A, oG_okB]
  cases b <;> simp only [nrmV, gV, e1, e2, e3]
theorem nrm2_cases (g : Gr) (b : Bool) : nrm2A g b = .tup [.agg (gV (tG g).n (tG g).E (tG g).W), .int .i64 (codeA g)] ∨ nrm2A g b = .tup [.agg [.int .i64 (tG g).n, .sl 2 (prs (tG g).E), .vec 1 (wos (tG g).W)], .int .i64 (codeA g)] := by
  unfold nrm2A tG codeA
  cases c : okB g with
  | false => exact .inl rfl
  | true => cases b with
    | false => exact .inl rfl
    | true => exact .inr rfl
theorem degA_tup (g : Gr) (v : Int) : ∃ a b : Nat, ∃ c, degA g v = .tup [.int .i64 a, .int .i64 b, .bool c] := by
  unfold degA
  split
  · exact ⟨_, _, _, rfl⟩
  · exact ⟨0, 0, false, rfl⟩
theorem oG_isB (g : Gr) : isB (oG g) = isB g := by
  have e : wAsc (oG g) = wAsc g := by
    by_cases c : ∀ i, i < g.W.length → asc ltS (g.w i)
    · rw [wAsc_yes c, wAsc_yes fun i hi => by rw [oG_len] at hi; rw [oG_w hi]; exact c i hi]
    · rw [wAsc_no c, wAsc_no fun h => c fun i hi => by rw [← oG_w hi]; exact h i (by rw [oG_len]; exact hi)]
  unfold isB
  rw [oG_okB, e]; rfl
theorem turns_run {g : Gr} {v : Int} (hf : gFit g) : runP tab 1259 [.agg (gS g), .int .i64 v] [] = some (.bool true, []) := by
  refine runP_fn t1259 rfl ?_
  have gb := bigG_run hf
  have gg := graphs_run
  cases hb : bigB g with
  | true =>
    rw [hb] at gb
    simp only [gS] at gb
    simp (config := { maxSteps := 1000000 }) (disch := omega) only [go_sem, ↓reduceIte, Nat.reduceEqDiff, Nat.reduceAdd, Int.reduceToNat, reduceCtorEq, Nat.reduceLeDiff, Nat.reduceSub, Nat.reduceDiv, Nat.reduceMod, Nat.reduceMul, d1259, gS, gb]
  | false =>
    rw [hb] at gb
    have hg := bigB_ok hf hb
    have ho := oG_ok hg
    have go := own_run hg
    have gt := turned_run hg
    obtain ⟨b, gt2⟩ := turned2_run ho
    rw [← oG_turn, oG_nrm2] at gt2
    rw [nrmA_eq] at gt
    have gd := deg_run hg (v := v)
    have gd2 := deg2_run ho (v := v)
    rw [oG_deg] at gd2
    obtain ⟨x, y, z, hd⟩ := degA_tup g v
    rw [hd] at gd gd2
    have htok := tG_ok (turnG_ok hg)
    have s1 := sameG_run htok htok
    rw [sameB_self] at s1
    have s2 := sameG_run hg ho
    rw [oG_same] at s2
    have hc := nrm2_cases (turnG g) b
    have hl : (tG (turnG g)).W.length ≤ 250 := htok.w
    have hl2 : (tG (turnG g)).E.length ≤ 2100 := htok.e
    have hl3 : (oG g).W.length ≤ 250 := ho.w
    have hl4 : (oG g).E.length ≤ 2100 := ho.e
    clear htok ho hd
    generalize tG (turnG g) = N at *
    generalize oG g = O at *
    generalize nrm2A (turnG g) b = A at *
    generalize codeA (turnG g) = cd at *
    obtain ⟨n1, E1, W1⟩ := N
    obtain ⟨n2, E2, W2⟩ := O
    simp only [gS, gV] at gb go gt gt2 gd gd2 s1 s2 hl hl2 hl3 hl4 hc
    rcases hc with rfl | rfl
    · simp (config := { maxSteps := 1000000 }) (disch := omega) only [go_sem, ↓reduceIte, Nat.reduceEqDiff, Nat.reduceAdd, Int.reduceToNat, reduceCtorEq, Nat.reduceLeDiff, Nat.reduceSub, Nat.reduceDiv, Nat.reduceMod, Nat.reduceMul, d1259, gS, gb, gg, go, gt, gt2, gd, gd2, s1, s2]
    · simp (config := { maxSteps := 1000000 }) (disch := omega) only [go_sem, ↓reduceIte, Nat.reduceEqDiff, Nat.reduceAdd, Int.reduceToNat, reduceCtorEq, Nat.reduceLeDiff, Nat.reduceSub, Nat.reduceDiv, Nat.reduceMod, Nat.reduceMul, d1259, gS, gb, gg, go, gt, gt2, gd, gd2, s1, s2]
end Go.Proofs.Ytmeakgiojhoofaa
