/- Layer 2: GraphNormal. -/
import Derived.Test.YtmeakgiojhoofaaGr
namespace Go.Proofs.Ytmeakgiojhoofaa
set_option linter.unusedSimpArgs false
set_option linter.unusedVariables false
set_option maxHeartbeats 4000000
set_option maxRecDepth 100000
def smE (E : List Ed) : Nat → List Ed
  | 0 => E
  | i + 1 => (smE E i).set i (-7, ((smE E i).getD i default).2)
theorem smE_len (E : List Ed) : ∀ i, (smE E i).length = E.length
  | 0 => rfl
  | i + 1 => by rw [smE, List.length_set, smE_len E i]
theorem prs_set1 (a : Int) : ∀ (l : List Ed) (i : Nat), (prs l).set (i * 2) (.int .i64 a) = prs (l.set i (a, (l.getD i default).2))
  | [], i => by simp [prs]
  | e :: l, 0 => rfl
  | e :: l, i + 1 => by
    rw [prs_cons, show (i + 1) * 2 = i * 2 + 1 + 1 by omega, List.set_cons_succ, List.set_cons_succ, prs_set1 a l i]; rfl
def smR (s : Txt) (l : List Txt) : Nat → List Txt
  | 0 => l
  | k + 1 => (smR s l k).set k s
theorem smR_len (s : Txt) (l : List Txt) : ∀ i, (smR s l i).length = l.length
  | 0 => rfl
  | i + 1 => by rw [smR, List.length_set, smR_len s l i]
def smV (s : Txt) (V : List (List Txt)) : Nat → List (List Txt)
  | 0 => V
  | i + 1 => (smV s V i).set i (smR s ((smV s V i).getD i []) ((smV s V i).getD i []).length)
theorem smV_len (s : Txt) (V : List (List Txt)) : ∀ i, (smV s V i).length = V.length
  | 0 => rfl
  | i + 1 => by rw [smV, List.length_set, smV_len s V i]
theorem smV_rl (s : Txt) (V : List (List Txt)) (j : Nat) : ∀ i, ((smV s V i).getD j []).length = (V.getD j []).length
  | 0 => rfl
  | i + 1 => by
    rw [← smV_rl s V j i, smV]
    by_cases e : i = j
    · subst e
      by_cases h : i < (smV s V i).length
      · rw [List.getD_eq_getElem?_getD, List.getElem?_set_self h, Option.getD_some, smR_len]
      · rw [List.set_eq_of_length_le (by omega)]
    · rw [List.getD_eq_getElem?_getD, List.getElem?_set_ne e, ← List.getD_eq_getElem?_getD]
theorem wos_cut {V : List (List Txt)} {i : Nat} (h : i < V.length) : ((wos (V.map some)).drop i).take 1 = [.vec 1 (strs (V.getD i []))] := by
  rw [List.drop_eq_getElem_cons (by rw [wos_len, List.length_map]; exact h), List.take_succ_cons, List.take_zero, List.getD_eq_getElem?_getD, List.getElem?_eq_getElem h]
  simp [wos, wo]
theorem set_cut {X : List AV} {i : Nat} {x : AV} (h : i < X.length) : ((X.set i x).drop i).take 1 = [x] := by
  rw [List.drop_eq_getElem_cons (by rw [List.length_set]; exact h), List.take_succ_cons, List.take_zero, List.getElem_set_self]
theorem wos_pk (n : Nat) (hp : List Blk) : ∀ V : List (List Txt), pkL n hp (wos (V.map some)) = some (wos (V.map some), hp)
  | [] => rfl
  | l :: V => by
    have e : wos ((l :: V).map some) = .vec 1 (strs l) :: wos (V.map some) := rfl
    rw [e, pkL, show pk n hp (.vec 1 (strs l)) = some (.vec 1 (strs l), hp) from rfl, Option.bind_some, wos_pk n hp V]; rfl
theorem own_pk {n m : Nat} {hp : List Blk} {l : List Txt} (hm : n ≤ m) (h : hp[m]? = some (.row false (strs l))) : ∀ (V : List (List Txt)) (i : Nat), i < V.length → pkL n hp ((wos (V.map some)).set i (.own 1 m)) = some ((wos (V.map some)).set i (.vec 1 (strs l)), hp.set m .dead)
  | [], i, hi => absurd hi (Nat.not_lt_zero _)
  | v :: V, 0, _ => by
    have e : (wos ((v :: V).map some)).set 0 (.own 1 m) = .own 1 m :: wos (V.map some) := rfl
    have e2 : pk n hp (.own 1 m) = some (.vec 1 (strs l), hp.set m .dead) := by
      have := strs_noid l
      simp only [pk, h, if_neg (show ¬ m < n by omega)]
      simp [this, strs_noinl]
    rw [e, pkL, e2, Option.bind_some, wos_pk]; rfl
  | v :: V, i + 1, hi => by
    have e : (wos ((v :: V).map some)).set (i + 1) (.own 1 m) = .vec 1 (strs v) :: (wos (V.map some)).set i (.own 1 m) := rfl
    rw [e, pkL, show pk n hp (.vec 1 (strs v)) = some (.vec 1 (strs v), hp) from rfl, Option.bind_some, own_pk hm h V i (by simpa using hi)]; rfl
theorem own_lt {n m : Nat} (hm : n ≤ m) : ∀ (X : List AV) (i : Nat), i < X.length → allL (pidlt n) (X.set i (.own 1 m)) = false
  | [], i, hi => absurd hi (Nat.not_lt_zero _)
  | x :: X, 0, _ => by
    rw [List.set_cons_zero, allL]
    have : AV.allv (pidlt n) (.own 1 m) = false := by simp [AV.allv, pidlt, AV.idof]; omega
    rw [this]; rfl
  | x :: X, i + 1, hi => by rw [List.set_cons_succ, allL, own_lt hm X i (by simpa using hi), Bool.and_false]
theorem set_getD (V : List (List Txt)) (i : Nat) : V.set i (V.getD i []) = V := by
  by_cases h : i < V.length
  · rw [List.getD_eq_getElem?_getD, List.getElem?_eq_getElem h]
    exact List.set_getElem_self h
  · exact List.set_eq_of_length_le (by omega)
theorem normal_run {g : Gr} {s : Txt} (hf : gFit g) (hs : s.length ≤ 9223372036854775807) : runP tab 1258 [.agg (gS g), .str s] [] = some (.bool true, []) := by
  refine runP_fn t1258 rfl ?_
  have gb := bigG_run hf
  have gg := graphs_run
  cases hb : bigB g with
  | true =>
    rw [hb] at gb
    simp only [gS] at gb
    simp (config := { maxSteps := 1000000 }) (disch := omega) only [go_sem, ↓reduceIte, Nat.reduceEqDiff, Nat.reduceAdd, Int.reduceToNat, reduceCtorEq, Nat.reduceLeDiff, Nat.reduceSub, Nat.reduceDiv, Nat.reduceMod, Nat.reduceMul, d1258, gS, gb]
  | false =>
    rw [hb] at gb
    by_cases h100 : 100 < s.length
    case pos =>
      simp only [gS] at gb
      simp (config := { maxSteps := 1000000 }) (disch := omega) only [go_sem, ↓reduceIte, Nat.reduceEqDiff, Nat.reduceAdd, Int.reduceToNat, reduceCtorEq, Nat.reduceLeDiff, Nat.reduceSub, Nat.reduceDiv, Nat.reduceMod, Nat.reduceMul, d1258, gS, gb]
    have hg := bigB_ok hf hb
    have ho := oG_ok hg
    have go := own_run hg
    have gt := norm_run hg
    obtain ⟨b, gt2⟩ := normal2_run ho
    rw [oG_nrm2] at gt2
    rw [nrmA_eq] at gt
    have htok := tG_ok hg
    have s1 := sameG_run htok htok
    rw [sameB_self] at s1
    have s2 := sameG_run hg ho
    rw [oG_same] at s2
    have k1 := gck_run hg
    have k2 := gck2_run ho
    rw [oG_okB] at k2
    have i1 := isg_run hg
    have i2 := is2_run ho
    rw [oG_isB] at i2
    have w1 := word_run (s := s) (by omega)
    have w2 := word2_run (s := s) (by omega)
    have hc := nrm2_cases g b
    have hl : (tG g).W.length ≤ 250 := htok.w
    have hl2 : (tG g).E.length ≤ 2100 := htok.e
    have hr := htok.r
    have hl3 : (oG g).W.length ≤ 250 := ho.w
    have hl4 : (oG g).E.length ≤ 2100 := ho.e
    obtain ⟨V, hV⟩ := tG_W g
    clear htok ho
    generalize tG g = N at *
    generalize oG g = O at *
    generalize nrm2A g b = A at *
    generalize codeA g = cd at *
    generalize okB g = q1 at *
    generalize isB g = q2 at *
    generalize wordB s = q3 at *
    obtain ⟨n1, E1, W1⟩ := N
    obtain ⟨n2, E2, W2⟩ := O
    simp only at hV
    subst hV
    simp only [gS, gV] at gb go gt gt2 s1 s2 k1 k2 i1 i2 hl hl2 hl3 hl4 hc
    have vl0 : V.length ≤ 250 := by simpa using hl
    have hvr : ∀ i, i < V.length → (V.getD i []).length ≤ 20 := fun i hi => by
      have := hr i (by simpa using hi)
      simp only [Gr.w, List.getD_eq_getElem?_getD, List.getElem?_map, List.getElem?_eq_getElem hi] at this ⊢
      exact this
    rcases hc with rfl | rfl
    · simp (config := { maxSteps := 1000000 }) (disch := omega) only [go_sem, ↓reduceIte, Nat.reduceEqDiff, Nat.reduceAdd, Int.reduceToNat, reduceCtorEq, Nat.reduceLeDiff, Nat.reduceSub, Nat.reduceDiv, Nat.reduceMod, Nat.reduceMul, d1258, gS, gb, gg, go, gt, gt2, s1, s2, k1, k2, i1, i2, w1, w2]
      refine Ev_loop0 (fun i => ⟨[(2, .ref 0 0), (5, .ref 3 0), (6, .ref 6 0), (10, .bool true), (11, .int .i64 (i : Int))], [.row false [.int .i64 g.n, .sl 2 (prs g.E), .sl 1 (wcs g.W)], .dead, .dead, .row false [.int .i64 n2, .own 2 7, .own 1 8], .dead, .dead, .row false [.int .i64 n1, .own 2 14, .own 1 15], .row false (prs E2), .row false (wos W2), .dead, .dead, .row false [.int .i64 n1, .own 2 12, .own 1 13], .row false (prs E1), .row false (wos (V.map some)), .row false (prs (smE E1 i)), .row false (wos (V.map some))], 0, [(0, 16, [2, 5, 6, 10, 11], [(2, 0), (5, 3), (6, 6)])]⟩) E1.length rfl (fun i hi => ?_) ?_
      · have sl := smE_len E1 i
        have p1 := prs_set1 (-7) (smE E1 i) i
        have e1 : smE E1 (i + 1) = (smE E1 i).set i (-7, ((smE E1 i).getD i default).2) := rfl
        rw [← e1] at p1
        simp (config := { maxSteps := 1000000 }) (disch := omega) only [go_sem, ↓reduceIte, Nat.reduceEqDiff, Nat.reduceAdd, Int.reduceToNat, reduceCtorEq, Nat.reduceLeDiff, Nat.reduceSub, Nat.reduceDiv, Nat.reduceMod, Nat.reduceMul, d1258_b0, sl, p1]
      · have sl := smE_len E1 E1.length
        generalize smE E1 E1.length = E3 at *
        simp (config := { maxSteps := 1000000 }) (disch := omega) only [go_sem, ↓reduceIte, Nat.reduceEqDiff, Nat.reduceAdd, Int.reduceToNat, reduceCtorEq, Nat.reduceLeDiff, Nat.reduceSub, Nat.reduceDiv, Nat.reduceMod, Nat.reduceMul, d1258_b0, sl]
        refine Ev_loop0 (fun i => ⟨[(2, .ref 0 0), (5, .ref 3 0), (6, .ref 6 0), (10, .bool true), (12, .int .i64 (i : Int))], [.row false [.int .i64 g.n, .sl 2 (prs g.E), .sl 1 (wcs g.W)], .dead, .dead, .row false [.int .i64 n2, .own 2 7, .own 1 8], .dead, .dead, .row false [.int .i64 n1, .own 2 14, .own 1 15], .row false (prs E2), .row false (wos W2), .dead, .dead, .row false [.int .i64 n1, .own 2 12, .own 1 13], .row false (prs E1), .row false (wos (V.map some)), .row false (prs E3), .row false (wos ((smV [115, 109, 117, 100, 103, 101] V i).map some))], 0, [(1, 16, [2, 5, 6, 10, 12], [(2, 0), (5, 3), (6, 6)]), (0, 16, [2, 5, 6, 10, 11], [(2, 0), (5, 3), (6, 6)])]⟩) V.length rfl (fun i hi => ?_) ?_
        · have vl := smV_len [115, 109, 117, 100, 103, 101] V i
          have kl := smV_rl [115, 109, 117, 100, 103, 101] V i i
          have vr := hvr i hi
          have e1 : smV [115, 109, 117, 100, 103, 101] V (i + 1) = (smV [115, 109, 117, 100, 103, 101] V i).set i (smR [115, 109, 117, 100, 103, 101] ((smV [115, 109, 117, 100, 103, 101] V i).getD i []) ((smV [115, 109, 117, 100, 103, 101] V i).getD i []).length) := rfl
          rw [e1]
          generalize smV [115, 109, 117, 100, 103, 101] V i = V' at *
          generalize hx : V'.getD i [] = l at *
          simp (config := { maxSteps := 1000000 }) (disch := omega) only [go_sem, ↓reduceIte, Nat.reduceEqDiff, Nat.reduceAdd, Int.reduceToNat, reduceCtorEq, Nat.reduceLeDiff, Nat.reduceSub, Nat.reduceDiv, Nat.reduceMod, Nat.reduceMul, d1258_b1, List.length_map]
          refine Ev_loop0 (fun k => ⟨[(2, .ref 0 0), (5, .ref 3 0), (6, .ref 6 0), (10, .bool true), (12, .int .i64 (i : Int)), (13, .int .i64 (k : Int))], [.row false [.int .i64 g.n, .sl 2 (prs g.E), .sl 1 (wcs g.W)], .dead, .dead, .row false [.int .i64 n2, .own 2 7, .own 1 8], .dead, .dead, .row false [.int .i64 n1, .own 2 14, .own 1 15], .row false (prs E2), .row false (wos W2), .dead, .dead, .row false [.int .i64 n1, .own 2 12, .own 1 13], .row false (prs E1), .row false (wos (V.map some)), .row false (prs E3), .row false (wos ((V'.set i (smR [115, 109, 117, 100, 103, 101] l k)).map some))], 0, [(2, 16, [2, 5, 6, 10, 12, 13], [(2, 0), (5, 3), (6, 6)]), (1, 16, [2, 5, 6, 10, 12], [(2, 0), (5, 3), (6, 6)]), (0, 16, [2, 5, 6, 10, 11], [(2, 0), (5, 3), (6, 6)])]⟩) l.length (by simp only [smR, ← hx, set_getD]; rfl) (fun k hk => ?_) ?_
          · have rl := smR_len [115, 109, 117, 100, 103, 101] l k
            have e2 : smR [115, 109, 117, 100, 103, 101] l (k + 1) = (smR [115, 109, 117, 100, 103, 101] l k).set k [115, 109, 117, 100, 103, 101] := rfl
            rw [e2]
            generalize smR [115, 109, 117, 100, 103, 101] l k = l' at *
            have cut := wos_cut (V := V'.set i l') (i := i) (by rw [List.length_set]; omega)
            rw [show (V'.set i l').getD i [] = l' by rw [List.getD_eq_getElem?_getD, List.getElem?_set_self (by omega)]; rfl] at cut
            have xl : (wos ((V'.set i l').map some)).length = V'.length := by rw [wos_len, List.length_map, List.length_set]
            have er := set_rdc (l := wos ((V'.set i l').map some)) (u := i) (x := .own 1 16) (by omega)
            have fin : (wos ((V'.set i l').map some)).set i (.vec 1 (strs (l'.set k [115, 109, 117, 100, 103, 101]))) = wos ((V'.set i (l'.set k [115, 109, 117, 100, 103, 101])).map some) := by
              rw [wos_set]; congr 1
              rw [← List.map_set, List.set_set]
            have cut2 := set_cut (X := wos ((V'.set i l').map some)) (i := i) (x := .own 1 16) (by omega)
            have ol := own_lt (n := 16) (m := 16) (by omega) (wos ((V'.set i l').map some)) i (by omega)
            have op := own_pk (n := 16) (m := 16) (hp := [.row false [.int .i64 g.n, .sl 2 (prs g.E), .sl 1 (wcs g.W)], .dead, .dead, .row false [.int .i64 n2, .own 2 7, .own 1 8], .dead, .dead, .row false [.int .i64 n1, .own 2 14, .own 1 15], .row false (prs E2), .row false (wos W2), .dead, .dead, .row false [.int .i64 n1, .own 2 12, .own 1 13], .row false (prs E1), .row false (wos (V.map some)), .row false (prs E3), .dead, .row false (strs (l'.set k [115, 109, 117, 100, 103, 101]))]) (by omega) rfl (V'.set i l') i (by rw [List.length_set]; omega)
            rw [fin] at op
            simp only [List.set_cons_succ, List.set_cons_zero] at op
            generalize wos ((V'.set i l').map some) = X at *
            simp (config := { maxSteps := 1000000 }) (disch := omega) only [go_sem, ↓reduceIte, Nat.reduceEqDiff, Nat.reduceAdd, Int.reduceToNat, reduceCtorEq, Nat.reduceLeDiff, Nat.reduceSub, Nat.reduceDiv, Nat.reduceMod, Nat.reduceMul, d1258_b2, cut, cut2, ol, op, xl, er, strs_length, strs_set, List.set_set]
          · have rl := smR_len [115, 109, 117, 100, 103, 101] l l.length
            generalize smR [115, 109, 117, 100, 103, 101] l l.length = l' at *
            have cut := wos_cut (V := V'.set i l') (i := i) (by rw [List.length_set]; omega)
            rw [show (V'.set i l').getD i [] = l' by rw [List.getD_eq_getElem?_getD, List.getElem?_set_self (by omega)]; rfl] at cut
            have xl : (wos ((V'.set i l').map some)).length = V'.length := by rw [wos_len, List.length_map, List.length_set]
            have er := set_rdc (l := wos ((V'.set i l').map some)) (u := i) (x := .own 1 16) (by omega)
            have fin : (wos ((V'.set i l').map some)).set i (.vec 1 (strs l')) = wos ((V'.set i l').map some) := by
              rw [wos_set]; congr 1
              rw [← List.map_set, List.set_set]
            have cut2 := set_cut (X := wos ((V'.set i l').map some)) (i := i) (x := .own 1 16) (by omega)
            have ol := own_lt (n := 16) (m := 16) (by omega) (wos ((V'.set i l').map some)) i (by omega)
            have op := own_pk (n := 16) (m := 16) (hp := [.row false [.int .i64 g.n, .sl 2 (prs g.E), .sl 1 (wcs g.W)], .dead, .dead, .row false [.int .i64 n2, .own 2 7, .own 1 8], .dead, .dead, .row false [.int .i64 n1, .own 2 14, .own 1 15], .row false (prs E2), .row false (wos W2), .dead, .dead, .row false [.int .i64 n1, .own 2 12, .own 1 13], .row false (prs E1), .row false (wos (V.map some)), .row false (prs E3), .dead, .row false (strs l')]) (by omega) rfl (V'.set i l') i (by rw [List.length_set]; omega)
            rw [fin] at op
            simp only [List.set_cons_succ, List.set_cons_zero] at op
            have xo := wos_okc ((V'.set i l').map some)
            have xi := wos_idlt' 16 ((V'.set i l').map some)
            generalize wos ((V'.set i l').map some) = X at *
            simp (config := { maxSteps := 1000000 }) (disch := omega) only [go_sem, ↓reduceIte, Nat.reduceEqDiff, Nat.reduceAdd, Int.reduceToNat, reduceCtorEq, Nat.reduceLeDiff, Nat.reduceSub, Nat.reduceDiv, Nat.reduceMod, Nat.reduceMul, d1258_b2, xo, xi, cut, cut2, ol, op, xl, er, strs_length, strs_set, List.set_set]
        · have vl := smV_len [115, 109, 117, 100, 103, 101] V V.length
          generalize smV [115, 109, 117, 100, 103, 101] V V.length = V' at *
          simp (config := { maxSteps := 1000000 }) (disch := omega) only [go_sem, ↓reduceIte, Nat.reduceEqDiff, Nat.reduceAdd, Int.reduceToNat, reduceCtorEq, Nat.reduceLeDiff, Nat.reduceSub, Nat.reduceDiv, Nat.reduceMod, Nat.reduceMul, d1258_b1, List.length_map, gg, s2]
    · simp (config := { maxSteps := 1000000 }) (disch := omega) only [go_sem, ↓reduceIte, Nat.reduceEqDiff, Nat.reduceAdd, Int.reduceToNat, reduceCtorEq, Nat.reduceLeDiff, Nat.reduceSub, Nat.reduceDiv, Nat.reduceMod, Nat.reduceMul, d1258, gS, gb, gg, go, gt, gt2, s1, s2, k1, k2, i1, i2, w1, w2]
      refine Ev_loop0 (fun i => ⟨[(2, .ref 0 0), (5, .ref 3 0), (6, .ref 6 0), (10, .bool true), (11, .int .i64 (i : Int))], [.row false [.int .i64 g.n, .sl 2 (prs g.E), .sl 1 (wcs g.W)], .dead, .dead, .row false [.int .i64 n2, .own 2 7, .own 1 8], .dead, .dead, .row false [.int .i64 n1, .own 2 12, .own 1 13], .row true (prs E2), .row true (wcs W2), .dead, .row false [.int .i64 n1, .sl 2 (prs E1), .own 1 11], .row false (wos (V.map some)), .row false (prs (smE E1 i)), .row false (wos (V.map some))], 0, [(0, 14, [2, 5, 6, 10, 11], [(2, 0), (5, 3), (6, 6)])]⟩) E1.length rfl (fun i hi => ?_) ?_
      · have sl := smE_len E1 i
        have p1 := prs_set1 (-7) (smE E1 i) i
        have e1 : smE E1 (i + 1) = (smE E1 i).set i (-7, ((smE E1 i).getD i default).2) := rfl
        rw [← e1] at p1
        simp (config := { maxSteps := 1000000 }) (disch := omega) only [go_sem, ↓reduceIte, Nat.reduceEqDiff, Nat.reduceAdd, Int.reduceToNat, reduceCtorEq, Nat.reduceLeDiff, Nat.reduceSub, Nat.reduceDiv, Nat.reduceMod, Nat.reduceMul, d1258_b0, sl, p1]
      · have sl := smE_len E1 E1.length
        generalize smE E1 E1.length = E3 at *
        simp (config := { maxSteps := 1000000 }) (disch := omega) only [go_sem, ↓reduceIte, Nat.reduceEqDiff, Nat.reduceAdd, Int.reduceToNat, reduceCtorEq, Nat.reduceLeDiff, Nat.reduceSub, Nat.reduceDiv, Nat.reduceMod, Nat.reduceMul, d1258_b0, sl]
        refine Ev_loop0 (fun i => ⟨[(2, .ref 0 0), (5, .ref 3 0), (6, .ref 6 0), (10, .bool true), (12, .int .i64 (i : Int))], [.row false [.int .i64 g.n, .sl 2 (prs g.E), .sl 1 (wcs g.W)], .dead, .dead, .row false [.int .i64 n2, .own 2 7, .own 1 8], .dead, .dead, .row false [.int .i64 n1, .own 2 12, .own 1 13], .row true (prs E2), .row true (wcs W2), .dead, .row false [.int .i64 n1, .sl 2 (prs E1), .own 1 11], .row false (wos (V.map some)), .row false (prs E3), .row false (wos ((smV [115, 109, 117, 100, 103, 101] V i).map some))], 0, [(1, 14, [2, 5, 6, 10, 12], [(2, 0), (5, 3), (6, 6)]), (0, 14, [2, 5, 6, 10, 11], [(2, 0), (5, 3), (6, 6)])]⟩) V.length rfl (fun i hi => ?_) ?_
        · have vl := smV_len [115, 109, 117, 100, 103, 101] V i
          have kl := smV_rl [115, 109, 117, 100, 103, 101] V i i
          have vr := hvr i hi
          have e1 : smV [115, 109, 117, 100, 103, 101] V (i + 1) = (smV [115, 109, 117, 100, 103, 101] V i).set i (smR [115, 109, 117, 100, 103, 101] ((smV [115, 109, 117, 100, 103, 101] V i).getD i []) ((smV [115, 109, 117, 100, 103, 101] V i).getD i []).length) := rfl
          rw [e1]
          generalize smV [115, 109, 117, 100, 103, 101] V i = V' at *
          generalize hx : V'.getD i [] = l at *
          simp (config := { maxSteps := 1000000 }) (disch := omega) only [go_sem, ↓reduceIte, Nat.reduceEqDiff, Nat.reduceAdd, Int.reduceToNat, reduceCtorEq, Nat.reduceLeDiff, Nat.reduceSub, Nat.reduceDiv, Nat.reduceMod, Nat.reduceMul, d1258_b1, List.length_map]
          refine Ev_loop0 (fun k => ⟨[(2, .ref 0 0), (5, .ref 3 0), (6, .ref 6 0), (10, .bool true), (12, .int .i64 (i : Int)), (13, .int .i64 (k : Int))], [.row false [.int .i64 g.n, .sl 2 (prs g.E), .sl 1 (wcs g.W)], .dead, .dead, .row false [.int .i64 n2, .own 2 7, .own 1 8], .dead, .dead, .row false [.int .i64 n1, .own 2 12, .own 1 13], .row true (prs E2), .row true (wcs W2), .dead, .row false [.int .i64 n1, .sl 2 (prs E1), .own 1 11], .row false (wos (V.map some)), .row false (prs E3), .row false (wos ((V'.set i (smR [115, 109, 117, 100, 103, 101] l k)).map some))], 0, [(2, 14, [2, 5, 6, 10, 12, 13], [(2, 0), (5, 3), (6, 6)]), (1, 14, [2, 5, 6, 10, 12], [(2, 0), (5, 3), (6, 6)]), (0, 14, [2, 5, 6, 10, 11], [(2, 0), (5, 3), (6, 6)])]⟩) l.length (by simp only [smR, ← hx, set_getD]; rfl) (fun k hk => ?_) ?_
          · have rl := smR_len [115, 109, 117, 100, 103, 101] l k
            have e2 : smR [115, 109, 117, 100, 103, 101] l (k + 1) = (smR [115, 109, 117, 100, 103, 101] l k).set k [115, 109, 117, 100, 103, 101] := rfl
            rw [e2]
            generalize smR [115, 109, 117, 100, 103, 101] l k = l' at *
            have cut := wos_cut (V := V'.set i l') (i := i) (by rw [List.length_set]; omega)
            rw [show (V'.set i l').getD i [] = l' by rw [List.getD_eq_getElem?_getD, List.getElem?_set_self (by omega)]; rfl] at cut
            have xl : (wos ((V'.set i l').map some)).length = V'.length := by rw [wos_len, List.length_map, List.length_set]
            have er := set_rdc (l := wos ((V'.set i l').map some)) (u := i) (x := .own 1 14) (by omega)
            have fin : (wos ((V'.set i l').map some)).set i (.vec 1 (strs (l'.set k [115, 109, 117, 100, 103, 101]))) = wos ((V'.set i (l'.set k [115, 109, 117, 100, 103, 101])).map some) := by
              rw [wos_set]; congr 1
              rw [← List.map_set, List.set_set]
            have cut2 := set_cut (X := wos ((V'.set i l').map some)) (i := i) (x := .own 1 14) (by omega)
            have ol := own_lt (n := 14) (m := 14) (by omega) (wos ((V'.set i l').map some)) i (by omega)
            have op := own_pk (n := 14) (m := 14) (hp := [.row false [.int .i64 g.n, .sl 2 (prs g.E), .sl 1 (wcs g.W)], .dead, .dead, .row false [.int .i64 n2, .own 2 7, .own 1 8], .dead, .dead, .row false [.int .i64 n1, .own 2 12, .own 1 13], .row true (prs E2), .row true (wcs W2), .dead, .row false [.int .i64 n1, .sl 2 (prs E1), .own 1 11], .row false (wos (V.map some)), .row false (prs E3), .dead, .row false (strs (l'.set k [115, 109, 117, 100, 103, 101]))]) (by omega) rfl (V'.set i l') i (by rw [List.length_set]; omega)
            rw [fin] at op
            simp only [List.set_cons_succ, List.set_cons_zero] at op
            generalize wos ((V'.set i l').map some) = X at *
            simp (config := { maxSteps := 1000000 }) (disch := omega) only [go_sem, ↓reduceIte, Nat.reduceEqDiff, Nat.reduceAdd, Int.reduceToNat, reduceCtorEq, Nat.reduceLeDiff, Nat.reduceSub, Nat.reduceDiv, Nat.reduceMod, Nat.reduceMul, d1258_b2, cut, cut2, ol, op, xl, er, strs_length, strs_set, List.set_set]
          · have rl := smR_len [115, 109, 117, 100, 103, 101] l l.length
            generalize smR [115, 109, 117, 100, 103, 101] l l.length = l' at *
            have cut := wos_cut (V := V'.set i l') (i := i) (by rw [List.length_set]; omega)
            rw [show (V'.set i l').getD i [] = l' by rw [List.getD_eq_getElem?_getD, List.getElem?_set_self (by omega)]; rfl] at cut
            have xl : (wos ((V'.set i l').map some)).length = V'.length := by rw [wos_len, List.length_map, List.length_set]
            have er := set_rdc (l := wos ((V'.set i l').map some)) (u := i) (x := .own 1 14) (by omega)
            have fin : (wos ((V'.set i l').map some)).set i (.vec 1 (strs l')) = wos ((V'.set i l').map some) := by
              rw [wos_set]; congr 1
              rw [← List.map_set, List.set_set]
            have cut2 := set_cut (X := wos ((V'.set i l').map some)) (i := i) (x := .own 1 14) (by omega)
            have ol := own_lt (n := 14) (m := 14) (by omega) (wos ((V'.set i l').map some)) i (by omega)
            have op := own_pk (n := 14) (m := 14) (hp := [.row false [.int .i64 g.n, .sl 2 (prs g.E), .sl 1 (wcs g.W)], .dead, .dead, .row false [.int .i64 n2, .own 2 7, .own 1 8], .dead, .dead, .row false [.int .i64 n1, .own 2 12, .own 1 13], .row true (prs E2), .row true (wcs W2), .dead, .row false [.int .i64 n1, .sl 2 (prs E1), .own 1 11], .row false (wos (V.map some)), .row false (prs E3), .dead, .row false (strs l')]) (by omega) rfl (V'.set i l') i (by rw [List.length_set]; omega)
            rw [fin] at op
            simp only [List.set_cons_succ, List.set_cons_zero] at op
            have xo := wos_okc ((V'.set i l').map some)
            have xi := wos_idlt' 14 ((V'.set i l').map some)
            generalize wos ((V'.set i l').map some) = X at *
            simp (config := { maxSteps := 1000000 }) (disch := omega) only [go_sem, ↓reduceIte, Nat.reduceEqDiff, Nat.reduceAdd, Int.reduceToNat, reduceCtorEq, Nat.reduceLeDiff, Nat.reduceSub, Nat.reduceDiv, Nat.reduceMod, Nat.reduceMul, d1258_b2, xo, xi, cut, cut2, ol, op, xl, er, strs_length, strs_set, List.set_set]
        · have vl := smV_len [115, 109, 117, 100, 103, 101] V V.length
          generalize smV [115, 109, 117, 100, 103, 101] V V.length = V' at *
          simp (config := { maxSteps := 1000000 }) (disch := omega) only [go_sem, ↓reduceIte, Nat.reduceEqDiff, Nat.reduceAdd, Int.reduceToNat, reduceCtorEq, Nat.reduceLeDiff, Nat.reduceSub, Nat.reduceDiv, Nat.reduceMod, Nat.reduceMul, d1258_b1, List.length_map, gg, s2]
end Go.Proofs.Ytmeakgiojhoofaa
