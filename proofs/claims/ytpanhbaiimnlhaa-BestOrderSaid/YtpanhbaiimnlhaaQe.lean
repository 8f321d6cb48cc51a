/- Layer 10: the laws. -/
import Derived.Test.YtpanhbaiimnlhaaQd
namespace Go.Proofs.Ytpanhbaiimnlhaa
set_option linter.unusedSimpArgs false
set_option linter.unusedVariables false
set_option maxHeartbeats 4000000
set_option maxRecDepth 100000
theorem bnil_law {h : Ed} : runP tab 1475 [htA h] [] = some (.bool true, []) := by
  unfold htA
  refine runP_fn t1475 rfl ?_
  have g1 := qput_nil (x := h)
  have g2 := qtake_nil
  have g3 := qlen_nil
  have g4 := qall_nil
  have gb := bests_run
  have c := ed_eq (0, 0) (0, 0)
  rw [decide_eq_true rfl] at c
  simp only [htA] at g1 g2
  simp (config := { maxSteps := 1000000 }) (disch := omega) only [go_sem, ↓reduceIte, Nat.reduceEqDiff, Nat.reduceAdd, Int.reduceToNat, reduceCtorEq, Nat.reduceLeDiff, Nat.reduceSub, Nat.reduceDiv, Nat.reduceMod, Nat.reduceMul, d1475, g1, g2, g3, g4, gb, c, encA, digA]
theorem br_put {m : Int} {d : Array Ed} {S : List Ed} {M : Nat} (x : Ed) (h : QOk ltH d S) (hs : S.length ≤ M) (hM : M < 60000) (hm : m = (M : Int)) : ∃ d' S' v b, QOk ltH d' S' ∧ S' = (insO ltH S x).take M ∧ runP tab 1478 [.ref 0 0, htA x] [.row false [.vec 2 (prs d.toList), .int .i64 m]] = some (.tup [htA v, .bool b], [.row false [.vec 2 (prs d'.toList), .int .i64 m]]) ∧
    ((b = false ∧ v = (0, 0) ∧ S.length + 1 ≤ M) ∨ (b = true ∧ v = (insO ltH S x).getD M default ∧ S.length = M)) := by
  subst hm
  have hz := insO_len (lt := ltH) S x
  by_cases hc : S.length + 1 ≤ M
  · obtain ⟨d', h1, h2⟩ := aput_fit (m := (M : Int)) x h (by omega) (by omega)
    exact ⟨d', insO ltH S x, (0, 0), false, h1, (List.take_of_length_le (by omega)).symm, h2, .inl ⟨rfl, rfl, hc⟩⟩
  · obtain ⟨d', h1, h2⟩ := aput_over (M := M) x h (by omega) (by omega)
    exact ⟨d', _, _, true, h1, rfl, h2, .inr ⟨rfl, rfl, by omega⟩⟩
theorem insO_cons (O : Ordr ltH) {S l : List Ed} {i : Nat} (hi : i < l.length) (hS : S = sorted ltH (l.take i)) : insO ltH S (l.getD i default) = sorted ltH (l.take (i + 1)) := by
  rw [hS, insO_sorted O, takeS hi]
  exact sorted_cong O (List.perm_append_singleton _ _).symm
def boS (l : List Ed) (d : Array Ed) (i : Nat) : St := ⟨[(0, .sl 2 (prs l)), (3, .ref 0 0), (5, .int .i64 (i : Int))], [.row false [.vec 2 (prs d.toList), .int .i64 1000]], 0, [(0, 1, [0, 3, 5], [(3, 0)])]⟩
theorem bo_loop {l : List Ed} {Q : AX → St → Prop} (hl : l.length ≤ 200) : ∀ (n i : Nat) (d : Array Ed), i + n = l.length → QOk ltH d (sorted ltH (l.take i)) →
    (∀ d, QOk ltH d (sorted ltH l) → Ev tab d1474_b0 (boS l d l.length) (fun x s => x ≠ .normal ∧ Q x s)) → Ev tab (.loop d1474_b0) (boS l d i) Q
  | 0, i, d, hi, hd, hq => by
    obtain rfl : i = l.length := by omega
    rw [List.take_length] at hd
    exact Ev_stop (hq d hd)
  | n + 1, i, d, hi, hd, hq => by
    have hz : (sorted ltH (l.take i)).length = i := by rw [sorted_len, List.length_take]; omega
    obtain ⟨d', h1, h2⟩ := aput_fit (m := 1000) (l.getD i default) hd (by omega) (by omega)
    rw [insO_cons ordrH (by omega) rfl] at h1
    refine Ev_step (st' := boS l d' (i + 1)) ?_ (bo_loop hl n (i + 1) d' (by omega) h1 hq)
    simp only [htA] at h2
    simp (config := { maxSteps := 1000000 }) (disch := omega) only [go_sem, ↓reduceIte, Nat.reduceEqDiff, Nat.reduceAdd, Int.reduceToNat, reduceCtorEq, Nat.reduceLeDiff, Nat.reduceSub, Nat.reduceDiv, Nat.reduceMod, Nat.reduceMul, d1474_b0, boS, prs_at, h2]
def bpS (d : Array Ed) (s : List Ed) (i : Nat) : St := ⟨[(3, .ref 0 0), (6, .own 2 1), (7, .int .i64 (i : Int))], [.row false [.vec 2 (prs d.toList), .int .i64 1000], .row false (prs s)], 0, [(1, 2, [3, 6, 7], [(3, 0), (6, 1)]), (0, 1, [0, 3, 5], [(3, 0)])]⟩
theorem bp_loop {s : List Ed} {Q : AX → St → Prop} (hs : srtd ltH s) (hl : s.length ≤ 200) : ∀ (n i : Nat) (d : Array Ed), i + n = s.length → QOk ltH d (s.drop i) →
    (∀ d, QOk ltH d [] → Ev tab d1474_b1 (bpS d s s.length) (fun x s => x ≠ .normal ∧ Q x s)) → Ev tab (.loop d1474_b1) (bpS d s i) Q
  | 0, i, d, hi, hd, hq => by
    obtain rfl : i = s.length := by omega
    rw [List.drop_length] at hd
    exact Ev_stop (hq d hd)
  | n + 1, i, d, hi, hd, hq => by
    have hdr : s.drop i = s.getD i default :: s.drop (i + 1) := by
      rw [List.drop_eq_getElem_cons (by omega), List.getD_eq_getElem?_getD, List.getElem?_eq_getElem (by omega)]; rfl
    rw [hdr] at hd
    obtain ⟨d', h1, h2⟩ := atake_some (m := 1000) hd (by simp; omega)
    refine Ev_step (st' := bpS d' s (i + 1)) ?_ (bp_loop hs hl n (i + 1) d' (by omega) h1 hq)
    have c := ed_eq (s.getD i default) (s.getD i default)
    rw [decide_eq_true rfl] at c
    simp only [htA] at h2
    by_cases i0 : i = 0
    · subst i0
      have hz0 : rdc (prs s) (some 2) = some (.agg [.int .i64 (s.getD 0 default).1, .int .i64 (s.getD 0 default).2]) := by
        have := prs_at (l := s) (i := 0) (by omega)
        rwa [List.drop_zero] at this
      simp (config := { maxSteps := 1000000 }) (disch := omega) only [go_sem, ↓reduceIte, Nat.reduceEqDiff, Nat.reduceAdd, Int.reduceToNat, reduceCtorEq, Nat.reduceLeDiff, Nat.reduceSub, Nat.reduceDiv, Nat.reduceMod, Nat.reduceMul, d1474_b1, bpS, hz0, h2, c, encA, digA]
    · have ga := ahead_run (a := s.getD i default) (b := s.getD (i - 1) default)
      have hlt : ltH (s.getD i default) (s.getD (i - 1) default) = false := by
        have := List.pairwise_iff_getElem.1 hs (i - 1) i (by omega) (by omega) (by omega)
        rw [List.getD_eq_getElem?_getD, List.getElem?_eq_getElem (by omega), List.getD_eq_getElem?_getD, List.getElem?_eq_getElem (by omega)]
        exact this
      rw [hlt] at ga
      simp only [htA] at ga
      have e1 : (i : Int) - 1 = ((i - 1 : Nat) : Int) := by omega
      simp (config := { maxSteps := 1000000 }) (disch := omega) only [go_sem, ↓reduceIte, Nat.reduceEqDiff, Nat.reduceAdd, Int.reduceToNat, reduceCtorEq, Nat.reduceLeDiff, Nat.reduceSub, Nat.reduceDiv, Nat.reduceMod, Nat.reduceMul, d1474_b1, bpS, prs_at, h2, c, encA, digA, e1, ga]
theorem border_law {l : List Ed} (hl : l.length ≤ 9223372036854775807) : runP tab 1474 [.sl 2 (prs l)] [] = some (.bool true, []) := by
  refine runP_fn t1474 rfl ?_
  have gb := bests_run
  have g0 := qnew_ok (m := 1000) (by omega)
  by_cases h : 200 < l.length
  · simp (config := { maxSteps := 1000000 }) (disch := omega) only [go_sem, ↓reduceIte, Nat.reduceEqDiff, Nat.reduceAdd, Int.reduceToNat, reduceCtorEq, Nat.reduceLeDiff, Nat.reduceSub, Nat.reduceDiv, Nat.reduceMod, Nat.reduceMul, d1474, g0, gb]
  · simp (config := { maxSteps := 1000000 }) (disch := omega) only [go_sem, ↓reduceIte, Nat.reduceEqDiff, Nat.reduceAdd, Int.reduceToNat, reduceCtorEq, Nat.reduceLeDiff, Nat.reduceSub, Nat.reduceDiv, Nat.reduceMod, Nat.reduceMul, d1474, g0, gb]
    refine bo_loop (by omega) l.length 0 #[] (by omega) (by simpa [sorted] using qok0) (fun d hd => ?_)
    have hz := sorted_len (lt := ltH) l
    have hsr := sorted_srtd ordrH l
    have g1 := aall_run (m := 1000) hd (by omega)
    simp only [boS]
    simp (config := { maxSteps := 1000000 }) (disch := omega) only [go_sem, ↓reduceIte, Nat.reduceEqDiff, Nat.reduceAdd, Int.reduceToNat, reduceCtorEq, Nat.reduceLeDiff, Nat.reduceSub, Nat.reduceDiv, Nat.reduceMod, Nat.reduceMul, d1474_b0, g1]
    refine bp_loop hsr (by omega) (sorted ltH l).length 0 d (by omega) (by simpa using hd) (fun d2 hd2 => ?_)
    have g2 := atake_none (m := 1000) hd2
    have g3 := alen_run (m := 1000) hd2
    simp only [htA] at g2
    simp only [List.length_nil] at g3
    simp only [bpS]
    simp (config := { maxSteps := 1000000 }) (disch := omega) only [go_sem, ↓reduceIte, Nat.reduceEqDiff, Nat.reduceAdd, Int.reduceToNat, reduceCtorEq, Nat.reduceLeDiff, Nat.reduceSub, Nat.reduceDiv, Nat.reduceMod, Nat.reduceMul, d1474_b1, g2, g3, gb]
theorem prs_set1 (x : Int) : ∀ (l : List Ed) (i : Nat), (prs l).set (i * 2) (.int .i64 x) = prs (l.set i (x, (l.getD i default).2))
  | [], i => by simp [prs]
  | y :: l, 0 => by simp [prs_cons]
  | y :: l, i + 1 => by
    have ih := prs_set1 x l i
    rw [prs_cons, show (i + 1) * 2 = i * 2 + 1 + 1 by omega, List.set_cons_succ, List.set_cons_succ, ih]
    rfl
def bfS (l R : List Ed) (i : Nat) : St := ⟨[(0, .sl 2 (prs l)), (5, .own 2 0), (6, .own 2 1), (8, .bool true), (9, .int .i64 (i : Int))], [.row true (prs l), .row false (prs R)], 0, [(0, 2, [0, 5, 6, 8, 9], [(5, 0), (6, 1)])]⟩
theorem bf_loop {l : List Ed} {Q : AX → St → Prop} : ∀ (n i : Nat) (R : List Ed), i + n = R.length → R.length ≤ 1000 →
    (∀ R : List Ed, R.length = i + n → Ev tab d1472_b0 (bfS l R (i + n)) (fun x s => x ≠ .normal ∧ Q x s)) → Ev tab (.loop d1472_b0) (bfS l R i) Q
  | 0, i, R, hi, hR, hq => Ev_stop (hq R (by omega))
  | n + 1, i, R, hi, hR, hq => by
    refine Ev_step (st' := bfS l (R.set i (-7, (R.getD i default).2)) (i + 1)) ?_ (bf_loop n (i + 1) _ (by simp; omega) (by simpa using hR) (fun R2 h2 => ?_))
    · have e := prs_set1 (-7) R i
      simp (config := { maxSteps := 1000000 }) (disch := omega) only [go_sem, ↓reduceIte, Nat.reduceEqDiff, Nat.reduceAdd, Int.reduceToNat, reduceCtorEq, Nat.reduceLeDiff, Nat.reduceSub, Nat.reduceDiv, Nat.reduceMod, Nat.reduceMul, d1472_b0, bfS, e]
    · have := hq R2 (by omega)
      rwa [show i + (n + 1) = i + 1 + n by omega] at this
theorem bfirst_law {l : List Ed} {k : Int} (hl : l.length ≤ 9223372036854775807) : runP tab 1472 [.sl 2 (prs l), .int .i64 k] [] = some (.bool true, []) := by
  refine runP_fn t1472 rfl ?_
  have gb := bests_run
  by_cases h : 100 < l.length
  · simp (config := { maxSteps := 1000000 }) (disch := omega) only [go_sem, ↓reduceIte, Nat.reduceEqDiff, Nat.reduceAdd, Int.reduceToNat, reduceCtorEq, Nat.reduceLeDiff, Nat.reduceSub, Nat.reduceDiv, Nat.reduceMod, Nat.reduceMul, d1472, gb]
  · have g1 := rown_run (l := l) (by omega)
    have g2 := qfirst_run (l := l) (k := k) (by omega)
    have g3 := rfirst_run (l := l) (k := k) (by omega)
    have hsl : (fst1 l k).length ≤ l.length := by unfold fst1; rw [List.length_take]; omega
    have g5 := rsame_run (a := l) (b := l) (by omega) (by omega)
    rw [beq_self_eq_true] at g5
    unfold rfst at g3
    split at g3 <;> rename_i hc
    · have he : fst1 l k = [] := by
        unfold fst1
        rcases hc with hc | hc
        · rw [show min k.toNat l.length = 0 by omega]; rfl
        · subst hc; simp
      rw [he] at g2
      have g4 := rsame_nil (s := 2) (t := 2) (c := []) (d := []) rfl rfl
      simp only [prs_nil] at g2
      simp (config := { maxSteps := 1000000 }) (disch := omega) only [go_sem, ↓reduceIte, Nat.reduceEqDiff, Nat.reduceAdd, Int.reduceToNat, reduceCtorEq, Nat.reduceLeDiff, Nat.reduceSub, Nat.reduceDiv, Nat.reduceMod, Nat.reduceMul, d1472, g1, g2, g3, g4]
      refine Ev_stop ?_
      simp (config := { maxSteps := 1000000 }) (disch := omega) only [go_sem, ↓reduceIte, Nat.reduceEqDiff, Nat.reduceAdd, Int.reduceToNat, reduceCtorEq, Nat.reduceLeDiff, Nat.reduceSub, Nat.reduceDiv, Nat.reduceMod, Nat.reduceMul, d1472_b0, gb, g5]
    · have g4 := rsame_run (a := fst1 l k) (b := fst1 l k) (by omega) (by omega)
      rw [beq_self_eq_true] at g4
      simp (config := { maxSteps := 1000000 }) (disch := omega) only [go_sem, ↓reduceIte, Nat.reduceEqDiff, Nat.reduceAdd, Int.reduceToNat, reduceCtorEq, Nat.reduceLeDiff, Nat.reduceSub, Nat.reduceDiv, Nat.reduceMod, Nat.reduceMul, d1472, g1, g2, g3, g4]
      refine bf_loop (fst1 l k).length 0 (fst1 l k) (by omega) (by omega) (fun R hR => ?_)
      simp only [bfS]
      rw [← hR]
      simp (config := { maxSteps := 1000000 }) (disch := omega) only [go_sem, ↓reduceIte, Nat.reduceEqDiff, Nat.reduceAdd, Int.reduceToNat, reduceCtorEq, Nat.reduceLeDiff, Nat.reduceSub, Nat.reduceDiv, Nat.reduceMod, Nat.reduceMul, d1472_b0, gb, g5]
theorem insO_take {A : List Ed} {M : Nat} {x : Ed} : (insO ltH (A.take M) x).take M = (insO ltH A x).take M := by
  have hu : upO ltH (A.take M) x = min (upO ltH A x) M := by
    unfold upO
    induction A generalizing M with
    | nil => simp
    | cons y A ih =>
      cases M with
      | zero => simp
      | succ M =>
        rw [List.take_succ_cons, List.takeWhile_cons, List.takeWhile_cons]
        cases hy : ltH x y with
        | true => simp
        | false => simp [ih (M := M)]
  have hle := upO_le (lt := ltH) A x
  unfold insO
  rw [hu]
  generalize upO ltH A x = p at *
  by_cases hp : p < M
  · rw [Nat.min_eq_left (by omega), List.take_take, Nat.min_eq_left (by omega), List.take_append, List.take_append, List.drop_take]
    congr 1
    rw [List.length_take]
    cases hq : M - min p A.length with
    | zero => simp
    | succ q =>
      rw [List.take_succ_cons, List.take_succ_cons, List.take_take]
      congr 2
      omega
  · rw [Nat.min_eq_right (by omega), List.take_take, Nat.min_eq_left (by omega)]
    have e1 : (A.take M).drop M = [] := by rw [List.drop_eq_nil_iff, List.length_take]; omega
    rw [e1, List.take_append, List.take_append, List.take_take, List.take_take, Nat.min_self, Nat.min_eq_left (by omega)]
    congr 1
    rw [List.length_take, List.length_take]
    by_cases hA : M ≤ A.length
    · rw [show M - min M A.length = 0 by omega, show M - min p A.length = 0 by omega]; simp
    · rw [show min M A.length = A.length by omega, show min p A.length = A.length by omega, List.drop_eq_nil_of_le (by omega)]
def bkS (l out : List Ed) (k : Int) (d : Array Ed) (i : Nat) : St := ⟨[(0, .sl 2 (prs l)), (1, .int .i64 k), (5, .ref 0 0), (7, .own 2 1), (8, .int .i64 (i : Int))], [.row false [.vec 2 (prs d.toList), .int .i64 k], .row false (prs out)], 0, [(0, 2, [0, 1, 5, 7, 8], [(5, 0), (7, 1)])]⟩
structure BkOk (l : List Ed) (M i : Nat) (d : Array Ed) (out S : List Ed) : Prop where
  q : QOk ltH d S
  s : S = (sorted ltH (l.take i)).take M
  n : out.length + S.length = i
  o : ∀ y ∈ out, ∀ z ∈ S, ltH y z = false
theorem bk_loop {l : List Ed} {k : Int} {M : Nat} {Q : AX → St → Prop} (hl : l.length ≤ 100) (hk : k = (M : Int)) (hM : 1 ≤ M ∧ M ≤ 1000) : ∀ (n i : Nat) (d : Array Ed) (out S : List Ed), i + n = l.length → BkOk l M i d out S →
    (∀ d out S, BkOk l M l.length d out S → Ev tab d1473_b0 (bkS l out k d l.length) (fun x s => x ≠ .normal ∧ Q x s)) → Ev tab (.loop d1473_b0) (bkS l out k d i) Q
  | 0, i, d, out, S, hi, hd, hq => by
    obtain rfl : i = l.length := by omega
    exact Ev_stop (hq d out S hd)
  | n + 1, i, d, out, S, hi, hd, hq => by
    have hSM : S.length ≤ M := by rw [hd.s, List.length_take]; omega
    obtain ⟨d', S', v, b, h1, h2, h3, h4⟩ := br_put (m := k) (M := M) (l.getD i default) hd.q hSM (by omega) hk
    have hS' : S' = (sorted ltH (l.take (i + 1))).take M := by
      rw [h2, hd.s, insO_take, insO_cons ordrH (by omega) rfl]
    have hz := insO_len (lt := ltH) S (l.getD i default)
    have hon := hd.n
    have hsr : srtd ltH (insO ltH S (l.getD i default)) := insO_srtd ordrH (by rw [hd.s]; exact List.Pairwise.sublist (List.take_sublist _ _) (sorted_srtd ordrH _)) _
    have hpm := insO_perm (lt := ltH) S (l.getD i default)
    simp only [htA] at h3
    rcases h4 with ⟨rfl, rfl, hc⟩ | ⟨rfl, rfl, hc⟩
    · have hn : BkOk l M (i + 1) d' out S' := by
        refine ⟨h1, hS', ?_, ?_⟩
        · rw [h2, List.length_take]; omega
        · intro y hy z hz2
          have : out = [] := List.eq_nil_of_length_eq_zero (by
            have h5 := hd.s
            have h6 : S.length = min M (min i l.length) := by rw [h5, List.length_take, sorted_len, List.length_take]
            omega)
          subst this; cases hy
      refine Ev_step (st' := bkS l out k d' (i + 1)) ?_ (bk_loop hl hk hM n (i + 1) d' out S' (by omega) hn hq)
      simp (config := { maxSteps := 1000000 }) (disch := omega) only [go_sem, ↓reduceIte, Nat.reduceEqDiff, Nat.reduceAdd, Int.reduceToNat, reduceCtorEq, Nat.reduceLeDiff, Nat.reduceSub, Nat.reduceDiv, Nat.reduceMod, Nat.reduceMul, d1473_b0, bkS, prs_at, h3]
    · have hcut : insO ltH S (l.getD i default) = S' ++ [(insO ltH S (l.getD i default)).getD M default] := by
        have h5 := takeS (l := insO ltH S (l.getD i default)) (i := M) (by omega)
        rw [List.take_of_length_le (by omega), ← h2] at h5
        exact h5
      have hvS : ∀ z ∈ S', ltH ((insO ltH S (l.getD i default)).getD M default) z = false := by
        intro z hz2
        rw [hcut] at hsr
        exact (List.pairwise_append.1 hsr).2.2 z hz2 _ (by simp)
      have hn : BkOk l M (i + 1) d' (out ++ [(insO ltH S (l.getD i default)).getD M default]) S' := by
        refine ⟨h1, hS', ?_, ?_⟩
        · rw [h2, List.length_append, List.length_take, List.length_singleton, hz]; omega
        · intro y hy z hz2
          rcases List.mem_append.1 hy with hy | hy
          · have hzm : z ∈ insO ltH S (l.getD i default) := by rw [h2] at hz2; exact List.mem_of_mem_take hz2
            rcases List.mem_cons.1 (hpm.mem_iff.1 hzm) with rfl | hzS
            · have hvm : (insO ltH S (l.getD i default)).getD M default ∈ insO ltH S (l.getD i default) := getD_mem' (by omega)
              rcases List.mem_cons.1 (hpm.mem_iff.1 hvm) with hv | hv
              · have h10 : S'.Perm S := by
                  have := hpm
                  rw [hcut, hv] at this
                  exact (List.perm_cons _).1 ((List.perm_append_singleton _ _).symm.trans this)
                exact hd.o y hy _ (h10.mem_iff.1 hz2)
              · exact ordrH.swo.ntrans _ _ _ (hd.o y hy _ hv) (hvS _ hz2)
            · exact hd.o y hy z hzS
          · rw [List.mem_singleton] at hy
            subst hy
            exact hvS z hz2
      refine Ev_step (st' := bkS l (out ++ [(insO ltH S (l.getD i default)).getD M default]) k d' (i + 1)) ?_ (bk_loop hl hk hM n (i + 1) d' _ S' (by omega) hn hq)
      simp (config := { maxSteps := 1000000 }) (disch := omega) only [go_sem, ↓reduceIte, Nat.reduceEqDiff, Nat.reduceAdd, Int.reduceToNat, reduceCtorEq, Nat.reduceLeDiff, Nat.reduceSub, Nat.reduceDiv, Nat.reduceMod, Nat.reduceMul, d1473_b0, bkS, prs_at, prs_snoc, h3]
theorem bkeeps_law {l : List Ed} {k : Int} (hl : l.length ≤ 9223372036854775807) : runP tab 1473 [.sl 2 (prs l), .int .i64 k] [] = some (.bool true, []) := by
  refine runP_fn t1473 rfl ?_
  have gb := bests_run
  by_cases hk : 1 ≤ k ∧ k ≤ 1000
  · have g0 := qnew_ok hk
    by_cases h : 100 < l.length
    · simp (config := { maxSteps := 1000000 }) (disch := omega) only [go_sem, ↓reduceIte, Nat.reduceEqDiff, Nat.reduceAdd, Int.reduceToNat, reduceCtorEq, Nat.reduceLeDiff, Nat.reduceSub, Nat.reduceDiv, Nat.reduceMod, Nat.reduceMul, d1473, g0, gb]
    · obtain ⟨M, rfl⟩ := Int.eq_ofNat_of_zero_le (show 0 ≤ k by omega)
      simp (config := { maxSteps := 1000000 }) (disch := omega) only [go_sem, ↓reduceIte, Nat.reduceEqDiff, Nat.reduceAdd, Int.reduceToNat, reduceCtorEq, Nat.reduceLeDiff, Nat.reduceSub, Nat.reduceDiv, Nat.reduceMod, Nat.reduceMul, d1473, g0, gb]
      refine bk_loop (by omega) rfl (by omega) l.length 0 #[] [] [] (by omega) ⟨qok0, by simp [sorted], rfl, by simp⟩ (fun d out S hB => ?_)
      have g1 := aall_run (m := (M : Int)) hB.q (by have := hB.n; omega)
      have g2 := qfirst_run (l := l) (k := (M : Int)) (by omega)
      simp only [bkS]
      simp (config := { maxSteps := 1000000 }) (disch := omega) only [go_sem, ↓reduceIte, Nat.reduceEqDiff, Nat.reduceAdd, Int.reduceToNat, reduceCtorEq, Nat.reduceLeDiff, Nat.reduceSub, Nat.reduceDiv, Nat.reduceMod, Nat.reduceMul, d1473_b0, g1, g2]
      have hS : S = fst1 l (M : Int) := by
        rw [hB.s, List.take_length]
        unfold fst1
        rw [Int.toNat_natCast]
        have hz := sorted_len (lt := ltH) l
        by_cases hM : M ≤ l.length
        · rw [Nat.min_eq_left hM]
        · rw [Nat.min_eq_right (by omega), List.take_of_length_le (by omega), List.take_of_length_le (by omega)]
      have hn := hB.n
      have hal := fun y hy z hz => hB.o y hy z hz
      have g3 := alen_run (m := (M : Int)) hB.q
      have g4 := rsame_run (a := S) (b := S) (by omega) (by omega)
      rw [beq_self_eq_true] at g4
      rw [← hS]
      refine Ev_loop0 (fun i => ⟨[(0, .sl 2 (prs l)), (5, .ref 0 0), (7, .own 2 1), (11, .own 2 2), (12, .own 2 3), (13, .int .i64 (i : Int))], [.row false [.vec 2 (prs d.toList), .int .i64 (M : Int)], .row false (prs out), .row false (prs S), .row false (prs S)], 0, [(1, 4, [0, 5, 7, 11, 12, 13], [(5, 0), (7, 1), (11, 2), (12, 3)]), (0, 2, [0, 1, 5, 7, 8], [(5, 0), (7, 1)])]⟩) out.length rfl (fun i hi => ?_) ?_
      · simp (config := { maxSteps := 1000000 }) (disch := omega) only [go_sem, ↓reduceIte, Nat.reduceEqDiff, Nat.reduceAdd, Int.reduceToNat, reduceCtorEq, Nat.reduceLeDiff, Nat.reduceSub, Nat.reduceDiv, Nat.reduceMod, Nat.reduceMul, d1473_b1]
        refine Ev_loop0 (fun j => ⟨[(0, .sl 2 (prs l)), (5, .ref 0 0), (7, .own 2 1), (11, .own 2 2), (12, .own 2 3), (13, .int .i64 (i : Int)), (14, .int .i64 (j : Int))], [.row false [.vec 2 (prs d.toList), .int .i64 (M : Int)], .row false (prs out), .row false (prs S), .row false (prs S)], 0, [(2, 4, [0, 5, 7, 11, 12, 13, 14], [(5, 0), (7, 1), (11, 2), (12, 3)]), (1, 4, [0, 5, 7, 11, 12, 13], [(5, 0), (7, 1), (11, 2), (12, 3)]), (0, 2, [0, 1, 5, 7, 8], [(5, 0), (7, 1)])]⟩) S.length rfl (fun j hj => ?_) ?_
        · have ga := ahead_run (a := out.getD i default) (b := S.getD j default)
          rw [hal _ (getD_mem' hi) _ (getD_mem' hj)] at ga
          simp only [htA] at ga
          simp (config := { maxSteps := 1000000 }) (disch := omega) only [go_sem, ↓reduceIte, Nat.reduceEqDiff, Nat.reduceAdd, Int.reduceToNat, reduceCtorEq, Nat.reduceLeDiff, Nat.reduceSub, Nat.reduceDiv, Nat.reduceMod, Nat.reduceMul, d1473_b2, prs_at, ga]
        · simp (config := { maxSteps := 1000000 }) (disch := omega) only [go_sem, ↓reduceIte, Nat.reduceEqDiff, Nat.reduceAdd, Int.reduceToNat, reduceCtorEq, Nat.reduceLeDiff, Nat.reduceSub, Nat.reduceDiv, Nat.reduceMod, Nat.reduceMul, d1473_b2]
      · have e1 : ¬ ((S.length : Int) + (out.length : Int) ≠ (l.length : Int)) := by omega
        have e2 : (S.length : Int) + (out.length : Int) = (l.length : Int) := by omega
        simp (config := { maxSteps := 1000000 }) (disch := omega) only [go_sem, ↓reduceIte, Nat.reduceEqDiff, Nat.reduceAdd, Int.reduceToNat, reduceCtorEq, Nat.reduceLeDiff, Nat.reduceSub, Nat.reduceDiv, Nat.reduceMod, Nat.reduceMul, d1473_b1, gb, g3, g4, e2]
  · have g0 := qnew_bad (m := k) (by omega)
    simp (config := { maxSteps := 1000000 }) (disch := omega) only [go_sem, ↓reduceIte, Nat.reduceEqDiff, Nat.reduceAdd, Int.reduceToNat, reduceCtorEq, Nat.reduceLeDiff, Nat.reduceSub, Nat.reduceDiv, Nat.reduceMod, Nat.reduceMul, d1473, g0, gb]
end Go.Proofs.Ytpanhbaiimnlhaa
