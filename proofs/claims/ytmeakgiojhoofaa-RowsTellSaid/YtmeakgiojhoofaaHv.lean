/-
  Graphs without words: are they graphs?
-/
import Derived.Test.YtmeakgiojhoofaaHu
namespace Go.Proofs.Ytmeakgiojhoofaa
set_option linter.unusedSimpArgs false
set_option linter.unusedVariables false
set_option maxHeartbeats 4000000
set_option maxRecDepth 100000

abbrev Ed := Int × Int
def prs (l : List Ed) : List AV := l.flatMap fun e => [.int .i64 e.1, .int .i64 e.2]
theorem prs_cons (e : Ed) (l : List Ed) : prs (e :: l) = .int .i64 e.1 :: .int .i64 e.2 :: prs l := rfl
theorem prs_flat (l : List Ed) : (prs l).all flat = true := by
  induction l with
  | nil => rfl
  | cons e l ih => rw [prs_cons]; simp only [List.all_cons, flat, Bool.true_and]; exact ih
theorem prs_len (l : List Ed) : (prs l).length = l.length * 2 := by
  induction l with
  | nil => rfl
  | cons e l ih => rw [prs_cons]; simp only [List.length_cons, ih]; omega
theorem prs_okc (l : List Ed) : (prs l).all AV.okc = true := flat_okc (prs_flat l)
theorem prs_noid' (l : List Ed) : allL pnoid (prs l) = true := flat_noidL (prs_flat l)
theorem prs_noinl' (l : List Ed) : allL pnoinl (prs l) = true := flat_noinlL (prs_flat l)
theorem prs_noimm (l : List Ed) : allL pnoimm (prs l) = true := flat_noimmL (prs_flat l)
theorem prs_ids (l : List Ed) : idsL (prs l) = [] := flat_idsL (prs_flat l)
theorem prs_idlt' (n : Nat) (l : List Ed) : allL (pidlt n) (prs l) = true := flat_idltL (prs_flat l)
theorem prs_ren' (f : Nat → Nat) (l : List Ed) : mapL (ren1 f) (prs l) = prs l := flat_renL (prs_flat l)
theorem prs_frz' (l : List Ed) : mapL frz1 (prs l) = prs l := flat_frzL (prs_flat l)
theorem prs_fz (hp : List Blk) (l : List Ed) : fzL hp (prs l) = some (prs l) := flat_fzL (prs_flat l)
theorem prs_pk (n : Nat) (hp : List Blk) (l : List Ed) : pkL n hp (prs l) = some (prs l, hp) := flat_pkL (prs_flat l)
theorem prs_pks (hp : List Blk) (l : List Ed) : pksL hp (prs l) = some (prs l, hp) := flat_pksL (prs_flat l)
theorem prs_thaw (hp : List Blk) (l : List Ed) : thawL hp (prs l) = (prs l, hp) := flat_thawL (prs_flat l)
theorem mul2_div (n : Nat) : n * 2 / 2 = n := by omega
theorem prs_app (a b : List Ed) : prs a ++ prs b = prs (a ++ b) := by simp [prs]
theorem prs_one (a b : Int) : [.int .i64 a, .int .i64 b] = prs [(a, b)] := rfl
attribute [go_sem] prs_len prs_okc prs_noid' prs_noinl' prs_noimm prs_ids prs_idlt' prs_ren' prs_frz' prs_fz prs_pk prs_pks prs_thaw mul2_div prs_app
theorem prs_drop (l : List Ed) (i : Nat) : (prs l).drop (i * 2) = prs (l.drop i) := by
  induction i generalizing l with
  | zero => simp
  | succ i ih => cases l with
    | nil => simp [prs]
    | cons r l => rw [prs_cons, show (i + 1) * 2 = i * 2 + 1 + 1 by omega, List.drop_succ_cons, List.drop_succ_cons]; exact ih l
attribute [go_sem] prs_drop
theorem prs_at {l : List Ed} {i : Nat} (h : i < l.length) : rdc (prs (l.drop i)) (some 2) = some (.agg [.int .i64 (l.getD i default).1, .int .i64 (l.getD i default).2]) := by
  rw [List.drop_eq_getElem_cons h, prs_cons, List.getD_eq_getElem?_getD, List.getElem?_eq_getElem h]; rfl

def cmpI (a b : Int) : Int := if a < b then -1 else if b < a then 1 else 0
theorem compare_run {a b : Int} : runP tab 1061 [.int .i64 a, .int .i64 b] [] = some (.int .i64 (cmpI a b), []) := by
  have g : ∀ x : Int, runP tab 1072 [.int .i64 x] [] = some (.bool false, []) := fun x => by
    refine runP_fn t1072 rfl ?_
    simp (config := { maxSteps := 1000000 }) (disch := omega) only [go_sem, ↓reduceIte, Nat.reduceEqDiff, Nat.reduceAdd, Int.reduceToNat, reduceCtorEq, Nat.reduceLeDiff, Nat.reduceSub, Nat.reduceDiv, Nat.reduceMod, Nat.reduceMul, d1072]
  refine runP_fn t1061 rfl ?_
  unfold cmpI
  by_cases h : a < b
  · rw [if_pos h]
    simp (config := { maxSteps := 1000000 }) (disch := omega) only [go_sem, ↓reduceIte, Nat.reduceEqDiff, Nat.reduceAdd, Int.reduceToNat, reduceCtorEq, Nat.reduceLeDiff, Nat.reduceSub, Nat.reduceDiv, Nat.reduceMod, Nat.reduceMul, d1061, g]
  · by_cases h2 : b < a
    · rw [if_neg h, if_pos h2]
      simp (config := { maxSteps := 1000000 }) (disch := omega) only [go_sem, ↓reduceIte, Nat.reduceEqDiff, Nat.reduceAdd, Int.reduceToNat, reduceCtorEq, Nat.reduceLeDiff, Nat.reduceSub, Nat.reduceDiv, Nat.reduceMod, Nat.reduceMul, d1061, g]
    · rw [if_neg h, if_neg h2]
      simp (config := { maxSteps := 1000000 }) (disch := omega) only [go_sem, ↓reduceIte, Nat.reduceEqDiff, Nat.reduceAdd, Int.reduceToNat, reduceCtorEq, Nat.reduceLeDiff, Nat.reduceSub, Nat.reduceDiv, Nat.reduceMod, Nat.reduceMul, d1061, g]
theorem or_run {a b : Int} : runP tab 1060 [.sl 1 [.int .i64 a, .int .i64 b]] [] = some (.int .i64 (if a = 0 then b else a), []) := by
  refine runP_fn t1060 rfl ?_
  simp (config := { maxSteps := 1000000 }) (disch := omega) only [go_sem, ↓reduceIte, Nat.reduceEqDiff, Nat.reduceAdd, Int.reduceToNat, reduceCtorEq, Nat.reduceLeDiff, Nat.reduceSub, Nat.reduceDiv, Nat.reduceMod, Nat.reduceMul, d1060]
  by_cases h : a = 0
  · rw [if_pos h]
    by_cases h2 : b = 0
    · refine Ev_loop0 (fun i => ⟨[(3, .int .i64 0), (6, .sl 1 [.int .i64 a, .int .i64 b]), (7, .int .i64 2), (8, .int .i64 (i : Int))], [], 0, [(0, 0, [3, 6, 7, 8], [])]⟩) 2 rfl (fun i hi => ?_) ?_
      · match i, hi with
        | 0, _ => simp (config := { maxSteps := 1000000 }) (disch := omega) only [go_sem, ↓reduceIte, Nat.reduceEqDiff, Nat.reduceAdd, Int.reduceToNat, reduceCtorEq, Nat.reduceLeDiff, Nat.reduceSub, Nat.reduceDiv, Nat.reduceMod, Nat.reduceMul, d1060_b0, h]
        | 1, _ => simp (config := { maxSteps := 1000000 }) (disch := omega) only [go_sem, ↓reduceIte, Nat.reduceEqDiff, Nat.reduceAdd, Int.reduceToNat, reduceCtorEq, Nat.reduceLeDiff, Nat.reduceSub, Nat.reduceDiv, Nat.reduceMod, Nat.reduceMul, d1060_b0, h2, Int.reduceAdd]
      · simp (config := { maxSteps := 1000000 }) (disch := omega) only [go_sem, ↓reduceIte, Nat.reduceEqDiff, Nat.reduceAdd, Int.reduceToNat, reduceCtorEq, Nat.reduceLeDiff, Nat.reduceSub, Nat.reduceDiv, Nat.reduceMod, Nat.reduceMul, d1060_b0, h2]
    · refine Ev_loop0 (fun i => ⟨[(3, .int .i64 0), (6, .sl 1 [.int .i64 a, .int .i64 b]), (7, .int .i64 2), (8, .int .i64 (i : Int))], [], 0, [(0, 0, [3, 6, 7, 8], [])]⟩) 1 rfl (fun i hi => ?_) ?_
      · match i, hi with
        | 0, _ => simp (config := { maxSteps := 1000000 }) (disch := omega) only [go_sem, ↓reduceIte, Nat.reduceEqDiff, Nat.reduceAdd, Int.reduceToNat, reduceCtorEq, Nat.reduceLeDiff, Nat.reduceSub, Nat.reduceDiv, Nat.reduceMod, Nat.reduceMul, d1060_b0, h]
      · simp (config := { maxSteps := 1000000 }) (disch := omega) only [go_sem, ↓reduceIte, Nat.reduceEqDiff, Nat.reduceAdd, Int.reduceToNat, reduceCtorEq, Nat.reduceLeDiff, Nat.reduceSub, Nat.reduceDiv, Nat.reduceMod, Nat.reduceMul, d1060_b0, h2]
  · rw [if_neg h]
    refine Ev_loop0 (fun i => ⟨[(3, .int .i64 0), (6, .sl 1 [.int .i64 a, .int .i64 b]), (7, .int .i64 2), (8, .int .i64 (i : Int))], [], 0, [(0, 0, [3, 6, 7, 8], [])]⟩) 0 rfl (fun i hi => by omega) ?_
    simp (config := { maxSteps := 1000000 }) (disch := omega) only [go_sem, ↓reduceIte, Nat.reduceEqDiff, Nat.reduceAdd, Int.reduceToNat, reduceCtorEq, Nat.reduceLeDiff, Nat.reduceSub, Nat.reduceDiv, Nat.reduceMod, Nat.reduceMul, d1060_b0, h]
def ordE (a b : Ed) : Int := if cmpI a.1 b.1 = 0 then cmpI a.2 b.2 else cmpI a.1 b.1
theorem byends_run {a b : Ed} : runP tab 1223 [.agg [.int .i64 a.1, .int .i64 a.2], .agg [.int .i64 b.1, .int .i64 b.2]] [] = some (.int .i64 (ordE a b), []) := by
  refine runP_fn t1223 rfl ?_
  have g1 := compare_run (a := a.1) (b := b.1)
  have g2 := compare_run (a := a.2) (b := b.2)
  have g3 := or_run (a := cmpI a.1 b.1) (b := cmpI a.2 b.2)
  unfold ordE
  simp (config := { maxSteps := 1000000 }) (disch := omega) only [go_sem, ↓reduceIte, Nat.reduceEqDiff, Nat.reduceAdd, Int.reduceToNat, reduceCtorEq, Nat.reduceLeDiff, Nat.reduceSub, Nat.reduceDiv, Nat.reduceMod, Nat.reduceMul, d1223, g1, g2, g3]
theorem byends_mk : runP tab 1216 [] [] = some (.agg [.clo 1223 [] []], []) := by
  refine runP_fn t1216 rfl ?_
  simp (config := { maxSteps := 1000000 }) (disch := omega) only [go_sem, ↓reduceIte, Nat.reduceEqDiff, Nat.reduceAdd, Int.reduceToNat, reduceCtorEq, Nat.reduceLeDiff, Nat.reduceSub, Nat.reduceDiv, Nat.reduceMod, Nat.reduceMul, d1216]
theorem bytext_mk : runP tab 1218 [] [] = some (.agg [.clo 1224 [] []], []) := by
  refine runP_fn t1218 rfl ?_
  simp (config := { maxSteps := 1000000 }) (disch := omega) only [go_sem, ↓reduceIte, Nat.reduceEqDiff, Nat.reduceAdd, Int.reduceToNat, reduceCtorEq, Nat.reduceLeDiff, Nat.reduceSub, Nat.reduceDiv, Nat.reduceMod, Nat.reduceMul, d1218]
/-- Edges that rise. -/
def risE (l : List Ed) : Prop := ∀ i, i + 1 < l.length → ordE (l.getD i default) (l.getD (i + 1) default) < 0
theorem rises_run {l : List Ed} (hl : l.length ≤ 1000000) (h : risE l) : runP tab 1215 [.sl 2 (prs l), .agg [.clo 1223 [] []]] [] = some (.bool true, []) := by
  refine runP_fn t1215 rfl ?_
  simp (config := { maxSteps := 1000000 }) (disch := omega) only [go_sem, ↓reduceIte, Nat.reduceEqDiff, Nat.reduceAdd, Int.reduceToNat, reduceCtorEq, Nat.reduceLeDiff, Nat.reduceSub, Nat.reduceDiv, Nat.reduceMod, Nat.reduceMul, d1215]
  refine Ev_loop0 (fun i => ⟨[(0, .sl 2 (prs l)), (3, .ref 0 0), (5, .int .i64 (i + 1 : Int))], [.row false [.clo 1223 [] []]], 0, [(0, 1, [0, 3, 5], [(3, 0)])]⟩) (l.length - 1) (by simp) (fun i hi => ?_) ?_
  · have q := h i (by omega)
    have e1 := prs_at (l := l) (i := i) (by omega)
    have e2 := prs_at (l := l) (i := i + 1) (by omega)
    have g := byends_run (a := l.getD i default) (b := l.getD (i + 1) default)
    have q1 : ((i : Int) + 1 - 1) = i := by omega
    have q2 : ((i : Int) + 1).toNat = i + 1 := by omega
    simp (config := { maxSteps := 1000000 }) (disch := omega) only [go_sem, ↓reduceIte, Nat.reduceEqDiff, Nat.reduceAdd, Int.reduceToNat, reduceCtorEq, Nat.reduceLeDiff, Nat.reduceSub, Nat.reduceDiv, Nat.reduceMod, Nat.reduceMul, d1215_b0, e1, e2, g, q1, q2]
  · simp (config := { maxSteps := 1000000 }) (disch := omega) only [go_sem, ↓reduceIte, Nat.reduceEqDiff, Nat.reduceAdd, Int.reduceToNat, reduceCtorEq, Nat.reduceLeDiff, Nat.reduceSub, Nat.reduceDiv, Nat.reduceMod, Nat.reduceMul, d1215_b0]

theorem all_nil : runP tab 1221 [.sl 1 [], .clo 1222 [] []] [] = some (.bool true, []) := by
  refine runP_fn t1221 rfl ?_
  simp (config := { maxSteps := 1000000 }) (disch := omega) only [go_sem, ↓reduceIte, Nat.reduceEqDiff, Nat.reduceAdd, Int.reduceToNat, reduceCtorEq, Nat.reduceLeDiff, Nat.reduceSub, Nat.reduceDiv, Nat.reduceMod, Nat.reduceMul, d1221]
  refine Ev_loop0 (fun i => ⟨[(1, .clo 1222 [] []), (7, .sl 1 []), (8, .int .i64 0), (9, .int .i64 (i : Int))], [], 0, [(0, 0, [1, 7, 8, 9], [])]⟩) 0 rfl (fun i hi => by omega) ?_
  simp (config := { maxSteps := 1000000 }) (disch := omega) only [go_sem, ↓reduceIte, Nat.reduceEqDiff, Nat.reduceAdd, Int.reduceToNat, reduceCtorEq, Nat.reduceLeDiff, Nat.reduceSub, Nat.reduceDiv, Nat.reduceMod, Nat.reduceMul, d1221_b0]
theorem rises_nil : runP tab 1217 [.sl 1 [], .agg [.clo 1224 [] []]] [] = some (.bool true, []) := by
  refine runP_fn t1217 rfl ?_
  simp (config := { maxSteps := 1000000 }) (disch := omega) only [go_sem, ↓reduceIte, Nat.reduceEqDiff, Nat.reduceAdd, Int.reduceToNat, reduceCtorEq, Nat.reduceLeDiff, Nat.reduceSub, Nat.reduceDiv, Nat.reduceMod, Nat.reduceMul, d1217]
  refine Ev_loop0 (fun i => ⟨[(0, .sl 1 []), (3, .ref 0 0), (5, .int .i64 (i + 1 : Int))], [.row false [.clo 1224 [] []]], 0, [(0, 1, [0, 3, 5], [(3, 0)])]⟩) 0 (by simp) (fun i hi => by omega) ?_
  simp (config := { maxSteps := 1000000 }) (disch := omega) only [go_sem, ↓reduceIte, Nat.reduceEqDiff, Nat.reduceAdd, Int.reduceToNat, reduceCtorEq, Nat.reduceLeDiff, Nat.reduceSub, Nat.reduceDiv, Nat.reduceMod, Nat.reduceMul, d1217_b0]

/-- Rows of nothing. -/
def nls (n : Nat) : List AV := List.replicate n .nils
theorem nls_len (n : Nat) : (nls n).length = n := by simp [nls]
theorem nls_okc (n : Nat) : (nls n).all AV.okc = true := by simp [nls, AV.okc]
theorem nls_all {p : AV → Bool} (h : AV.nils.allv p = true) : ∀ n, allL p (nls n) = true
  | 0 => rfl
  | n + 1 => by rw [nls, List.replicate_succ, allL, h]; exact nls_all h n
theorem nls_map {f : AV → AV} (h : AV.nils.mapv f = .nils) : ∀ n, mapL f (nls n) = nls n
  | 0 => rfl
  | n + 1 => by
    rw [nls, List.replicate_succ, mapL, h]
    have := nls_map h n
    rw [nls] at this
    rw [this]
theorem nls_noid' (n : Nat) : allL pnoid (nls n) = true := nls_all rfl n
theorem nls_noinl' (n : Nat) : allL pnoinl (nls n) = true := nls_all rfl n
theorem nls_idlt' (k n : Nat) : allL (pidlt k) (nls n) = true := nls_all rfl n
theorem nls_frz' (n : Nat) : mapL frz1 (nls n) = nls n := nls_map rfl n
theorem nls_ren' (f : Nat → Nat) (n : Nat) : mapL (ren1 f) (nls n) = nls n := nls_map rfl n
theorem nls_ids (n : Nat) : idsL (nls n) = [] := noidL_ids _ (nls_noid' n)
theorem nls_rdc {n i : Nat} (h : i < n) : rdc ((nls n).drop i) none = some .nils := by
  rw [nls, List.drop_replicate]
  obtain ⟨k, hk⟩ : ∃ k, n - i = k + 1 := ⟨n - i - 1, by omega⟩
  rw [hk]; rfl
attribute [go_sem] nls_len nls_okc nls_noid' nls_noinl' nls_idlt' nls_frz' nls_ren' nls_ids

theorem ghas_run {n v : Int} {l : List AV} {ws : List AV} : runP tab 1220 [.agg [.int .i64 n, .sl 2 l, .sl 1 ws], .int .i64 v] [] = some (.bool (decide (0 ≤ v ∧ v < n)), []) := by
  refine runP_fn t1220 rfl ?_
  by_cases h1 : 0 ≤ v <;> by_cases h2 : v < n
  · rw [decide_eq_true ⟨h1, h2⟩]; simp (config := { maxSteps := 1000000 }) (disch := omega) only [go_sem, ↓reduceIte, Nat.reduceEqDiff, Nat.reduceAdd, Int.reduceToNat, reduceCtorEq, Nat.reduceLeDiff, Nat.reduceSub, Nat.reduceDiv, Nat.reduceMod, Nat.reduceMul, d1220]
  · rw [decide_eq_false (fun h => h2 h.2)]; simp (config := { maxSteps := 1000000 }) (disch := omega) only [go_sem, ↓reduceIte, Nat.reduceEqDiff, Nat.reduceAdd, Int.reduceToNat, reduceCtorEq, Nat.reduceLeDiff, Nat.reduceSub, Nat.reduceDiv, Nat.reduceMod, Nat.reduceMul, d1220]
  · rw [decide_eq_false (fun h => h1 h.1)]; simp (config := { maxSteps := 1000000 }) (disch := omega) only [go_sem, ↓reduceIte, Nat.reduceEqDiff, Nat.reduceAdd, Int.reduceToNat, reduceCtorEq, Nat.reduceLeDiff, Nat.reduceSub, Nat.reduceDiv, Nat.reduceMod, Nat.reduceMul, d1220]
  · rw [decide_eq_false (fun h => h1 h.1)]; simp (config := { maxSteps := 1000000 }) (disch := omega) only [go_sem, ↓reduceIte, Nat.reduceEqDiff, Nat.reduceAdd, Int.reduceToNat, reduceCtorEq, Nat.reduceLeDiff, Nat.reduceSub, Nat.reduceDiv, Nat.reduceMod, Nat.reduceMul, d1220]

end Go.Proofs.Ytmeakgiojhoofaa
