/-
  Rows are made of a graph.
-/
import Derived.Test.YtmeakgiojhoofaaHw
namespace Go.Proofs.Ytmeakgiojhoofaa
set_option linter.unusedSimpArgs false
set_option linter.unusedVariables false
set_option maxHeartbeats 4000000
set_option maxRecDepth 100000

/-- Edges of places. -/
structure okE (n : Nat) (E : List Ed) : Prop where
  lo : 1 ≤ n
  hi : n ≤ 200
  len : E.length ≤ 2000
  pl : ∀ i, i < E.length → 0 ≤ (E.getD i default).1 ∧ (E.getD i default).1 < n ∧ 0 ≤ (E.getD i default).2 ∧ (E.getD i default).2 < n
  ris : risE E
def grS (n : Nat) (E : List Ed) : List AV := [.int .i64 n, .sl 2 (prs E), .sl 1 (nls n)]

theorem gcheck_run {n : Nat} {E : List Ed} (h : okE n E) : runP tab 1214 [.agg (grS n E)] [] = some (.bool true, []) := by
  refine runP_fn t1214 rfl ?_
  have h1 := h.lo
  have h2 := h.hi
  have h3 := h.len
  simp (config := { maxSteps := 1000000 }) (disch := omega) only [go_sem, ↓reduceIte, Nat.reduceEqDiff, Nat.reduceAdd, Int.reduceToNat, reduceCtorEq, Nat.reduceLeDiff, Nat.reduceSub, Nat.reduceDiv, Nat.reduceMod, Nat.reduceMul, d1214, grS]
  refine Ev_loop0 (fun i => ⟨[(1, .ref 0 0), (30, .sl 2 (prs E)), (31, .int .i64 E.length), (32, .int .i64 (i : Int))], [.row false [.int .i64 n, .sl 2 (prs E), .sl 1 (nls n)]], 0, [(0, 1, [1, 30, 31, 32], [(1, 0)])]⟩) E.length (by simp) (fun i hi => ?_) ?_
  · have e := prs_at hi
    have p := h.pl i hi
    generalize E.getD i default = x at *
    have g1 := ghas_run (n := n) (v := x.1) (l := prs E) (ws := nls n)
    have g2 := ghas_run (n := n) (v := x.2) (l := prs E) (ws := nls n)
    rw [decide_eq_true ⟨p.1, p.2.1⟩] at g1
    rw [decide_eq_true ⟨p.2.2.1, p.2.2.2⟩] at g2
    simp (config := { maxSteps := 1000000 }) (disch := omega) only [go_sem, ↓reduceIte, Nat.reduceEqDiff, Nat.reduceAdd, Int.reduceToNat, reduceCtorEq, Nat.reduceLeDiff, Nat.reduceSub, Nat.reduceDiv, Nat.reduceMod, Nat.reduceMul, d1214_b0, e, g1, g2]
  · simp (config := { maxSteps := 1000000 }) (disch := omega) only [go_sem, ↓reduceIte, Nat.reduceEqDiff, Nat.reduceAdd, Int.reduceToNat, reduceCtorEq, Nat.reduceLeDiff, Nat.reduceSub, Nat.reduceDiv, Nat.reduceMod, Nat.reduceMul, d1214_b0]
    refine Ev_loop0 (fun i => ⟨[(50, .sl 1 (nls n)), (51, .int .i64 n), (52, .int .i64 (i : Int))], [.row false [.int .i64 n, .sl 2 (prs E), .sl 1 (nls n)]], 0, [(1, 1, [50, 51, 52], []), (0, 1, [1, 30, 31, 32], [(1, 0)])]⟩) n (by simp) (fun i hi => ?_) ?_
    · have e := nls_rdc hi
      have g := all_nil
      simp (config := { maxSteps := 1000000 }) (disch := omega) only [go_sem, ↓reduceIte, Nat.reduceEqDiff, Nat.reduceAdd, Int.reduceToNat, reduceCtorEq, Nat.reduceLeDiff, Nat.reduceSub, Nat.reduceDiv, Nat.reduceMod, Nat.reduceMul, d1214_b1, e, g]
    · simp (config := { maxSteps := 1000000 }) (disch := omega) only [go_sem, ↓reduceIte, Nat.reduceEqDiff, Nat.reduceAdd, Int.reduceToNat, reduceCtorEq, Nat.reduceLeDiff, Nat.reduceSub, Nat.reduceDiv, Nat.reduceMod, Nat.reduceMul, d1214_b1]

theorem is_run {n : Nat} {E : List Ed} (h : okE n E) : runP tab 1208 [.agg (grS n E)] [] = some (.bool true, []) := by
  refine runP_fn t1208 rfl ?_
  have h1 := h.lo
  have h2 := h.hi
  have h3 := h.len
  have gc := gcheck_run h
  have gr := rises_run (l := E) (by omega) h.ris
  have b1 := byends_mk
  have b2 := bytext_mk
  have gn := rises_nil
  simp only [grS] at gc
  simp (config := { maxSteps := 1000000 }) (disch := omega) only [go_sem, ↓reduceIte, Nat.reduceEqDiff, Nat.reduceAdd, Int.reduceToNat, reduceCtorEq, Nat.reduceLeDiff, Nat.reduceSub, Nat.reduceDiv, Nat.reduceMod, Nat.reduceMul, d1208, grS, gc, gr, b1]
  refine Ev_loop0 (fun i => ⟨[(16, .sl 1 (nls n)), (17, .int .i64 n), (18, .int .i64 (i : Int))], [.row false [.int .i64 n, .sl 2 (prs E), .sl 1 (nls n)]], 0, [(0, 1, [16, 17, 18], [])]⟩) n (by simp) (fun i hi => ?_) ?_
  · have e := nls_rdc hi
    simp (config := { maxSteps := 1000000 }) (disch := omega) only [go_sem, ↓reduceIte, Nat.reduceEqDiff, Nat.reduceAdd, Int.reduceToNat, reduceCtorEq, Nat.reduceLeDiff, Nat.reduceSub, Nat.reduceDiv, Nat.reduceMod, Nat.reduceMul, d1208_b0, e, b2, gn]
  · simp (config := { maxSteps := 1000000 }) (disch := omega) only [go_sem, ↓reduceIte, Nat.reduceEqDiff, Nat.reduceAdd, Int.reduceToNat, reduceCtorEq, Nat.reduceLeDiff, Nat.reduceSub, Nat.reduceDiv, Nat.reduceMod, Nat.reduceMul, d1208_b0]

def outR (E : List Ed) (n k : Nat) : List (List Int) := (List.range n).map fun v : Nat => ((E.take k).filter fun e => e.1 == (v : Int)).map (·.2)
def inR (E : List Ed) (n k : Nat) : List (List Int) := (List.range n).map fun v : Nat => ((E.take k).filter fun e => e.2 == (v : Int)).map (·.1)
theorem outR_len (E : List Ed) (n k : Nat) : (outR E n k).length = n := by simp [outR]
theorem inR_len (E : List Ed) (n k : Nat) : (inR E n k).length = n := by simp [inR]
theorem tile_nils : ∀ n, tile n [AV.nils] = nls n
  | 0 => rfl
  | n + 1 => by rw [tile, tile_nils n]; rfl
theorem ocV_nil (n : Nat) : ocV (List.replicate n []) = nls n := by
  simp [ocV, rcV, nls]
theorem outR_zero (E : List Ed) (n : Nat) : ocV (outR E n 0) = nls n := by
  rw [← ocV_nil]; congr 1; simp [outR, List.map_const']
theorem inR_zero (E : List Ed) (n : Nat) : ocV (inR E n 0) = nls n := by
  rw [← ocV_nil]; congr 1; simp [inR, List.map_const']
theorem rows_set {R R' : List (List Int)} {u : Nat} {x : List Int} (hu : u < R.length) (hl : R'.length = R.length) (h1 : R'.getD u [] = x) (h2 : ∀ i, i ≠ u → R'.getD i [] = R.getD i []) : (ocV R).set u (rcV x) = ocV R' := by
  rw [ocV, ← List.map_set, ocV]
  congr 1
  refine List.ext_getElem (by simp [hl]) fun i a b => ?_
  rw [List.getElem_set]
  by_cases e : u = i
  · subst e
    rw [if_pos rfl, ← h1, List.getD_eq_getElem?_getD, List.getElem?_eq_getElem b]; rfl
  · rw [if_neg e]
    have := h2 i (fun h => e h.symm)
    rw [List.getD_eq_getElem?_getD, List.getD_eq_getElem?_getD, List.getElem?_eq_getElem b, List.getElem?_eq_getElem (by simpa using a)] at this
    exact this.symm
theorem outR_at {E : List Ed} {n k v : Nat} (h : v < n) : (outR E n k).getD v [] = ((E.take k).filter fun e => e.1 == (v : Int)).map (·.2) := by
  rw [outR, List.getD_eq_getElem?_getD, List.getElem?_map, List.getElem?_range h]; rfl
theorem inR_at {E : List Ed} {n k v : Nat} (h : v < n) : (inR E n k).getD v [] = ((E.take k).filter fun e => e.2 == (v : Int)).map (·.1) := by
  rw [inR, List.getD_eq_getElem?_getD, List.getElem?_map, List.getElem?_range h]; rfl
theorem getD_out {l : List (List Int)} {i : Nat} (h : l.length ≤ i) : l.getD i [] = [] := by
  rw [List.getD_eq_getElem?_getD, List.getElem?_eq_none h]; rfl
theorem outR_succ {E : List Ed} {n k u : Nat} {w : Int} (hk : k < E.length) (he : E.getD k default = ((u : Int), w)) (hu : u < n) : (ocV (outR E n k)).set u (.vec 1 (ints ((outR E n k).getD u [] ++ [w]))) = ocV (outR E n (k + 1)) := by
  have := rows_set (R := outR E n k) (R' := outR E n (k + 1)) (u := u) (x := (outR E n k).getD u [] ++ [w]) (by rw [outR_len]; exact hu) (by rw [outR_len, outR_len]) (by
    rw [outR_at hu, outR_at hu, take_snoc default hk, List.filter_append, List.map_append, he]; simp) (fun i hi => by
    by_cases h : i < n
    · rw [outR_at h, outR_at h, take_snoc default hk, List.filter_append, List.map_append, he]
      simp; omega
    · rw [getD_out (by rw [outR_len]; omega), getD_out (by rw [outR_len]; omega)])
  rw [← this, rcV, if_neg (by simp)]
theorem inR_succ {E : List Ed} {n k u : Nat} {w : Int} (hk : k < E.length) (he : E.getD k default = (w, (u : Int))) (hu : u < n) : (ocV (inR E n k)).set u (.vec 1 (ints ((inR E n k).getD u [] ++ [w]))) = ocV (inR E n (k + 1)) := by
  have := rows_set (R := inR E n k) (R' := inR E n (k + 1)) (u := u) (x := (inR E n k).getD u [] ++ [w]) (by rw [inR_len]; exact hu) (by rw [inR_len, inR_len]) (by
    rw [inR_at hu, inR_at hu, take_snoc default hk, List.filter_append, List.map_append, he]; simp) (fun i hi => by
    by_cases h : i < n
    · rw [inR_at h, inR_at h, take_snoc default hk, List.filter_append, List.map_append, he]
      simp; omega
    · rw [getD_out (by rw [inR_len]; omega), getD_out (by rw [inR_len]; omega)])
  rw [← this, rcV, if_neg (by simp)]
theorem ocV_cut {R : List (List Int)} {u : Nat} (h : u < R.length) : ((ocV R).drop u).take 1 = [rcV (R.getD u [])] := by
  rw [ocV, ← List.map_drop, List.drop_eq_getElem_cons h, List.getD_eq_getElem?_getD, List.getElem?_eq_getElem h]; rfl
theorem set_rdc {l : List AV} {u : Nat} {x : AV} (h : u < l.length) : rdc ((l.set u x).drop u) none = some x := by
  simp [rdc, List.head?_drop, h]

theorem flat_bound {M : Nat} : ∀ {rows : List (List Int)}, (∀ r ∈ rows, r.length ≤ M) → rows.flatten.length ≤ rows.length * M
  | [], _ => by simp
  | r :: rows, h => by
    have ih := flat_bound (M := M) (rows := rows) (fun x hx => h x (by simp [hx]))
    have := h r (by simp)
    rw [List.flatten_cons, List.length_append, List.length_cons, Nat.add_mul]; omega
theorem outR_flat {E : List Ed} {n : Nat} (h : okE n E) : (outR E n E.length).flatten.length ≤ 1000000 := by
  have := flat_bound (M := 2000) (rows := outR E n E.length) (fun r hr => by
    obtain ⟨v, _, rfl⟩ := List.mem_map.1 hr
    have h1 := List.length_filter_le (fun e : Ed => e.1 == (v : Int)) (E.take E.length)
    have h2 := h.len
    rw [List.length_take] at h1
    rw [List.length_map]; omega)
  rw [outR_len] at this
  have := h.hi
  omega
theorem inR_flat {E : List Ed} {n : Nat} (h : okE n E) : (inR E n E.length).flatten.length ≤ 1000000 := by
  have := flat_bound (M := 2000) (rows := inR E n E.length) (fun r hr => by
    obtain ⟨v, _, rfl⟩ := List.mem_map.1 hr
    have h1 := List.length_filter_le (fun e : Ed => e.2 == (v : Int)) (E.take E.length)
    have h2 := h.len
    rw [List.length_take] at h1
    rw [List.length_map]; omega)
  rw [inR_len] at this
  have := h.hi
  omega
set_option maxHeartbeats 1500000 in
theorem make_run {n : Nat} {E : List Ed} (h : okE n E) : runP tab 1198 [.agg (grS n E)] [] = some (.tup [.agg [.vec 1 (ints (offs (outR E n E.length) n)), .vec 1 (ints (outR E n E.length).flatten), .vec 1 (ints (offs (inR E n E.length) n)), .vec 1 (ints (inR E n E.length).flatten)], .int .i64 0], []) := by
  refine runP_fn t1198 rfl ?_
  have h1 := h.lo
  have h2 := h.hi
  have h3 := h.len
  have gi := is_run h
  simp only [grS] at gi
  simp (config := { maxSteps := 1000000 }) (disch := omega) only [go_sem, ↓reduceIte, Nat.reduceEqDiff, Nat.reduceAdd, Int.reduceToNat, reduceCtorEq, Nat.reduceLeDiff, Nat.reduceSub, Nat.reduceDiv, Nat.reduceMod, Nat.reduceMul, d1198, grS, gi, tile_nils]
  refine Ev_loop0 (fun k => ⟨[(2, .ref 1 0), (4, .own 1 2), (5, .own 1 3), (20, .sl 2 (prs E)), (21, .int .i64 E.length), (22, .int .i64 (k : Int))], [.row false [.int .i64 n, .sl 2 (prs E), .sl 1 (nls n)], .row false [.nils, .nils, .nils, .nils], .row false (ocV (outR E n k)), .row false (ocV (inR E n k))], 0, [(0, 4, [2, 4, 5, 20, 21, 22], [(2, 1), (4, 2), (5, 3)])]⟩) E.length (by simp [outR_zero, inR_zero]) (fun k hk => ?_) ?_
  · have e := prs_at hk
    have p := h.pl k hk
    obtain ⟨u, w, hx⟩ : ∃ u w : Nat, E.getD k default = ((u : Int), (w : Int)) := ⟨(E.getD k default).1.toNat, (E.getD k default).2.toNat, Prod.ext (Int.toNat_of_nonneg p.1).symm (Int.toNat_of_nonneg p.2.2.1).symm⟩
    rw [hx] at e p
    have s1 := outR_succ (n := n) hk hx (by omega)
    have s2 := inR_succ (n := n) hk hx (by omega)
    have l1 := outR_len E n k
    have l2 := inR_len E n k
    have c1 := ocV_cut (R := outR E n k) (u := u) (by omega)
    have c2 := ocV_cut (R := inR E n k) (u := w) (by omega)
    have m1 : (ocV (outR E n k)).length = n := by rw [ocV_len]; exact l1
    have m2 : (ocV (inR E n k)).length = n := by rw [ocV_len]; exact l2
    have b1 : ((outR E n k).getD u []).length ≤ 2000 := by
      rw [outR_at (by omega), List.length_map]
      have := List.length_filter_le (fun e : Ed => e.1 == (u : Int)) (E.take k)
      rw [List.length_take] at this
      omega
    have b2 : ((inR E n k).getD w []).length ≤ 2000 := by
      rw [inR_at (by omega), List.length_map]
      have := List.length_filter_le (fun e : Ed => e.2 == (w : Int)) (E.take k)
      rw [List.length_take] at this
      omega
    generalize (outR E n k).getD u [] = ra at *
    generalize (inR E n k).getD w [] = rb at *
    generalize ocV (outR E n k) = X at *
    generalize ocV (inR E n k) = Y at *
    by_cases ha : ra = [] <;> by_cases hb : rb = []
    · subst ha; subst hb; simp only [rcV, if_true, if_true] at c1 c2
      have er1 := set_rdc (l := X) (u := u) (x := .nils) (by omega)
      have er2 := set_rdc (l := Y) (u := w) (x := .nils) (by omega)
      have t1 : (X.set u (.nils)).set u (.vec 1 [.int .i64 (w : Int)]) = ocV (outR E n (k + 1)) := by rw [List.set_set]; exact s1
      have t2 : (Y.set w (.nils)).set w (.vec 1 [.int .i64 (u : Int)]) = ocV (inR E n (k + 1)) := by rw [List.set_set]; exact s2
      simp (config := { maxSteps := 1000000 }) (disch := omega) only [go_sem, ↓reduceIte, Nat.reduceEqDiff, Nat.reduceAdd, Int.reduceToNat, reduceCtorEq, Nat.reduceLeDiff, Nat.reduceSub, Nat.reduceDiv, Nat.reduceMod, Nat.reduceMul, d1198_b0, e, c1, c2, l1, l2, m1, m2, er1, er2]
      refine ⟨rfl, rfl, ?_⟩
      simp (config := { maxSteps := 1000000 }) (disch := omega) only [go_sem, ↓reduceIte, Nat.reduceEqDiff, Nat.reduceAdd, Int.reduceToNat, reduceCtorEq, Nat.reduceLeDiff, Nat.reduceSub, Nat.reduceDiv, Nat.reduceMod, Nat.reduceMul, t1, t2]
    · subst ha; simp only [rcV, if_true, if_neg hb] at c1 c2
      have er1 := set_rdc (l := X) (u := u) (x := .nils) (by omega)
      have er2 := set_rdc (l := Y) (u := w) (x := .own 1 6) (by omega)
      have t1 : (X.set u (.nils)).set u (.vec 1 [.int .i64 (w : Int)]) = ocV (outR E n (k + 1)) := by rw [List.set_set]; exact s1
      have t2 : (Y.set w (.own 1 6)).set w (.vec 1 (ints (rb ++ [(u : Int)]))) = ocV (inR E n (k + 1)) := by rw [List.set_set]; exact s2
      simp (config := { maxSteps := 1000000 }) (disch := omega) only [go_sem, ↓reduceIte, Nat.reduceEqDiff, Nat.reduceAdd, Int.reduceToNat, reduceCtorEq, Nat.reduceLeDiff, Nat.reduceSub, Nat.reduceDiv, Nat.reduceMod, Nat.reduceMul, d1198_b0, e, c1, c2, l1, l2, m1, m2, er1, er2]
      refine ⟨rfl, rfl, ?_⟩
      simp (config := { maxSteps := 1000000 }) (disch := omega) only [go_sem, ↓reduceIte, Nat.reduceEqDiff, Nat.reduceAdd, Int.reduceToNat, reduceCtorEq, Nat.reduceLeDiff, Nat.reduceSub, Nat.reduceDiv, Nat.reduceMod, Nat.reduceMul, t1, t2]
    · subst hb; simp only [rcV, if_neg ha, if_true] at c1 c2
      have er1 := set_rdc (l := X) (u := u) (x := .own 1 5) (by omega)
      have er2 := set_rdc (l := Y) (u := w) (x := .nils) (by omega)
      have t1 : (X.set u (.own 1 5)).set u (.vec 1 (ints (ra ++ [(w : Int)]))) = ocV (outR E n (k + 1)) := by rw [List.set_set]; exact s1
      have t2 : (Y.set w (.nils)).set w (.vec 1 [.int .i64 (u : Int)]) = ocV (inR E n (k + 1)) := by rw [List.set_set]; exact s2
      simp (config := { maxSteps := 1000000 }) (disch := omega) only [go_sem, ↓reduceIte, Nat.reduceEqDiff, Nat.reduceAdd, Int.reduceToNat, reduceCtorEq, Nat.reduceLeDiff, Nat.reduceSub, Nat.reduceDiv, Nat.reduceMod, Nat.reduceMul, d1198_b0, e, c1, c2, l1, l2, m1, m2, er1, er2]
      refine ⟨rfl, rfl, ?_⟩
      simp (config := { maxSteps := 1000000 }) (disch := omega) only [go_sem, ↓reduceIte, Nat.reduceEqDiff, Nat.reduceAdd, Int.reduceToNat, reduceCtorEq, Nat.reduceLeDiff, Nat.reduceSub, Nat.reduceDiv, Nat.reduceMod, Nat.reduceMul, t1, t2]
    · simp only [rcV, if_neg ha, if_neg hb] at c1 c2
      have er1 := set_rdc (l := X) (u := u) (x := .own 1 5) (by omega)
      have er2 := set_rdc (l := Y) (u := w) (x := .own 1 7) (by omega)
      have t1 : (X.set u (.own 1 5)).set u (.vec 1 (ints (ra ++ [(w : Int)]))) = ocV (outR E n (k + 1)) := by rw [List.set_set]; exact s1
      have t2 : (Y.set w (.own 1 7)).set w (.vec 1 (ints (rb ++ [(u : Int)]))) = ocV (inR E n (k + 1)) := by rw [List.set_set]; exact s2
      simp (config := { maxSteps := 1000000 }) (disch := omega) only [go_sem, ↓reduceIte, Nat.reduceEqDiff, Nat.reduceAdd, Int.reduceToNat, reduceCtorEq, Nat.reduceLeDiff, Nat.reduceSub, Nat.reduceDiv, Nat.reduceMod, Nat.reduceMul, d1198_b0, e, c1, c2, l1, l2, m1, m2, er1, er2]
      refine ⟨rfl, rfl, ?_⟩
      simp (config := { maxSteps := 1000000 }) (disch := omega) only [go_sem, ↓reduceIte, Nat.reduceEqDiff, Nat.reduceAdd, Int.reduceToNat, reduceCtorEq, Nat.reduceLeDiff, Nat.reduceSub, Nat.reduceDiv, Nat.reduceMod, Nat.reduceMul, t1, t2]
  · have g1 := joined_run (rows := outR E n E.length) (by rw [outR_len]; omega) (outR_flat h)
    have g2 := joined_run (rows := inR E n E.length) (by rw [inR_len]; omega) (inR_flat h)
    rw [outR_len] at g1
    rw [inR_len] at g2
    simp (config := { maxSteps := 1000000 }) (disch := omega) only [go_sem, ↓reduceIte, Nat.reduceEqDiff, Nat.reduceAdd, Int.reduceToNat, reduceCtorEq, Nat.reduceLeDiff, Nat.reduceSub, Nat.reduceDiv, Nat.reduceMod, Nat.reduceMul, d1198_b0, g1, g2]
    trace_state

end Go.Proofs.Ytmeakgiojhoofaa
