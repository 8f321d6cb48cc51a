/- Layer 16: messages split: rows of rows of messages; Split, the document's Split. -/
import Derived.Test.YtpbdbhpneihopaaYm
namespace Go.Proofs.Ytpbdbhpneihopaa
set_option linter.unusedSimpArgs false
set_option linter.unusedVariables false
set_option maxHeartbeats 4000000
set_option maxRecDepth 100000
def nls (n : Nat) : List AV := List.replicate n .nils
theorem nls_len (n : Nat) : (nls n).length = n := by simp [nls]
theorem nls_okc (n : Nat) : (nls n).all AV.okc = true := by simp [nls, AV.okc]
theorem nls_all {p : AV → Bool} (h : AV.nils.allv p = true) : ∀ n, allL p (nls n) = true
  | 0 => rfl
  | n + 1 => by rw [nls, List.replicate_succ, allL, h]; exact nls_all h n
theorem nls_map {f : AV → AV} (h : AV.nils.mapv f = .nils) : ∀ n, mapL f (nls n) = nls n
  | 0 => rfl
  | n + 1 => by
    rw [nls, List.replicate_succ, mapL, h]
    have := nls_map h n
    rw [nls] at this
    rw [this]
theorem nls_noid' (n : Nat) : allL pnoid (nls n) = true := nls_all rfl n
theorem nls_noinl' (n : Nat) : allL pnoinl (nls n) = true := nls_all rfl n
theorem nls_idlt' (k n : Nat) : allL (pidlt k) (nls n) = true := nls_all rfl n
theorem nls_frz' (n : Nat) : mapL frz1 (nls n) = nls n := nls_map rfl n
theorem nls_ren' (f : Nat → Nat) (n : Nat) : mapL (ren1 f) (nls n) = nls n := nls_map rfl n
theorem nls_ids (n : Nat) : idsL (nls n) = [] := noidL_ids _ (nls_noid' n)
theorem tile_nils : ∀ n, tile n [AV.nils] = nls n
  | 0 => rfl
  | n + 1 => by rw [tile, tile_nils n]; rfl
theorem set_rdc {l : List AV} {u : Nat} {x : AV} (h : u < l.length) : rdc ((l.set u x).drop u) none = some x := by
  simp [rdc, List.head?_drop, h]
attribute [go_sem] nls_len nls_okc nls_noid' nls_noinl' nls_idlt' nls_frz' nls_ren' nls_ids
def rcV (l : List Ml) : AV := if l = [] then .nils else .vec 4 (mls l)
def rcS (l : List Ml) : AV := if l = [] then .nils else .sl 4 (mls l)
def ocV (l : List (List Ml)) : List AV := l.map rcV
def ocS (l : List (List Ml)) : List AV := l.map rcS
theorem ocV_len (l : List (List Ml)) : (ocV l).length = l.length := by simp [ocV]
theorem ocS_len (l : List (List Ml)) : (ocS l).length = l.length := by simp [ocS]
theorem rcV_noid (l : List Ml) : (rcV l).allv pnoid = true := by unfold rcV; split <;> simp [AV.allv, pnoid, mls_noid', allL]
theorem rcS_noid (l : List Ml) : (rcS l).allv pnoid = true := by unfold rcS; split <;> simp [AV.allv, pnoid, mls_noid', allL]
theorem rcV_frz (l : List Ml) : (rcV l).mapv frz1 = rcS l := by unfold rcV rcS; split <;> simp [AV.mapv, frz1, mls_frz']
theorem rcV_okc (l : List Ml) : (rcV l).okc = true := by unfold rcV; split <;> simp [AV.okc]
theorem rcS_okc (l : List Ml) : (rcS l).okc = true := by unfold rcS; split <;> simp [AV.okc]
theorem ocV_noid' (l : List (List Ml)) : allL pnoid (ocV l) = true := by
  induction l with
  | nil => rfl
  | cons a l ih => simp only [ocV, List.map_cons, allL] at ih ⊢; rw [rcV_noid, ih]; rfl
theorem ocS_noid' (l : List (List Ml)) : allL pnoid (ocS l) = true := by
  induction l with
  | nil => rfl
  | cons a l ih => simp only [ocS, List.map_cons, allL] at ih ⊢; rw [rcS_noid, ih]; rfl
theorem ocV_frz' (l : List (List Ml)) : mapL frz1 (ocV l) = ocS l := by
  induction l with
  | nil => rfl
  | cons a l ih => simp only [ocV, ocS, List.map_cons, mapL] at ih ⊢; rw [rcV_frz, ih]
theorem ocV_okc (l : List (List Ml)) : (ocV l).all AV.okc = true := by
  induction l with
  | nil => rfl
  | cons a l ih => simp only [ocV, List.map_cons, List.all_cons] at ih ⊢; rw [rcV_okc, ih]; rfl
theorem ocS_okc (l : List (List Ml)) : (ocS l).all AV.okc = true := by
  induction l with
  | nil => rfl
  | cons a l ih => simp only [ocS, List.map_cons, List.all_cons] at ih ⊢; rw [rcS_okc, ih]; rfl
theorem ocV_ids (l : List (List Ml)) : idsL (ocV l) = [] := noidL_ids _ (ocV_noid' l)
theorem ocV_idlt' (n : Nat) (l : List (List Ml)) : allL (pidlt n) (ocV l) = true := idltL_noid _ (ocV_noid' l)
theorem ocV_ren' (f : Nat → Nat) (l : List (List Ml)) : mapL (ren1 f) (ocV l) = ocV l := renL_noid _ (ocV_noid' l)
theorem ocS_ids (l : List (List Ml)) : idsL (ocS l) = [] := noidL_ids _ (ocS_noid' l)
theorem ocS_idlt' (n : Nat) (l : List (List Ml)) : allL (pidlt n) (ocS l) = true := idltL_noid _ (ocS_noid' l)
theorem ocS_ren' (f : Nat → Nat) (l : List (List Ml)) : mapL (ren1 f) (ocS l) = ocS l := renL_noid _ (ocS_noid' l)
theorem ocS_at {l : List (List Ml)} {i : Nat} (h : i < l.length) : rdc ((ocS l).drop i) none = some (rcS (l.getD i [])) := by
  rw [ocS, ← List.map_drop, List.drop_eq_getElem_cons h, List.getD_eq_getElem?_getD, List.getElem?_eq_getElem h]; rfl
theorem flat_succ {rows : List (List Ml)} {i : Nat} (h : i < rows.length) : (rows.take (i + 1)).flatten = (rows.take i).flatten ++ rows.getD i [] := by
  rw [take_snoc [] h, List.flatten_append]; simp
theorem flat_le {rows : List (List Ml)} {n : Nat} (h : rows.flatten.length ≤ n) (i : Nat) : (rows.take i).flatten.length ≤ n := by
  have : rows.flatten = (rows.take i).flatten ++ (rows.drop i).flatten := by rw [← List.flatten_append, List.take_append_drop]
  rw [this, List.length_append] at h
  omega
theorem ocV_nil (n : Nat) : ocV (List.replicate n []) = nls n := by
  simp [ocV, rcV, nls]
theorem rows_set {R R' : List (List Ml)} {u : Nat} {x : List Ml} (hu : u < R.length) (hl : R'.length = R.length) (h1 : R'.getD u [] = x) (h2 : ∀ i, i ≠ u → R'.getD i [] = R.getD i []) : (ocV R).set u (rcV x) = ocV R' := by
  rw [ocV, ← List.map_set, ocV]
  congr 1
  refine List.ext_getElem (by simp [hl]) fun i a b => ?_
  rw [List.getElem_set]
  by_cases e : u = i
  · subst e
    rw [if_pos rfl, ← h1, List.getD_eq_getElem?_getD, List.getElem?_eq_getElem b]; rfl
  · rw [if_neg e]
    have := h2 i (fun h => e h.symm)
    rw [List.getD_eq_getElem?_getD, List.getD_eq_getElem?_getD, List.getElem?_eq_getElem b, List.getElem?_eq_getElem (by simpa using a)] at this
    exact this.symm
theorem getD_out {l : List (List Ml)} {i : Nat} (h : l.length ≤ i) : l.getD i [] = [] := by
  rw [List.getD_eq_getElem?_getD, List.getElem?_eq_none h]; rfl
theorem ocV_cut {R : List (List Ml)} {u : Nat} (h : u < R.length) : ((ocV R).drop u).take 1 = [rcV (R.getD u [])] := by
  rw [ocV, ← List.map_drop, List.drop_eq_getElem_cons h, List.getD_eq_getElem?_getD, List.getElem?_eq_getElem h]; rfl
theorem ocV_pk (n : Nat) (hp : List Blk) : ∀ R : List (List Ml), pkL n hp (ocV R) = some (ocV R, hp)
  | [] => rfl
  | r :: R => by
    have ih := ocV_pk n hp R
    have e : pk n hp (rcV r) = some (rcV r, hp) := by unfold rcV; split <;> rfl
    show pkL n hp (rcV r :: ocV R) = some (rcV r :: ocV R, hp)
    simp only [pkL, e, Option.bind_some, ih, Option.map_some]
theorem ocV_pkset {n id : Nat} {hp : List Blk} (hn : n ≤ id) : ∀ {R : List (List Ml)} {u : Nat} {r : List Ml}, u < R.length → R.getD u [] = r → r ≠ [] → hp[id]? = some (.row false (mls r)) → pkL n hp ((ocV R).set u (.own 4 id)) = some (ocV R, hp.set id .dead)
  | [], _, _, h, _, _, _ => by simp at h
  | x :: R, 0, r, _, e, hne, hb => by
    have e2 : x = r := e
    subst e2
    show pkL n hp (.own 4 id :: ocV R) = some (rcV x :: ocV R, _)
    have hnl : ¬ id < n := by omega
    simp only [pkL, pk, if_neg hnl, hb, mls_noid, if_true, Option.bind_some, ocV_pk, Option.map_some]
    rw [rcV, if_neg hne]
  | x :: R, u + 1, r, h, e, hne, hb => by
    have ih := ocV_pkset hn (R := R) (u := u) (r := r) (by simpa using h) (by simpa using e) hne hb
    have ex : pk n hp (rcV x) = some (rcV x, hp) := by unfold rcV; split <;> rfl
    show pkL n hp (rcV x :: (ocV R).set u (.own 4 id)) = some (rcV x :: ocV R, _)
    simp only [pkL, ex, Option.bind_some, ih, Option.map_some]
theorem allL_setno {p : AV → Bool} {x : AV} (hx : x.allv p = false) : ∀ {cs : List AV} {u : Nat}, u < cs.length → allL p (cs.set u x) = false
  | [], _, h => by simp at h
  | c :: cs, 0, _ => by simp [allL, hx]
  | c :: cs, u + 1, h => by simp [allL, allL_setno hx (cs := cs) (u := u) (by simpa using h)]
theorem ocV_self {R : List (List Ml)} {u : Nat} (h : u < R.length) : (ocV R).set u (rcV (R.getD u [])) = ocV R := by
  rw [ocV, ← List.map_set, List.getD_eq_getElem?_getD, List.getElem?_eq_getElem h]
  simp
attribute [go_sem] ocS_ids ocS_idlt' ocS_ren' ocV_len ocS_len ocV_noid' ocS_noid' ocV_frz' ocV_okc ocS_okc ocV_ids ocV_idlt' ocV_ren'
def spR (l : List Ml) (w i : Nat) : List (List Ml) := (List.range w).map fun u : Nat => (l.take i).filter fun m => decide (hmR m.v w = (u : Int))
theorem spR_len (l : List Ml) (w i : Nat) : (spR l w i).length = w := by simp [spR]
theorem spR_at {l : List Ml} {w i u : Nat} (h : u < w) : (spR l w i).getD u [] = (l.take i).filter fun m => decide (hmR m.v w = (u : Int)) := by
  rw [spR, List.getD_eq_getElem?_getD, List.getElem?_map, List.getElem?_range h]; rfl
theorem spR_zero (l : List Ml) (w : Nat) : ocV (spR l w 0) = nls w := by
  rw [← ocV_nil]; congr 1; simp [spR, List.map_const']
theorem spR_succ {l : List Ml} {w i u : Nat} (hi : i < l.length) (hu : u < w) (h : hmR (l.getD i default).v w = (u : Int)) : (ocV (spR l w i)).set u (.vec 4 (mls ((spR l w i).getD u [] ++ [l.getD i default]))) = ocV (spR l w (i + 1)) := by
  have := rows_set (R := spR l w i) (R' := spR l w (i + 1)) (u := u) (x := (spR l w i).getD u [] ++ [l.getD i default]) (by rw [spR_len]; exact hu) (by rw [spR_len, spR_len]) (by
    rw [spR_at hu, spR_at hu, take_snoc default hi, List.filter_append, List.filter_cons, decide_eq_true h]; simp) (fun j hj => by
    by_cases hjw : j < w
    · have hn : ¬ hmR (l.getD i default).v w = (j : Int) := by rw [h]; omega
      rw [spR_at hjw, spR_at hjw, take_snoc default hi, List.filter_append, List.filter_cons, decide_eq_false hn]; simp
    · rw [getD_out (by rw [spR_len]; omega), getD_out (by rw [spR_len]; omega)])
  rw [← this, rcV, if_neg (by simp)]
theorem spR_row (l : List Ml) (w i u : Nat) : ((spR l w i).getD u []).length ≤ l.length := by
  by_cases h : u < w
  · rw [spR_at h]
    refine Nat.le_trans (List.length_filter_le _ _) ?_
    rw [List.length_take]; omega
  · rw [getD_out (by rw [spR_len]; omega)]; simp
theorem home_nat {m : Ml} {w : Nat} (hw : 1 ≤ w ∧ w ≤ 16) (h : okM m = true) : ∃ u : Nat, u < w ∧ hmR m.v w = (u : Int) ∧ hmOk m.v w = true := by
  have ho := okM_iff.1 h
  have hk : hmOk m.v w = true := by unfold hmOk; exact decide_eq_true ⟨by omega, by omega, by omega, by omega⟩
  obtain ⟨h1, h2⟩ := hm_lt hk
  exact ⟨(hmR m.v w).toNat, by omega, by omega, hk⟩
def spS (l : List Ml) (w k : Nat) : St := ⟨[(1, .int .i64 (w : Int)), (6, .own 1 0), (24, .sl 4 (mls l)), (25, .int .i64 l.length), (26, .int .i64 (k : Int))], [.row false (ocV (spR l w k))], 0, [(0, 1, [1, 6, 24, 25, 26], [(6, 0)])]⟩
theorem sp_step {l : List Ml} {w k : Nat} (hl : l.length ≤ 100000) (hw : 1 ≤ w ∧ w ≤ 16) (ho : okMs l = true) (hk : k < l.length) : Ev tab d1610_b0 (spS l w k) (fun x st => x = .normal ∧ st = spS l w (k + 1)) := by
  have L := mls_len l
  have Ld : l.length * 4 / 4 = l.length := by omega
  obtain ⟨u, hu, hh, hok⟩ := home_nat hw (okMs_at ho hk)
  have s1 := spR_succ (l := l) (w := w) hk hu hh
  have l1 := spR_len l w k
  have b1 := spR_row l w k u
  have c1 := ocV_cut (R := spR l w k) (u := u) (by omega)
  have m1 : (ocV (spR l w k)).length = w := by rw [ocV_len]; exact l1
  have g := home_run (v := (l.getD k default).v) (w := (w : Int))
  rw [hh, hok] at g
  have q := mls_at hk
  have t2 : (u : Int) % (w : Int) = (u : Int) := Int.emod_eq_of_lt (by omega) (by omega)
  simp only [spS]
  have er0 : ∀ x : List Ml, mls x ++ mlC (l.getD k default) = mls (x ++ [l.getD k default]) := fun x => by rw [← mls_app]; simp [mls]
  generalize (spR l w k).getD u [] = ra at *
  generalize ocV (spR l w k) = X at *
  generalize l.getD k default = m at *
  have lr := mls_len ra
  simp only [mlC] at q er0
  by_cases ha : ra = []
  · subst ha; simp only [rcV, if_true] at c1
    have er1 := set_rdc (l := X) (u := u) (x := .nils) (by omega)
    have t1 : (X.set u .nils).set u (.vec 4 [.int .i64 m.s, .int .i64 m.b, .int .i64 m.v, .int .i64 m.d]) = ocV (spR l w (k + 1)) := by rw [List.set_set]; exact s1
    simp (config := { maxSteps := 1000000 }) (disch := omega) only [go_sem, ↓reduceIte, Nat.reduceEqDiff, Nat.reduceAdd, Int.reduceToNat, reduceCtorEq, Nat.reduceLeDiff, Nat.reduceSub, Nat.reduceDiv, Nat.reduceMod, Nat.reduceMul, d1610_b0, q, g, t2, c1, l1, m1, er1, t1, L, Ld]
  · simp only [rcV, if_neg ha] at c1
    have er1 := set_rdc (l := X) (u := u) (x := .own 4 2) (by omega)
    have t1 : (X.set u (.own 4 2)).set u (.vec 4 (mls (ra ++ [m]))) = ocV (spR l w (k + 1)) := by rw [List.set_set]; exact s1
    simp (config := { maxSteps := 1000000 }) (disch := omega) only [go_sem, ↓reduceIte, Nat.reduceEqDiff, Nat.reduceAdd, Int.reduceToNat, reduceCtorEq, Nat.reduceLeDiff, Nat.reduceSub, Nat.reduceDiv, Nat.reduceMod, Nat.reduceMul, d1610_b0, q, g, t2, c1, l1, m1, er1, t1, L, Ld, lr, er0]
theorem split_run {l : List Ml} {w : Nat} (hl : l.length ≤ 100000) (hw : 1 ≤ w ∧ w ≤ 16) (ho : okMs l = true) : runP tab 1610 [.sl 4 (mls l), .int .i64 (w : Int)] [] = some (.tup [.vec 1 (ocV (spR l w l.length)), .int .i64 0], []) := by
  refine runP_fn t1610 rfl ?_
  have L := mls_len l
  have Ld : l.length * 4 / 4 = l.length := by omega
  have gc := check_run (l := l) (by omega)
  rw [ho] at gc
  simp (config := { maxSteps := 1000000 }) (disch := omega) only [go_sem, ↓reduceIte, Nat.reduceEqDiff, Nat.reduceAdd, Int.reduceToNat, reduceCtorEq, Nat.reduceLeDiff, Nat.reduceSub, Nat.reduceDiv, Nat.reduceMod, Nat.reduceMul, d1610, gc, tile_nils, L, Ld]
  refine Ev_loop0 (spS l w) l.length (by simp [spS, spR_zero]) (fun i hi => sp_step hl hw ho hi) ?_
  have l1 := spR_len l w l.length
  simp only [spS]
  simp (config := { maxSteps := 1000000 }) (disch := omega) only [go_sem, ↓reduceIte, Nat.reduceEqDiff, Nat.reduceAdd, Int.reduceToNat, reduceCtorEq, Nat.reduceLeDiff, Nat.reduceSub, Nat.reduceDiv, Nat.reduceMod, Nat.reduceMul, d1610_b0, L, Ld]
end Go.Proofs.Ytpbdbhpneihopaa
