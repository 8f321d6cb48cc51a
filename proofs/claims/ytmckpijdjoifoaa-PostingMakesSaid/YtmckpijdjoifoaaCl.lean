/- Postings: the document's rows. -/
import Derived.Test.YtmckpijdjoifoaaCh
import Derived.Test.YtmckpijdjoifoaaGn
import Derived.Test.YtmckpijdjoifoaaGn
set_option linter.unusedSimpArgs false
set_option linter.unusedVariables false
namespace Go.Proofs.Ytmckpijdjoifoaa
set_option maxHeartbeats 4000000
set_option maxRecDepth 100000
theorem nrm_rising (l : List Int) : nrmL ltI l = rising l := by
  refine inc_ext ?_ (rising_inc l) fun x => by rw [nrm_mem ordrI, rising_mem]
  exact (nrm_asc ordrI l).imp fun h => by simpa [ltI] using h
theorem anyF_mem {P : List Po} {x : Int} : ∀ (ws : List Txt) (t : List Int), x ∈ ws.foldl (anyF P) t ↔ x ∈ t ∨ ∃ w ∈ ws, x ∈ findP P w
  | [], t => by simp
  | w :: ws, t => by
    rw [List.foldl_cons, anyF_mem ws, anyF, nrm_mem ordrI, List.mem_append]
    simp only [List.mem_cons, exists_eq_or_imp, or_assoc]
theorem anyP_asc {P : List Po} (ws : List Txt) : (anyP P ws).Pairwise (· < ·) := by
  unfold anyP
  rcases List.eq_nil_or_concat ws with rfl | ⟨l, b, rfl⟩
  · exact .nil
  · rw [List.concat_eq_append, List.foldl_append, List.foldl_cons, List.foldl_nil, anyF, nrm_rising]
    exact rising_inc _
theorem anyP_mem {P : List Po} {x : Int} (ws : List Txt) : x ∈ anyP P ws ↔ ∃ w ∈ ws, x ∈ findP P w := by
  rw [anyP, anyF_mem]; simp
theorem anyP_rising {P : List Po} (ws : List Txt) : rising (ws.flatMap (findP P)) = anyP P ws :=
  inc_ext (rising_inc _) (anyP_asc ws) fun x => by rw [rising_mem, anyP_mem, List.mem_flatMap]
end Go.Proofs.Ytmckpijdjoifoaa

namespace Go.Proofs.Ytmckpijdjoifoaa
set_option maxHeartbeats 4000000
set_option maxRecDepth 100000
theorem risesN_run : runP tab 1215 [.sl 1 [], .agg [.clo 1223 [] []]] [] = some (.bool true, []) := by
  refine runP_fn t1215 rfl ?_
  simp (config := { maxSteps := 1000000 }) (disch := omega) only [go_sem, ↓reduceIte, Nat.reduceEqDiff, reduceCtorEq, d1215]
  refine Ev_stop ?_
  simp (config := { maxSteps := 1000000 }) (disch := omega) only [go_sem, ↓reduceIte, Nat.reduceEqDiff, reduceCtorEq, d1215_b0]
theorem isgN_yes {n : Int} {W : Wds} (hg : okG ⟨n, [], W⟩) (h : isB ⟨n, [], W⟩ = true) : runP tab 1208 [.agg [.int .i64 n, .sl 1 [], .sl 1 (wcs W)]] [] = some (.bool true, []) := by
  refine runP_fn t1208 rfl ?_
  unfold isB at h
  simp only [Bool.and_eq_true] at h
  obtain ⟨h1, _, h2⟩ := h
  have gc := gck_nil hg
  rw [h1] at gc
  have hw := hg.w
  simp only at hw
  have gr := risesN_run
  have b1 := byends_mk
  have b2 := bytext_mk
  have hA : ∀ i, i < W.length → asc ltS ((W.getD i none).getD []) := Classical.byContradiction fun hn => by rw [wAsc_no (g := ⟨n, [], W⟩) hn] at h2; cases h2
  simp (config := { maxSteps := 1000000 }) (disch := omega) only [go_sem, ↓reduceIte, Nat.reduceEqDiff, Nat.reduceAdd, d1208, gc, gr, b1]
  refine Ev_loop0 (fun i => ⟨[(16, .sl 1 (wcs W)), (17, .int .i64 W.length), (18, .int .i64 (i : Int))], [.row false [.int .i64 n, .sl 1 [], .sl 1 (wcs W)]], 0, [(0, 1, [16, 17, 18], [])]⟩) W.length (by simp) (fun i hi => ?_) ?_
  · have e := wcs_at hi
    have gs := risesS_run (l := (W.getD i none).getD []) (by have := hg.r i hi; unfold Gr.w at this; simp only at this; omega)
    rw [ascB_iff.2 (hA i hi)] at gs
    cases hx : W.getD i none with
    | none =>
      rw [hx] at e gs
      simp only [Option.getD_none, strs, List.map_nil] at gs
      simp (config := { maxSteps := 1000000 }) (disch := omega) only [go_sem, ↓reduceIte, Nat.reduceEqDiff, d1208_b0, e, wc, b2, gs]
    | some l =>
      rw [hx] at e gs
      simp only [Option.getD_some] at gs
      simp (config := { maxSteps := 1000000 }) (disch := omega) only [go_sem, ↓reduceIte, Nat.reduceEqDiff, d1208_b0, e, wc, b2, gs, strs_noid']
  · simp (config := { maxSteps := 1000000 }) (disch := omega) only [go_sem, ↓reduceIte, Nat.reduceEqDiff, reduceCtorEq, d1208_b0]
theorem psame_run {P Q : List Po} (hP : okW P) (hQ : okW Q) : runP tab 1560 [.sl 2 (poS P), .sl 2 (poS Q)] [] = some (.bool (decide (P = Q)), []) := by
  refine runP_fn t1560 rfl ?_
  have LP := poS_len P
  have LQ := poS_len Q
  have dP : P.length * 2 / 2 = P.length := by omega
  have dQ : Q.length * 2 / 2 = Q.length := by omega
  have nP := hP.n
  have nQ := hQ.n
  by_cases hl : P.length = Q.length
  case neg =>
    rw [decide_eq_false (fun e => hl (by rw [e]))]
    simp (config := { maxSteps := 1000000 }) (disch := omega) only [go_sem, ↓reduceIte, Nat.reduceEqDiff, reduceCtorEq, d1560, LP, LQ, dP, dQ]
  simp (config := { maxSteps := 1000000 }) (disch := omega) only [go_sem, ↓reduceIte, Nat.reduceEqDiff, reduceCtorEq, d1560, LP, LQ, dQ, hl]
  have hst : ∀ i, i < P.length → runP tab 1016 [.sl 1 (ints (P.getD i default).2), .sl 1 (ints (Q.getD i default).2)] [] = some (.bool ((P.getD i default).2 == (Q.getD i default).2), []) := fun i hi =>
    ints_run (by have := hP.r _ (getD_mem' hi); omega) (by have := hQ.r _ (getD_mem' (show i < Q.length by omega)); omega)
  rcases first_ix' (fun i => P.getD i default = Q.getD i default) P.length with h | ⟨m, m1, m2, m3⟩
  · rw [decide_eq_true (show P = Q from List.ext_getElem hl fun i h1 h2 => by
      have := h i h1
      rw [List.getD_eq_getElem?_getD, List.getD_eq_getElem?_getD, List.getElem?_eq_getElem h1, List.getElem?_eq_getElem h2] at this
      exact this)]
    refine Ev_loop0 (fun i => ⟨[(0, .sl 2 (poS P)), (1, .sl 2 (poS Q)), (5, .int .i64 (i : Int))], [], 0, [(0, 0, [0, 1, 5], [])]⟩) P.length rfl (fun i hi => ?_) ?_
    · have hx := h i hi
      have g := hst i hi
      have e1 := poS_at1 hi
      have e2 := poS_at2 hi
      have e3 := poS_at1 (P := Q) (i := i) (by omega)
      have e4 := poS_at2 (P := Q) (i := i) (by omega)
      rw [hx] at g e1 e2
      simp (config := { maxSteps := 1000000 }) (disch := omega) only [go_sem, ↓reduceIte, Nat.reduceEqDiff, reduceCtorEq, d1560_b0, LP, LQ, dP, dQ, e1, e2, e3, e4, g]
    · simp (config := { maxSteps := 1000000 }) (disch := omega) only [go_sem, ↓reduceIte, Nat.reduceEqDiff, reduceCtorEq, d1560_b0, LP, dP]
  · rw [decide_eq_false (fun e => m3 (by rw [e]))]
    refine Ev_loop0 (fun i => ⟨[(0, .sl 2 (poS P)), (1, .sl 2 (poS Q)), (5, .int .i64 (i : Int))], [], 0, [(0, 0, [0, 1, 5], [])]⟩) m rfl (fun i hi => ?_) ?_
    · have hx := m2 i hi
      have g := hst i (by omega)
      have e1 := poS_at1 (P := P) (i := i) (by omega)
      have e2 := poS_at2 (P := P) (i := i) (by omega)
      have e3 := poS_at1 (P := Q) (i := i) (by omega)
      have e4 := poS_at2 (P := Q) (i := i) (by omega)
      rw [hx] at g e1 e2
      simp (config := { maxSteps := 1000000 }) (disch := omega) only [go_sem, ↓reduceIte, Nat.reduceEqDiff, reduceCtorEq, d1560_b0, LP, LQ, dP, dQ, e1, e2, e3, e4, g]
    · have g := hst m m1
      have e1 := poS_at1 m1
      have e2 := poS_at2 m1
      have e3 := poS_at1 (P := Q) (i := m) (by omega)
      have e4 := poS_at2 (P := Q) (i := m) (by omega)
      by_cases hx : (P.getD m default).1 = (Q.getD m default).1
      · have hy : ((P.getD m default).2 == (Q.getD m default).2) = false := by
          rw [beq_eq_false_iff_ne]
          exact fun e => m3 (Prod.ext hx e)
        rw [hy] at g
        simp (config := { maxSteps := 1000000 }) (disch := omega) only [go_sem, ↓reduceIte, Nat.reduceEqDiff, reduceCtorEq, d1560_b0, LP, LQ, dP, dQ, e1, e2, e3, e4, g, hx]
      · have hy : ((P.getD m default).1 == (Q.getD m default).1) = false := by rw [beq_eq_false_iff_ne]; exact hx
        simp (config := { maxSteps := 1000000 }) (disch := omega) only [go_sem, ↓reduceIte, Nat.reduceEqDiff, reduceCtorEq, d1560_b0, LP, LQ, dP, dQ, e1, e3, hy]
end Go.Proofs.Ytmckpijdjoifoaa

namespace Go.Proofs.Ytmckpijdjoifoaa
set_option maxHeartbeats 4000000
set_option maxRecDepth 100000
def plOk (n : Int) (l : List Int) (i : Nat) : Prop := (0 ≤ l.getD i 0 ∧ l.getD i 0 < n) ∧ (0 < i → l.getD (i - 1) 0 < l.getD i 0)
instance (n : Int) (l : List Int) (i : Nat) : Decidable (plOk n l i) := by unfold plOk; infer_instance
def okPl (n : Int) (l : List Int) : Prop := (∀ i, i < l.length → plOk n l i) ∧ 0 < l.length
instance (n : Int) (l : List Int) : Decidable (okPl n l) := by unfold okPl; infer_instance
theorem pplaces_run {n : Int} {l : List Int} (hl : l.length ≤ 1000000) : runP tab 1561 [.sl 1 (ints l), .int .i64 n] [] = some (.bool (decide (okPl n l)), []) := by
  refine runP_fn t1561 rfl ?_
  have L := ints_length l
  have hst : ∀ i, i < l.length → plOk n l i → Ev tab d1561_b0 ⟨[(0, .sl 1 (ints l)), (1, .int .i64 n), (7, .sl 1 (ints l)), (8, .int .i64 l.length), (9, .int .i64 (i : Int))], [], 0, [(0, 0, [0, 1, 7, 8, 9], [])]⟩ (fun x st => x = .normal ∧ st = ⟨[(0, .sl 1 (ints l)), (1, .int .i64 n), (7, .sl 1 (ints l)), (8, .int .i64 l.length), (9, .int .i64 ((i + 1 : Nat) : Int))], [], 0, [(0, 0, [0, 1, 7, 8, 9], [])]⟩) := by
    intro i hi ⟨⟨q1, q2⟩, q3⟩
    have e1 := ints_rdc0 hi
    by_cases h0 : 0 < i
    · have q3 := q3 h0
      have z : ((i : Int) - 1).toNat = i - 1 := by omega
      have e2 := ints_rdc0 (l := l) (i := i - 1) (by omega)
      simp (config := { maxSteps := 1000000 }) (disch := omega) only [go_sem, ↓reduceIte, Nat.reduceEqDiff, reduceCtorEq, d1561_b0, L, e1, e2, z]
    · simp (config := { maxSteps := 1000000 }) (disch := omega) only [go_sem, ↓reduceIte, Nat.reduceEqDiff, reduceCtorEq, d1561_b0, L, e1]
  simp (config := { maxSteps := 1000000 }) (disch := omega) only [go_sem, ↓reduceIte, Nat.reduceEqDiff, reduceCtorEq, d1561, L]
  rcases first_ix' (plOk n l) l.length with h | ⟨m, m1, m2, m3⟩
  · refine Ev_loop0 (fun i => ⟨[(0, .sl 1 (ints l)), (1, .int .i64 n), (7, .sl 1 (ints l)), (8, .int .i64 l.length), (9, .int .i64 (i : Int))], [], 0, [(0, 0, [0, 1, 7, 8, 9], [])]⟩) l.length rfl (fun i hi => hst i hi (h i hi)) ?_
    rw [show decide (okPl n l) = decide (0 < l.length) from decide_eq_decide.2 ⟨fun h => h.2, fun h2 => ⟨h, h2⟩⟩]
    by_cases h0 : 0 < l.length
    · rw [decide_eq_true h0]
      simp (config := { maxSteps := 1000000 }) (disch := omega) only [go_sem, ↓reduceIte, Nat.reduceEqDiff, reduceCtorEq, d1561_b0, L]
    · rw [decide_eq_false h0]
      simp (config := { maxSteps := 1000000 }) (disch := omega) only [go_sem, ↓reduceIte, Nat.reduceEqDiff, reduceCtorEq, d1561_b0, L]
  · rw [decide_eq_false (fun h : okPl n l => m3 (h.1 m m1))]
    refine Ev_loop0 (fun i => ⟨[(0, .sl 1 (ints l)), (1, .int .i64 n), (7, .sl 1 (ints l)), (8, .int .i64 l.length), (9, .int .i64 (i : Int))], [], 0, [(0, 0, [0, 1, 7, 8, 9], [])]⟩) m rfl (fun i hi => hst i (by omega) (m2 i hi)) ?_
    have e1 := ints_rdc0 m1
    by_cases c1 : 0 ≤ l.getD m 0
    case neg => simp (config := { maxSteps := 1000000 }) (disch := omega) only [go_sem, ↓reduceIte, Nat.reduceEqDiff, reduceCtorEq, d1561_b0, L, e1]
    by_cases c2 : l.getD m 0 < n
    case neg => simp (config := { maxSteps := 1000000 }) (disch := omega) only [go_sem, ↓reduceIte, Nat.reduceEqDiff, reduceCtorEq, d1561_b0, L, e1]
    have h0 : 0 < m := Classical.byContradiction fun h0 => m3 ⟨⟨c1, c2⟩, fun h => absurd h h0⟩
    have c3 : ¬ l.getD (m - 1) 0 < l.getD m 0 := fun h => m3 ⟨⟨c1, c2⟩, fun _ => h⟩
    have z : ((m : Int) - 1).toNat = m - 1 := by omega
    have e2 := ints_rdc0 (l := l) (i := m - 1) (by omega)
    simp (config := { maxSteps := 1000000 }) (disch := omega) only [go_sem, ↓reduceIte, Nat.reduceEqDiff, reduceCtorEq, d1561_b0, L, e1, e2, z]
def poOk (n : Int) (P : List Po) (i : Nat) : Prop := (wordB (P.getD i default).1 = true ∧ (0 < i → ltS (P.getD (i - 1) default).1 (P.getD i default).1 = true)) ∧ okPl n (P.getD i default).2
instance (n : Int) (P : List Po) (i : Nat) : Decidable (poOk n P i) := by unfold poOk; infer_instance
def okC (n : Int) (P : List Po) : Prop := (1 ≤ n ∧ n ≤ 200) ∧ ∀ i, i < P.length → poOk n P i
instance (n : Int) (P : List Po) : Decidable (okC n P) := by unfold okC; infer_instance
theorem pcheck_run {n : Int} {P : List Po} (hn : I64 n) (hP : okW P) (hw : ∀ p ∈ P, p.1.length ≤ 1000000) : runP tab 1555 [.sl 2 (poS P), .int .i64 n] [] = some (.bool (decide (okC n P)), []) := by
  refine runP_fn t1555 rfl ?_
  have L := poS_len P
  have Ld : P.length * 2 / 2 = P.length := by omega
  have hn := hP.n
  by_cases c1 : 1 ≤ n
  case neg =>
    rw [decide_eq_false (fun h : okC n P => c1 h.1.1)]
    simp (config := { maxSteps := 1000000 }) (disch := omega) only [go_sem, ↓reduceIte, Nat.reduceEqDiff, reduceCtorEq, d1555]
  by_cases c2 : n ≤ 200
  case neg =>
    rw [decide_eq_false (fun h : okC n P => c2 h.1.2)]
    simp (config := { maxSteps := 1000000 }) (disch := omega) only [go_sem, ↓reduceIte, Nat.reduceEqDiff, reduceCtorEq, d1555]
  simp (config := { maxSteps := 1000000 }) (disch := omega) only [go_sem, ↓reduceIte, Nat.reduceEqDiff, reduceCtorEq, d1555, L, Ld]
  have gw : ∀ i, i < P.length → runP tab 1222 [.str (P.getD i default).1] [] = some (.bool (wordB (P.getD i default).1), []) := fun i hi => word_run (hw _ (getD_mem' hi))
  have gp : ∀ i, i < P.length → runP tab 1561 [.sl 1 (ints (P.getD i default).2), .int .i64 n] [] = some (.bool (decide (okPl n (P.getD i default).2)), []) := fun i hi => pplaces_run (by have := hP.r _ (getD_mem' hi); omega)
  have hst : ∀ i, i < P.length → poOk n P i → Ev tab d1555_b0 ⟨[(0, .sl 2 (poS P)), (1, .int .i64 n), (13, .sl 2 (poS P)), (14, .int .i64 P.length), (15, .int .i64 (i : Int))], [], 0, [(0, 0, [0, 1, 13, 14, 15], [])]⟩ (fun x st => x = .normal ∧ st = ⟨[(0, .sl 2 (poS P)), (1, .int .i64 n), (13, .sl 2 (poS P)), (14, .int .i64 P.length), (15, .int .i64 ((i + 1 : Nat) : Int))], [], 0, [(0, 0, [0, 1, 13, 14, 15], [])]⟩) := by
    intro i hi ⟨⟨q1, q2⟩, q3⟩
    have e1 := poS_at hi
    have g1 := gw i hi
    have g2 := gp i hi
    rw [q1] at g1
    rw [decide_eq_true q3] at g2
    by_cases h0 : 0 < i
    · have q2 := q2 h0
      have z : ((i : Int) - 1).toNat = i - 1 := by omega
      have e2 := poS_at1 (P := P) (i := i - 1) (by omega)
      simp (config := { maxSteps := 1000000 }) (disch := omega) only [go_sem, ↓reduceIte, Nat.reduceEqDiff, Nat.reduceAdd, reduceCtorEq, d1555_b0, L, Ld, e1, e2, g1, g2, z, bl_lt, q2]
    · simp (config := { maxSteps := 1000000 }) (disch := omega) only [go_sem, ↓reduceIte, Nat.reduceEqDiff, Nat.reduceAdd, reduceCtorEq, d1555_b0, L, Ld, e1, g1, g2]
  rcases first_ix' (poOk n P) P.length with h | ⟨m, m1, m2, m3⟩
  · rw [decide_eq_true (show okC n P from ⟨⟨c1, c2⟩, h⟩)]
    refine Ev_loop0 (fun i => ⟨[(0, .sl 2 (poS P)), (1, .int .i64 n), (13, .sl 2 (poS P)), (14, .int .i64 P.length), (15, .int .i64 (i : Int))], [], 0, [(0, 0, [0, 1, 13, 14, 15], [])]⟩) P.length rfl (fun i hi => hst i hi (h i hi)) ?_
    simp (config := { maxSteps := 1000000 }) (disch := omega) only [go_sem, ↓reduceIte, Nat.reduceEqDiff, reduceCtorEq, d1555_b0]
  · rw [decide_eq_false (fun h : okC n P => m3 (h.2 m m1))]
    refine Ev_loop0 (fun i => ⟨[(0, .sl 2 (poS P)), (1, .int .i64 n), (13, .sl 2 (poS P)), (14, .int .i64 P.length), (15, .int .i64 (i : Int))], [], 0, [(0, 0, [0, 1, 13, 14, 15], [])]⟩) m rfl (fun i hi => hst i (by omega) (m2 i hi)) ?_
    have e1 := poS_at m1
    have g1 := gw m m1
    have g2 := gp m m1
    cases k1 : wordB (P.getD m default).1 with
    | false =>
      rw [k1] at g1
      simp (config := { maxSteps := 1000000 }) (disch := omega) only [go_sem, ↓reduceIte, Nat.reduceEqDiff, Nat.reduceAdd, reduceCtorEq, d1555_b0, L, Ld, e1, g1]
    | true =>
      rw [k1] at g1
      by_cases h0 : 0 < m
      · have z : ((m : Int) - 1).toNat = m - 1 := by omega
        have e2 := poS_at1 (P := P) (i := m - 1) (by omega)
        cases k2 : ltS (P.getD (m - 1) default).1 (P.getD m default).1 with
        | false => simp (config := { maxSteps := 1000000 }) (disch := omega) only [go_sem, ↓reduceIte, Nat.reduceEqDiff, Nat.reduceAdd, reduceCtorEq, d1555_b0, L, Ld, e1, e2, g1, z, bl_lt, k2]
        | true =>
          rw [decide_eq_false (fun h => m3 ⟨⟨k1, fun _ => k2⟩, h⟩)] at g2
          simp (config := { maxSteps := 1000000 }) (disch := omega) only [go_sem, ↓reduceIte, Nat.reduceEqDiff, Nat.reduceAdd, reduceCtorEq, d1555_b0, L, Ld, e1, e2, g1, g2, z, bl_lt, k2]
      · rw [decide_eq_false (fun h => m3 ⟨⟨k1, fun h => absurd h h0⟩, h⟩)] at g2
        simp (config := { maxSteps := 1000000 }) (disch := omega) only [go_sem, ↓reduceIte, Nat.reduceEqDiff, Nat.reduceAdd, reduceCtorEq, d1555_b0, L, Ld, e1, g1, g2]
end Go.Proofs.Ytmckpijdjoifoaa

namespace Go.Proofs.Ytmckpijdjoifoaa
set_option maxHeartbeats 4000000
set_option maxRecDepth 100000
theorem sorted_asc {α : Type} {lt : α → α → Bool} (O : Ordr lt) {l : List α} (h : l.Nodup) : asc lt (sorted lt l) := by
  have hn : (sorted lt l).Nodup := ((sorted_perm (lt := lt) l).nodup_iff).2 h
  have hs := sorted_srtd O l
  refine (hs.and hn).imp fun {x y} h => ?_
  obtain ⟨h1, h2⟩ := h
  cases hq : lt x y with
  | true => rfl
  | false => exact absurd (O.tri x y hq h1) h2
theorem sorted_same {α : Type} {lt : α → α → Bool} (O : Ordr lt) {l : List α} (h : asc lt l) (hn : l.Nodup) : sorted lt l = l :=
  asc_ext O (sorted_asc O hn) h fun x => (sorted_perm (lt := lt) l).mem_iff
def wantP : List Po := [([97], [0]), ([98], [0, 1])]
def wantW : Wds := [some [[97], [98]], some [[98]]]
theorem want_okP : okP wantP := ⟨by simp [wantP], by simp [wantP]⟩
theorem want_post : postP (pfx wantW 2) = wantP := by
  have hk : kyP (pfx wantW 2) = [[97], [98]] := by decide
  unfold postP
  rw [hk, sorted_same ordrS (by simp [asc, ltS]; decide) (by decide)]
  decide
theorem want_g : okG ⟨2, [], wantW⟩ := by
  refine ⟨by constructor <;> decide, by simp, by simp [wantW], fun i hi => ?_, fun i hi s hs => ?_⟩
  · have : i = 0 ∨ i = 1 := by simp [wantW] at hi; omega
    rcases this with rfl | rfl <;> decide
  · have : i = 0 ∨ i = 1 := by simp [wantW] at hi; omega
    rcases this with rfl | rfl
    · have : s = [97] ∨ s = [98] := by simpa [Gr.w, wantW] using hs
      rcases this with rfl | rfl <;> decide
    · have : s = [98] := by simpa [Gr.w, wantW] using hs
      subst this; decide
theorem want_is : isB ⟨2, [], wantW⟩ = true := by
  unfold isB
  rw [show okB ⟨2, [], wantW⟩ = true by decide, show ascB ltE ([] : List Ed) = true from ascB_iff.2 .nil, wAsc_yes]
  · rfl
  · intro i hi
    have : i = 0 ∨ i = 1 := by simp [wantW] at hi; omega
    rcases this with rfl | rfl
    · show asc ltS [[97], [98]]
      simp [asc, ltS]; decide
    · show asc ltS [[98]]
      simp [asc]
theorem want_all : allP wantP [[97], [98]] = [0] := by
  simp only [allP, allF, List.foldl, bothL, nrm_rising]
  decide
theorem want_any : anyP wantP [[97], [98]] = [0, 1] := by
  rw [← anyP_rising]; decide
theorem want_no : allP wantP [[99]] = [] := by
  simp only [allP, List.foldl, nrm_rising]
  decide
theorem want_c2 : decide (okC 2 wantP) = true := by decide
theorem want_c1 : decide (okC 1 wantP) = false := by decide
theorem posted_run : runP tabM 1553 [] [] = some (.bool true, []) := by
  refine runP_fn (show tabM 1553 = _ from t1553) rfl ?_
  have gm := pmake_gen (s := 1) want_g (up (isgN_yes want_g want_is))
  rw [show (pfx (Gr.W ⟨2, [], wantW⟩) (List.length (Gr.W ⟨2, [], wantW⟩))) = pfx wantW 2 from rfl, want_post] at gm
  have ga := up (all05_run want_okP (ws := [[97], [98]]) (by decide))
  rw [want_all, if_neg (by simp)] at ga
  have gy := up (any05_run want_okP (ws := [[97], [98]]) (by decide))
  rw [want_any, if_neg (by simp)] at gy
  have gn := up (all05_run want_okP (ws := [[99]]) (by decide))
  rw [want_no, if_neg (by simp)] at gn
  have g0 := up (all05_run want_okP (ws := []) (by decide))
  rw [show allP wantP [] = [] from rfl, if_pos rfl] at g0
  have gs := up (psame_run want_okP.w want_okP.w)
  rw [decide_eq_true rfl] at gs
  have i1 := up (ints_run (a := [0]) (b := [0]) (by decide) (by decide))
  have i2 := up (ints_run (a := [0, 1]) (b := [0, 1]) (by decide) (by decide))
  rw [show ([0] : List Int) == [0] from rfl] at i1
  rw [show ([0, 1] : List Int) == [0, 1] from rfl] at i2
  have c2 := up (pcheck_run (n := 2) (by constructor <;> decide) want_okP.w (by simp [wantP]))
  have c1 := up (pcheck_run (n := 1) (by constructor <;> decide) want_okP.w (by simp [wantP]))
  rw [want_c2] at c2
  rw [want_c1] at c1
  simp only [gT, prs, wcs, wc, wantW, wantP, poS, strs, ints, List.map_cons, List.map_nil, List.flatMap_nil] at gm ga gy gn g0 gs i1 i2 c1 c2
  simp (config := { maxSteps := 1000000 }) (disch := omega) only [go_sem, ↓reduceIte, Nat.reduceEqDiff, Nat.reduceAdd, Nat.reduceLeDiff, d1553, gm, ga, gy, gn, g0, gs, i1, i2, c1, c2]
end Go.Proofs.Ytmckpijdjoifoaa
