/- Postings: the document's rows. -/
import Derived.Test.YtmckpijdjoifoaaCh
import Derived.Test.YtmckpijdjoifoaaGn
import Derived.Test.YtmckpijdjoifoaaGn
namespace Go.Proofs.Ytmckpijdjoifoaa
set_option linter.unusedSimpArgs false
set_option linter.unusedVariables false
set_option maxHeartbeats 4000000
set_option maxRecDepth 100000
theorem nrm_rising (l : List Int) : nrmL ltI l = rising l := by
  refine inc_ext ?_ (rising_inc l) fun x => by rw [nrm_mem ordrI, rising_mem]
  exact (nrm_asc ordrI l).imp fun h => by simpa [ltI] using h
theorem qin_run {l : List Int} {x : Int} (hl : l.length ≤ 1000000) : runP tab 1020 [.sl 1 (ints l), .int .i64 x] [] = some (.bool (decide (x ∈ l)), []) := by
  refine runP_fn t1020 rfl ?_
  simp (config := { maxSteps := 1000000 }) (disch := omega) only [go_sem, ↓reduceIte, Nat.reduceEqDiff, reduceCtorEq, d1020]
  rcases first_ix' (fun i => l.getD i 0 ≠ x) l.length with h | ⟨k, h1, h2, h3⟩
  · rw [show decide (x ∈ l) = false by
      rw [decide_eq_false_iff_not, memI]; rintro ⟨i, hi, e⟩; exact h i hi e]
    refine Ev_loop0 (fun i => ⟨[(0, .sl 1 (ints l)), (1, .int .i64 x), (5, .int .i64 (i : Int))], [], 0, [(0, 0, [0, 1, 5], [])]⟩) l.length rfl (fun i hi => ?_) ?_
    · have := h i (by omega)
      simp (config := { maxSteps := 1000000 }) (disch := omega) only [go_sem, ↓reduceIte, Nat.reduceEqDiff, reduceCtorEq, d1020_b0]
    · simp (config := { maxSteps := 1000000 }) (disch := omega) only [go_sem, ↓reduceIte, Nat.reduceEqDiff, reduceCtorEq, d1020_b0]
  · have h3 : l.getD k 0 = x := by simpa using h3
    rw [show decide (x ∈ l) = true by rw [decide_eq_true_eq, memI]; exact ⟨k, h1, h3⟩]
    refine Ev_loop0 (fun i => ⟨[(0, .sl 1 (ints l)), (1, .int .i64 x), (5, .int .i64 (i : Int))], [], 0, [(0, 0, [0, 1, 5], [])]⟩) k rfl (fun i hi => ?_) ?_
    · have := h2 i (by omega)
      simp (config := { maxSteps := 1000000 }) (disch := omega) only [go_sem, ↓reduceIte, Nat.reduceEqDiff, reduceCtorEq, d1020_b0]
    · simp (config := { maxSteps := 1000000 }) (disch := omega) only [go_sem, ↓reduceIte, Nat.reduceEqDiff, reduceCtorEq, d1020_b0, h3]
theorem rrs_snoc {l : List Int} {i : Nat} (h : i < l.length) : rising (l.take (i + 1)) = ins (rising (l.take i)) (l.getD i 0) := by unfold rising; rw [take_snoc 0 h, List.foldl_append]; rfl
theorem qrs_run {l : List Int} (hb : l.length ≤ 1000000) : runP tab 1021 [.sl 1 (ints l)] [] = some (.vec 1 (ints (rising l)), []) := by
  refine runP_fn t1021 rfl ?_
  simp (config := { maxSteps := 1000000 }) (disch := omega) only [go_sem, ↓reduceIte, Nat.reduceEqDiff, reduceCtorEq, d1021]
  refine Ev_loop0 (fun i => ⟨[(0, .sl 1 (ints l)), (3, .own 1 0), (4, .int .i64 (i : Int))], [.row false (ints (rising (l.take i)))], 0, [(0, 1, [0, 3, 4], [(3, 0)])]⟩) l.length (by simp [rising, ints]) (fun i hi => ?_) ?_
  · have hl := rising_len (l.take i)
    simp only [List.length_take] at hl
    rw [rrs_snoc hi]
    have a1 := lwb_le (rising (l.take i)) (l.getD i 0)
    have a2 := fun k => lwb_before (o := rising (l.take i)) (x := l.getD i 0) (i := k)
    have a3 := lwb_at (o := rising (l.take i)) (x := l.getD i 0)
    unfold ins
    generalize rising (l.take i) = o at *
    generalize hxx : l.getD i 0 = x at *
    generalize hj : lwb o x = j at *
    simp (config := { maxSteps := 1000000 }) (disch := omega) only [go_sem, ↓reduceIte, Nat.reduceEqDiff, reduceCtorEq, d1021_b0]
    refine Ev_loop0 (fun k => ⟨[(0, .sl 1 (ints l)), (3, .own 1 0), (4, .int .i64 (i : Int)), (5, .int .i64 (k : Int))], [.row false (ints o)], 0, [(1, 1, [0, 3, 4, 5], [(3, 0)]), (0, 1, [0, 3, 4], [(3, 0)])]⟩) j rfl (fun k hk => ?_) ?_
    · have := a2 k hk
      simp (config := { maxSteps := 1000000 }) (disch := omega) only [go_sem, ↓reduceIte, Nat.reduceEqDiff, reduceCtorEq, d1021_b1, hxx]
    · by_cases hjl : j < o.length
      · have a3 := a3 hjl
        by_cases hx : o.getD j 0 = x
        · rw [if_pos ⟨hjl, hx⟩]
          simp (config := { maxSteps := 1000000 }) (disch := omega) only [go_sem, ↓reduceIte, Nat.reduceEqDiff, reduceCtorEq, d1021_b1, hxx, hx]
        · rw [if_neg (fun h => hx h.2), show o.take j ++ x :: o.drop j = o.take j ++ [x] ++ o.drop j by simp]
          simp (config := { maxSteps := 1000000 }) (disch := omega) only [go_sem, ↓reduceIte, Nat.reduceEqDiff, Nat.reduceAdd, reduceCtorEq, Nat.reduceLeDiff, d1021_b1, hxx]
      · rw [if_neg (fun h => hjl h.1)]
        obtain rfl : j = o.length := by omega
        simp (config := { maxSteps := 1000000 }) (disch := omega) only [go_sem, ↓reduceIte, Nat.reduceEqDiff, Nat.reduceAdd, reduceCtorEq, Nat.reduceLeDiff, d1021_b1, hxx, List.drop_length, List.take_length]
  · simp (config := { maxSteps := 1000000 }) (disch := omega) only [go_sem, ↓reduceIte, Nat.reduceEqDiff, reduceCtorEq, d1021_b0, List.take_length]
theorem qfind_run {P : List Po} {w : Txt} (hP : P.length ≤ 1000000) (hp : ∀ p ∈ P, p.2.length ≤ 1000000) : runP tab 1600 [.sl 2 (poS P), .str w] [] = some (.vec 1 (ints (findP P w)), []) := by
  refine runP_fn t1600 rfl ?_
  have L := poS_len P
  have Ld : P.length * 2 / 2 = P.length := by omega
  simp (config := { maxSteps := 1000000 }) (disch := omega) only [go_sem, ↓reduceIte, Nat.reduceEqDiff, reduceCtorEq, d1600]
  rcases first_ix' (fun i => (P.getD i default).1 ≠ w) P.length with h | ⟨m, m1, m2, m3⟩
  · have e : findP P w = [] := by
      unfold findP
      rw [List.find?_eq_none.2 fun p hp => ?_]
      obtain ⟨i, hi, rfl⟩ := mem_getD (d := default) hp
      simpa using h i hi
    rw [e]
    refine Ev_loop0 (fun i => ⟨[(0, .sl 2 (poS P)), (1, .str w), (5, .int .i64 (i : Int))], [], 0, [(0, 0, [0, 1, 5], [])]⟩) P.length rfl (fun i hi => ?_) ?_
    · have e1 := poS_at1 hi
      have q : ((P.getD i default).1 == w) = false := by simpa using h i hi
      simp (config := { maxSteps := 1000000 }) (disch := omega) only [go_sem, ↓reduceIte, Nat.reduceEqDiff, reduceCtorEq, d1600_b0, L, Ld, e1, q]
    · simp (config := { maxSteps := 1000000 }) (disch := omega) only [go_sem, ↓reduceIte, Nat.reduceEqDiff, reduceCtorEq, d1600_b0, L, Ld]
      rfl
  · have m3 : (P.getD m default).1 = w := Classical.not_not.1 m3
    have e := findP_at m1 m2 m3
    rw [e]
    refine Ev_loop0 (fun i => ⟨[(0, .sl 2 (poS P)), (1, .str w), (5, .int .i64 (i : Int))], [], 0, [(0, 0, [0, 1, 5], [])]⟩) m rfl (fun i hi => ?_) ?_
    · have e1 := poS_at1 (P := P) (i := i) (by omega)
      have q : ((P.getD i default).1 == w) = false := by simpa using m2 i hi
      simp (config := { maxSteps := 1000000 }) (disch := omega) only [go_sem, ↓reduceIte, Nat.reduceEqDiff, reduceCtorEq, d1600_b0, L, Ld, e1, q]
    · have e1 := poS_at1 m1
      have e2 := poS_at2 m1
      have q : ((P.getD m default).1 == w) = true := by simpa using m3
      have gc := owni_run (l := (P.getD m default).2) (hp _ (getD_mem' m1))
      simp (config := { maxSteps := 1000000 }) (disch := omega) only [go_sem, ↓reduceIte, Nat.reduceEqDiff, reduceCtorEq, d1600_b0, L, Ld, e1, e2, q, gc]
theorem bothL_eq (a b : List Int) : rising (a.filter fun x => decide (x ∈ b)) = bothL a b := by
  rw [bothL, nrm_rising]
  refine inc_ext (rising_inc _) (rising_inc _) fun x => ?_
  simp only [rising_mem, List.mem_filter, decide_eq_true_eq]
  exact And.comm
theorem qboth_run {a b : List Int} (ha : a.length ≤ 1000000) (hb : b.length ≤ 1000000) : runP tab 1602 [.sl 1 (ints a), .sl 1 (ints b)] [] = some (.vec 1 (ints (bothL a b)), []) := by
  refine runP_fn t1602 rfl ?_
  have La := ints_length a
  simp (config := { maxSteps := 1000000 }) (disch := omega) only [go_sem, ↓reduceIte, Nat.reduceEqDiff, reduceCtorEq, d1602]
  refine Ev_loop0 (fun i => ⟨[(0, .sl 1 (ints a)), (1, .sl 1 (ints b)), (5, .own 1 0), (6, .int .i64 (i : Int))], [.row false (ints ((a.take i).filter fun x => decide (x ∈ b)))], 0, [(0, 1, [0, 1, 5, 6], [(5, 0)])]⟩) a.length rfl (fun i hi => ?_) ?_
  · have e1 := ints_rdc0 hi
    have g := qin_run (l := b) (x := a.getD i 0) hb
    have et : a.take (i + 1) = a.take i ++ [a.getD i 0] := take_snoc 0 hi
    have Lf := ints_length ((a.take i).filter fun x => decide (x ∈ b))
    have Lfl : ((a.take i).filter fun x => decide (x ∈ b)).length ≤ 1000000 := by
      have := List.length_filter_le (fun x => decide (x ∈ b)) (a.take i)
      rw [List.length_take] at this; omega
    rw [et, List.filter_append]
    by_cases hm : a.getD i 0 ∈ b
    · rw [decide_eq_true hm] at g
      rw [List.filter_cons_of_pos (p := fun x => decide (x ∈ b)) (decide_eq_true hm), List.filter_nil]
      simp (config := { maxSteps := 1000000 }) (disch := omega) only [go_sem, ↓reduceIte, Nat.reduceEqDiff, Nat.reduceAdd, reduceCtorEq, Nat.reduceLeDiff, d1602_b0, La, e1, g, Lf]
    · rw [decide_eq_false hm] at g
      rw [List.filter_cons_of_neg (p := fun x => decide (x ∈ b)) (by simpa using hm), List.filter_nil, List.append_nil]
      simp (config := { maxSteps := 1000000 }) (disch := omega) only [go_sem, ↓reduceIte, Nat.reduceEqDiff, reduceCtorEq, d1602_b0, La, e1, g]
  · rw [List.take_length]
    have hl := List.length_filter_le (fun x => decide (x ∈ b)) a
    have g := qrs_run (l := a.filter fun x => decide (x ∈ b)) (by omega)
    rw [bothL_eq] at g
    simp (config := { maxSteps := 1000000 }) (disch := omega) only [go_sem, ↓reduceIte, Nat.reduceEqDiff, reduceCtorEq, d1602_b0, La, g]
theorem qall_run {P : List Po} (hP : okP P) {ws : List Txt} (hw : ws.length ≤ 100000) : runP tab 1598 [.sl 2 (poS P), .sl 1 (strs ws)] [] = some (.tup [.vec 1 (ints (allP P ws)), .int .i64 (if ws = [] then 1 else 0)], []) := by
  refine runP_fn t1598 rfl ?_
  have L := strs_length ws
  have hn := hP.n
  have gf : ∀ w, runP tab 1600 [.sl 2 (poS P), .str w] [] = some (.vec 1 (ints (findP P w)), []) := fun w => qfind_run (by omega) (fun p hp => by have := hP.r p hp; omega)
  by_cases h0 : ws = []
  · subst h0
    simp (config := { maxSteps := 1000000 }) (disch := omega) only [go_sem, ↓reduceIte, Nat.reduceEqDiff, reduceCtorEq, d1598, strs]; rfl
  · obtain ⟨w, r, rfl⟩ := List.exists_cons_of_ne_nil h0
    have hp : 0 < (w :: r).length := List.length_pos_iff.2 h0
    have e0 := strs_rdc (l := w :: r) (i := 0) (by simp)
    simp only [List.drop_zero] at e0
    have hf := findP_len hP ((w :: r).getD 0 [])
    have gr := qrs_run (l := findP P ((w :: r).getD 0 [])) (by omega)
    rw [← nrm_rising] at gr
    rw [if_neg h0]
    have hw0 : (w :: r).getD 0 [] = w := rfl
    rw [hw0] at e0 hf gr
    simp (config := { maxSteps := 1000000 }) (disch := omega) only [go_sem, ↓reduceIte, Nat.reduceEqDiff, Nat.reduceAdd, Int.reduceToNat, reduceCtorEq, d1598, L, e0, gf, gr]
    refine Ev_loop0 (fun i => ⟨[(0, .sl 2 (poS P)), (1, .sl 1 (strs (w :: r))), (6, .own 1 1), (7, .int .i64 ((i : Int) + 1))], [.row false (ints (findP P w)), .row false (ints ((r.take i).foldl (allF P) (nrmL ltI (findP P w))))], 0, [(0, 2, [0, 1, 6, 7], [(6, 1)])]⟩) r.length rfl (fun i hi => ?_) ?_
    · have e1 := strs_rdc (l := w :: r) (i := i + 1) (by simp; omega)
      have e2 : (w :: r).getD (i + 1) [] = r.getD i [] := rfl
      have hl : (w :: r).length = r.length + 1 := rfl
      rw [e2] at e1
      have et : r.take (i + 1) = r.take i ++ [r.getD i []] := take_snoc [] hi
      rw [et, List.foldl_append, List.foldl_cons, List.foldl_nil]
      have ht := allF_len hP (r.take i) _ (nrm_findP hP w)
      have hf2 := findP_len hP (r.getD i [])
      have gb := qboth_run (a := (r.take i).foldl (allF P) (nrmL ltI (findP P w))) (b := findP P (r.getD i [])) (by omega) (by omega)
      have z : ((i : Int) + 1).toNat = i + 1 := by omega
      simp (config := { maxSteps := 1000000 }) (disch := omega) only [go_sem, ↓reduceIte, Nat.reduceEqDiff, Nat.reduceAdd, reduceCtorEq, Nat.reduceLeDiff, d1598_b0, L, hl, e1, z, gf, gb]
      rfl
    · rw [List.take_length]
      have hl : (w :: r).length = r.length + 1 := rfl
      simp (config := { maxSteps := 1000000 }) (disch := omega) only [go_sem, ↓reduceIte, Nat.reduceEqDiff, reduceCtorEq, d1598_b0, L, hl]
      rfl
theorem anyF_mem {P : List Po} {x : Int} : ∀ (ws : List Txt) (t : List Int), x ∈ ws.foldl (anyF P) t ↔ x ∈ t ∨ ∃ w ∈ ws, x ∈ findP P w
  | [], t => by simp
  | w :: ws, t => by
    rw [List.foldl_cons, anyF_mem ws, anyF, nrm_mem ordrI, List.mem_append]
    simp only [List.mem_cons, exists_eq_or_imp, or_assoc]
theorem anyP_asc {P : List Po} (ws : List Txt) : (anyP P ws).Pairwise (· < ·) := by
  unfold anyP
  rcases List.eq_nil_or_concat ws with rfl | ⟨l, b, rfl⟩
  · exact .nil
  · rw [List.concat_eq_append, List.foldl_append, List.foldl_cons, List.foldl_nil, anyF, nrm_rising]
    exact rising_inc _
theorem anyP_mem {P : List Po} {x : Int} (ws : List Txt) : x ∈ anyP P ws ↔ ∃ w ∈ ws, x ∈ findP P w := by
  rw [anyP, anyF_mem]; simp
theorem allF_mem {P : List Po} {x : Int} : ∀ (ws : List Txt) (t : List Int), x ∈ ws.foldl (allF P) t ↔ x ∈ t ∧ ∀ w ∈ ws, x ∈ findP P w
  | [], t => by simp
  | w :: ws, t => by
    rw [List.foldl_cons, allF_mem ws, allF, bothL, nrm_mem ordrI, List.mem_filter]
    simp only [List.mem_cons, forall_eq_or_imp, decide_eq_true_eq]
    exact ⟨fun h => ⟨h.1.2, h.1.1, h.2⟩, fun h => ⟨⟨h.2.1, h.1⟩, h.2.2⟩⟩
theorem allP_mem {P : List Po} {x : Int} {ws : List Txt} (h : ws ≠ []) : x ∈ allP P ws ↔ ∀ w ∈ ws, x ∈ findP P w := by
  obtain ⟨w, r, rfl⟩ := List.exists_cons_of_ne_nil h
  rw [allP, allF_mem, nrm_mem ordrI]
  simp only [List.mem_cons, forall_eq_or_imp]
theorem allP_asc {P : List Po} (ws : List Txt) : (allP P ws).Pairwise (· < ·) := by
  cases ws with
  | nil => exact .nil
  | cons w r =>
    rw [allP]
    rcases List.eq_nil_or_concat r with rfl | ⟨l, b, rfl⟩
    · rw [List.foldl_nil, nrm_rising]; exact rising_inc _
    · rw [List.concat_eq_append, List.foldl_append, List.foldl_cons, List.foldl_nil, allF, bothL, nrm_rising]
      exact rising_inc _
theorem anyP_rising {P : List Po} (ws : List Txt) : rising (ws.flatMap (findP P)) = anyP P ws :=
  inc_ext (rising_inc _) (anyP_asc ws) fun x => by rw [rising_mem, anyP_mem, List.mem_flatMap]
theorem flat_fl {P : List Po} (hP : okP P) : ∀ ws : List Txt, (ws.flatMap (findP P)).length ≤ ws.length * 1000
  | [] => by simp
  | w :: ws => by
    have := findP_len hP w
    have := flat_fl hP ws
    rw [List.flatMap_cons, List.length_append, List.length_cons]; omega
theorem qany_run {P : List Po} (hP : okP P) {ws : List Txt} (hw : ws.length ≤ 1000) : runP tab 1599 [.sl 2 (poS P), .sl 1 (strs ws)] [] = some (.tup [.vec 1 (ints (anyP P ws)), .int .i64 (if ws = [] then 1 else 0)], []) := by
  refine runP_fn t1599 rfl ?_
  have L := strs_length ws
  have hn := hP.n
  have gf : ∀ w, runP tab 1600 [.sl 2 (poS P), .str w] [] = some (.vec 1 (ints (findP P w)), []) := fun w => qfind_run (by omega) (fun p hp => by have := hP.r p hp; omega)
  by_cases h0 : ws = []
  · subst h0
    simp (config := { maxSteps := 1000000 }) (disch := omega) only [go_sem, ↓reduceIte, Nat.reduceEqDiff, reduceCtorEq, d1599, strs]; rfl
  · have hp : 0 < ws.length := List.length_pos_iff.2 h0
    rw [if_neg h0]
    simp (config := { maxSteps := 1000000 }) (disch := omega) only [go_sem, ↓reduceIte, Nat.reduceEqDiff, reduceCtorEq, d1599, L]
    refine Ev_loop0 (fun i => ⟨[(0, .sl 2 (poS P)), (1, .sl 1 (strs ws)), (6, .own 1 0), (7, .int .i64 (i : Int))], [.row false (ints ((ws.take i).flatMap (findP P)))], 0, [(0, 1, [0, 1, 6, 7], [(6, 0)])]⟩) ws.length rfl (fun i hi => ?_) ?_
    · have e1 := strs_rdc hi
      have et : ws.take (i + 1) = ws.take i ++ [ws.getD i []] := take_snoc [] hi
      have hf2 := findP_len hP (ws.getD i [])
      have hf3 := flat_fl hP (ws.take i)
      rw [List.length_take] at hf3
      have L2 := ints_length (findP P (ws.getD i []))
      have L3 := ints_length ((ws.take i).flatMap (findP P))
      rw [et, List.flatMap_append, List.flatMap_cons, List.flatMap_nil, List.append_nil]
      have q := gf (ws.getD i [])
      generalize findP P (ws.getD i []) = f at *
      generalize (ws.take i).flatMap (findP P) = X at *
      simp (config := { maxSteps := 1000000 }) (disch := omega) only [go_sem, ↓reduceIte, Nat.reduceEqDiff, Nat.reduceAdd, reduceCtorEq, Nat.reduceLeDiff, d1599_b0, L, e1, q, L2, L3]
    · rw [List.take_length]
      have hf3 := flat_fl hP ws
      have g := qrs_run (l := ws.flatMap (findP P)) (by omega)
      rw [anyP_rising] at g
      have L3 := ints_length (ws.flatMap (findP P))
      simp (config := { maxSteps := 1000000 }) (disch := omega) only [go_sem, ↓reduceIte, Nat.reduceEqDiff, reduceCtorEq, d1599_b0, L, g]
end Go.Proofs.Ytmckpijdjoifoaa

namespace Go.Proofs.Ytmckpijdjoifoaa
set_option linter.unusedSimpArgs false
set_option linter.unusedVariables false
set_option maxHeartbeats 4000000
set_option maxRecDepth 100000
theorem risesN_run : runP tab 1215 [.sl 1 [], .agg [.clo 1223 [] []]] [] = some (.bool true, []) := by
  refine runP_fn t1215 rfl ?_
  simp (config := { maxSteps := 1000000 }) (disch := omega) only [go_sem, ↓reduceIte, Nat.reduceEqDiff, reduceCtorEq, d1215]
  refine Ev_stop ?_
  simp (config := { maxSteps := 1000000 }) (disch := omega) only [go_sem, ↓reduceIte, Nat.reduceEqDiff, reduceCtorEq, d1215_b0]
theorem isgN_yes {n : Int} {W : Wds} (hg : okG ⟨n, [], W⟩) (h : isB ⟨n, [], W⟩ = true) : runP tab 1208 [.agg [.int .i64 n, .sl 1 [], .sl 1 (wcs W)]] [] = some (.bool true, []) := by
  refine runP_fn t1208 rfl ?_
  unfold isB at h
  simp only [Bool.and_eq_true] at h
  obtain ⟨h1, _, h2⟩ := h
  have gc := gck_nil hg
  rw [h1] at gc
  have hw := hg.w
  simp only at hw
  have gr := risesN_run
  have b1 := byends_mk
  have b2 := bytext_mk
  have hA : ∀ i, i < W.length → asc ltS ((W.getD i none).getD []) := Classical.byContradiction fun hn => by rw [wAsc_no (g := ⟨n, [], W⟩) hn] at h2; cases h2
  simp (config := { maxSteps := 1000000 }) (disch := omega) only [go_sem, ↓reduceIte, Nat.reduceEqDiff, Nat.reduceAdd, d1208, gc, gr, b1]
  refine Ev_loop0 (fun i => ⟨[(16, .sl 1 (wcs W)), (17, .int .i64 W.length), (18, .int .i64 (i : Int))], [.row false [.int .i64 n, .sl 1 [], .sl 1 (wcs W)]], 0, [(0, 1, [16, 17, 18], [])]⟩) W.length (by simp) (fun i hi => ?_) ?_
  · have e := wcs_at hi
    have gs := risesS_run (l := (W.getD i none).getD []) (by have := hg.r i hi; unfold Gr.w at this; simp only at this; omega)
    rw [ascB_iff.2 (hA i hi)] at gs
    cases hx : W.getD i none with
    | none =>
      rw [hx] at e gs
      simp only [Option.getD_none, strs, List.map_nil] at gs
      simp (config := { maxSteps := 1000000 }) (disch := omega) only [go_sem, ↓reduceIte, Nat.reduceEqDiff, d1208_b0, e, wc, b2, gs]
    | some l =>
      rw [hx] at e gs
      simp only [Option.getD_some] at gs
      simp (config := { maxSteps := 1000000 }) (disch := omega) only [go_sem, ↓reduceIte, Nat.reduceEqDiff, d1208_b0, e, wc, b2, gs, strs_noid']
  · simp (config := { maxSteps := 1000000 }) (disch := omega) only [go_sem, ↓reduceIte, Nat.reduceEqDiff, reduceCtorEq, d1208_b0]
theorem psame_run {P Q : List Po} (hP : okW P) (hQ : okW Q) : runP tab 1560 [.sl 2 (poS P), .sl 2 (poS Q)] [] = some (.bool (decide (P = Q)), []) := by
  refine runP_fn t1560 rfl ?_
  have LP := poS_len P
  have LQ := poS_len Q
  have dP : P.length * 2 / 2 = P.length := by omega
  have dQ : Q.length * 2 / 2 = Q.length := by omega
  have nP := hP.n
  have nQ := hQ.n
  by_cases hl : P.length = Q.length
  case neg =>
    rw [decide_eq_false (fun e => hl (by rw [e]))]
    simp (config := { maxSteps := 1000000 }) (disch := omega) only [go_sem, ↓reduceIte, Nat.reduceEqDiff, reduceCtorEq, d1560, LP, LQ, dP, dQ]
  simp (config := { maxSteps := 1000000 }) (disch := omega) only [go_sem, ↓reduceIte, Nat.reduceEqDiff, reduceCtorEq, d1560, LP, LQ, dQ, hl]
  have hst : ∀ i, i < P.length → runP tab 1016 [.sl 1 (ints (P.getD i default).2), .sl 1 (ints (Q.getD i default).2)] [] = some (.bool ((P.getD i default).2 == (Q.getD i default).2), []) := fun i hi =>
    ints_run (by have := hP.r _ (getD_mem' hi); omega) (by have := hQ.r _ (getD_mem' (show i < Q.length by omega)); omega)
  rcases first_ix' (fun i => P.getD i default = Q.getD i default) P.length with h | ⟨m, m1, m2, m3⟩
  · rw [decide_eq_true (show P = Q from List.ext_getElem hl fun i h1 h2 => by
      have := h i h1
      rw [List.getD_eq_getElem?_getD, List.getD_eq_getElem?_getD, List.getElem?_eq_getElem h1, List.getElem?_eq_getElem h2] at this
      exact this)]
    refine Ev_loop0 (fun i => ⟨[(0, .sl 2 (poS P)), (1, .sl 2 (poS Q)), (5, .int .i64 (i : Int))], [], 0, [(0, 0, [0, 1, 5], [])]⟩) P.length rfl (fun i hi => ?_) ?_
    · have hx := h i hi
      have g := hst i hi
      have e1 := poS_at1 hi
      have e2 := poS_at2 hi
      have e3 := poS_at1 (P := Q) (i := i) (by omega)
      have e4 := poS_at2 (P := Q) (i := i) (by omega)
      rw [hx] at g e1 e2
      simp (config := { maxSteps := 1000000 }) (disch := omega) only [go_sem, ↓reduceIte, Nat.reduceEqDiff, reduceCtorEq, d1560_b0, LP, LQ, dP, dQ, e1, e2, e3, e4, g]
    · simp (config := { maxSteps := 1000000 }) (disch := omega) only [go_sem, ↓reduceIte, Nat.reduceEqDiff, reduceCtorEq, d1560_b0, LP, dP]
  · rw [decide_eq_false (fun e => m3 (by rw [e]))]
    refine Ev_loop0 (fun i => ⟨[(0, .sl 2 (poS P)), (1, .sl 2 (poS Q)), (5, .int .i64 (i : Int))], [], 0, [(0, 0, [0, 1, 5], [])]⟩) m rfl (fun i hi => ?_) ?_
    · have hx := m2 i hi
      have g := hst i (by omega)
      have e1 := poS_at1 (P := P) (i := i) (by omega)
      have e2 := poS_at2 (P := P) (i := i) (by omega)
      have e3 := poS_at1 (P := Q) (i := i) (by omega)
      have e4 := poS_at2 (P := Q) (i := i) (by omega)
      rw [hx] at g e1 e2
      simp (config := { maxSteps := 1000000 }) (disch := omega) only [go_sem, ↓reduceIte, Nat.reduceEqDiff, reduceCtorEq, d1560_b0, LP, LQ, dP, dQ, e1, e2, e3, e4, g]
    · have g := hst m m1
      have e1 := poS_at1 m1
      have e2 := poS_at2 m1
      have e3 := poS_at1 (P := Q) (i := m) (by omega)
      have e4 := poS_at2 (P := Q) (i := m) (by omega)
      by_cases hx : (P.getD m default).1 = (Q.getD m default).1
      · have hy : ((P.getD m default).2 == (Q.getD m default).2) = false := by
          rw [beq_eq_false_iff_ne]
          exact fun e => m3 (Prod.ext hx e)
        rw [hy] at g
        simp (config := { maxSteps := 1000000 }) (disch := omega) only [go_sem, ↓reduceIte, Nat.reduceEqDiff, reduceCtorEq, d1560_b0, LP, LQ, dP, dQ, e1, e2, e3, e4, g, hx]
      · have hy : ((P.getD m default).1 == (Q.getD m default).1) = false := by rw [beq_eq_false_iff_ne]; exact hx
        simp (config := { maxSteps := 1000000 }) (disch := omega) only [go_sem, ↓reduceIte, Nat.reduceEqDiff, reduceCtorEq, d1560_b0, LP, LQ, dP, dQ, e1, e3, hy]
end Go.Proofs.Ytmckpijdjoifoaa

namespace Go.Proofs.Ytmckpijdjoifoaa
set_option linter.unusedSimpArgs false
set_option linter.unusedVariables false
set_option maxHeartbeats 4000000
set_option maxRecDepth 100000
def plOk (n : Int) (l : List Int) (i : Nat) : Prop := (0 ≤ l.getD i 0 ∧ l.getD i 0 < n) ∧ (0 < i → l.getD (i - 1) 0 < l.getD i 0)
instance (n : Int) (l : List Int) (i : Nat) : Decidable (plOk n l i) := by unfold plOk; infer_instance
def okPl (n : Int) (l : List Int) : Prop := (∀ i, i < l.length → plOk n l i) ∧ 0 < l.length
instance (n : Int) (l : List Int) : Decidable (okPl n l) := by unfold okPl; infer_instance
theorem pplaces_run {n : Int} {l : List Int} (hl : l.length ≤ 1000000) : runP tab 1561 [.sl 1 (ints l), .int .i64 n] [] = some (.bool (decide (okPl n l)), []) := by
  refine runP_fn t1561 rfl ?_
  have L := ints_length l
  have hst : ∀ i, i < l.length → plOk n l i → Ev tab d1561_b0 ⟨[(0, .sl 1 (ints l)), (1, .int .i64 n), (7, .sl 1 (ints l)), (8, .int .i64 l.length), (9, .int .i64 (i : Int))], [], 0, [(0, 0, [0, 1, 7, 8, 9], [])]⟩ (fun x st => x = .normal ∧ st = ⟨[(0, .sl 1 (ints l)), (1, .int .i64 n), (7, .sl 1 (ints l)), (8, .int .i64 l.length), (9, .int .i64 ((i + 1 : Nat) : Int))], [], 0, [(0, 0, [0, 1, 7, 8, 9], [])]⟩) := by
    intro i hi ⟨⟨q1, q2⟩, q3⟩
    have e1 := ints_rdc0 hi
    by_cases h0 : 0 < i
    · have q3 := q3 h0
      have z : ((i : Int) - 1).toNat = i - 1 := by omega
      have e2 := ints_rdc0 (l := l) (i := i - 1) (by omega)
      simp (config := { maxSteps := 1000000 }) (disch := omega) only [go_sem, ↓reduceIte, Nat.reduceEqDiff, reduceCtorEq, d1561_b0, L, e1, e2, z]
    · simp (config := { maxSteps := 1000000 }) (disch := omega) only [go_sem, ↓reduceIte, Nat.reduceEqDiff, reduceCtorEq, d1561_b0, L, e1]
  simp (config := { maxSteps := 1000000 }) (disch := omega) only [go_sem, ↓reduceIte, Nat.reduceEqDiff, reduceCtorEq, d1561, L]
  rcases first_ix' (plOk n l) l.length with h | ⟨m, m1, m2, m3⟩
  · refine Ev_loop0 (fun i => ⟨[(0, .sl 1 (ints l)), (1, .int .i64 n), (7, .sl 1 (ints l)), (8, .int .i64 l.length), (9, .int .i64 (i : Int))], [], 0, [(0, 0, [0, 1, 7, 8, 9], [])]⟩) l.length rfl (fun i hi => hst i hi (h i hi)) ?_
    rw [show decide (okPl n l) = decide (0 < l.length) from decide_eq_decide.2 ⟨fun h => h.2, fun h2 => ⟨h, h2⟩⟩]
    by_cases h0 : 0 < l.length
    · rw [decide_eq_true h0]
      simp (config := { maxSteps := 1000000 }) (disch := omega) only [go_sem, ↓reduceIte, Nat.reduceEqDiff, reduceCtorEq, d1561_b0, L]
    · rw [decide_eq_false h0]
      simp (config := { maxSteps := 1000000 }) (disch := omega) only [go_sem, ↓reduceIte, Nat.reduceEqDiff, reduceCtorEq, d1561_b0, L]
  · rw [decide_eq_false (fun h : okPl n l => m3 (h.1 m m1))]
    refine Ev_loop0 (fun i => ⟨[(0, .sl 1 (ints l)), (1, .int .i64 n), (7, .sl 1 (ints l)), (8, .int .i64 l.length), (9, .int .i64 (i : Int))], [], 0, [(0, 0, [0, 1, 7, 8, 9], [])]⟩) m rfl (fun i hi => hst i (by omega) (m2 i hi)) ?_
    have e1 := ints_rdc0 m1
    by_cases c1 : 0 ≤ l.getD m 0
    case neg => simp (config := { maxSteps := 1000000 }) (disch := omega) only [go_sem, ↓reduceIte, Nat.reduceEqDiff, reduceCtorEq, d1561_b0, L, e1]
    by_cases c2 : l.getD m 0 < n
    case neg => simp (config := { maxSteps := 1000000 }) (disch := omega) only [go_sem, ↓reduceIte, Nat.reduceEqDiff, reduceCtorEq, d1561_b0, L, e1]
    have h0 : 0 < m := Classical.byContradiction fun h0 => m3 ⟨⟨c1, c2⟩, fun h => absurd h h0⟩
    have c3 : ¬ l.getD (m - 1) 0 < l.getD m 0 := fun h => m3 ⟨⟨c1, c2⟩, fun _ => h⟩
    have z : ((m : Int) - 1).toNat = m - 1 := by omega
    have e2 := ints_rdc0 (l := l) (i := m - 1) (by omega)
    simp (config := { maxSteps := 1000000 }) (disch := omega) only [go_sem, ↓reduceIte, Nat.reduceEqDiff, reduceCtorEq, d1561_b0, L, e1, e2, z]
def poOk (n : Int) (P : List Po) (i : Nat) : Prop := (wordB (P.getD i default).1 = true ∧ (0 < i → ltS (P.getD (i - 1) default).1 (P.getD i default).1 = true)) ∧ okPl n (P.getD i default).2
instance (n : Int) (P : List Po) (i : Nat) : Decidable (poOk n P i) := by unfold poOk; infer_instance
def okC (n : Int) (P : List Po) : Prop := (1 ≤ n ∧ n ≤ 200) ∧ ∀ i, i < P.length → poOk n P i
instance (n : Int) (P : List Po) : Decidable (okC n P) := by unfold okC; infer_instance
theorem pcheck_run {n : Int} {P : List Po} (hn : I64 n) (hP : okW P) (hw : ∀ p ∈ P, p.1.length ≤ 1000000) : runP tab 1555 [.sl 2 (poS P), .int .i64 n] [] = some (.bool (decide (okC n P)), []) := by
  refine runP_fn t1555 rfl ?_
  have L := poS_len P
  have Ld : P.length * 2 / 2 = P.length := by omega
  have hn := hP.n
  by_cases c1 : 1 ≤ n
  case neg =>
    rw [decide_eq_false (fun h : okC n P => c1 h.1.1)]
    simp (config := { maxSteps := 1000000 }) (disch := omega) only [go_sem, ↓reduceIte, Nat.reduceEqDiff, reduceCtorEq, d1555]
  by_cases c2 : n ≤ 200
  case neg =>
    rw [decide_eq_false (fun h : okC n P => c2 h.1.2)]
    simp (config := { maxSteps := 1000000 }) (disch := omega) only [go_sem, ↓reduceIte, Nat.reduceEqDiff, reduceCtorEq, d1555]
  simp (config := { maxSteps := 1000000 }) (disch := omega) only [go_sem, ↓reduceIte, Nat.reduceEqDiff, reduceCtorEq, d1555, L, Ld]
  have gw : ∀ i, i < P.length → runP tab 1222 [.str (P.getD i default).1] [] = some (.bool (wordB (P.getD i default).1), []) := fun i hi => word_run (hw _ (getD_mem' hi))
  have gp : ∀ i, i < P.length → runP tab 1561 [.sl 1 (ints (P.getD i default).2), .int .i64 n] [] = some (.bool (decide (okPl n (P.getD i default).2)), []) := fun i hi => pplaces_run (by have := hP.r _ (getD_mem' hi); omega)
  have hst : ∀ i, i < P.length → poOk n P i → Ev tab d1555_b0 ⟨[(0, .sl 2 (poS P)), (1, .int .i64 n), (13, .sl 2 (poS P)), (14, .int .i64 P.length), (15, .int .i64 (i : Int))], [], 0, [(0, 0, [0, 1, 13, 14, 15], [])]⟩ (fun x st => x = .normal ∧ st = ⟨[(0, .sl 2 (poS P)), (1, .int .i64 n), (13, .sl 2 (poS P)), (14, .int .i64 P.length), (15, .int .i64 ((i + 1 : Nat) : Int))], [], 0, [(0, 0, [0, 1, 13, 14, 15], [])]⟩) := by
    intro i hi ⟨⟨q1, q2⟩, q3⟩
    have e1 := poS_at hi
    have g1 := gw i hi
    have g2 := gp i hi
    rw [q1] at g1
    rw [decide_eq_true q3] at g2
    by_cases h0 : 0 < i
    · have q2 := q2 h0
      have z : ((i : Int) - 1).toNat = i - 1 := by omega
      have e2 := poS_at1 (P := P) (i := i - 1) (by omega)
      simp (config := { maxSteps := 1000000 }) (disch := omega) only [go_sem, ↓reduceIte, Nat.reduceEqDiff, Nat.reduceAdd, reduceCtorEq, d1555_b0, L, Ld, e1, e2, g1, g2, z, bl_lt, q2]
    · simp (config := { maxSteps := 1000000 }) (disch := omega) only [go_sem, ↓reduceIte, Nat.reduceEqDiff, Nat.reduceAdd, reduceCtorEq, d1555_b0, L, Ld, e1, g1, g2]
  rcases first_ix' (poOk n P) P.length with h | ⟨m, m1, m2, m3⟩
  · rw [decide_eq_true (show okC n P from ⟨⟨c1, c2⟩, h⟩)]
    refine Ev_loop0 (fun i => ⟨[(0, .sl 2 (poS P)), (1, .int .i64 n), (13, .sl 2 (poS P)), (14, .int .i64 P.length), (15, .int .i64 (i : Int))], [], 0, [(0, 0, [0, 1, 13, 14, 15], [])]⟩) P.length rfl (fun i hi => hst i hi (h i hi)) ?_
    simp (config := { maxSteps := 1000000 }) (disch := omega) only [go_sem, ↓reduceIte, Nat.reduceEqDiff, reduceCtorEq, d1555_b0]
  · rw [decide_eq_false (fun h : okC n P => m3 (h.2 m m1))]
    refine Ev_loop0 (fun i => ⟨[(0, .sl 2 (poS P)), (1, .int .i64 n), (13, .sl 2 (poS P)), (14, .int .i64 P.length), (15, .int .i64 (i : Int))], [], 0, [(0, 0, [0, 1, 13, 14, 15], [])]⟩) m rfl (fun i hi => hst i (by omega) (m2 i hi)) ?_
    have e1 := poS_at m1
    have g1 := gw m m1
    have g2 := gp m m1
    cases k1 : wordB (P.getD m default).1 with
    | false =>
      rw [k1] at g1
      simp (config := { maxSteps := 1000000 }) (disch := omega) only [go_sem, ↓reduceIte, Nat.reduceEqDiff, Nat.reduceAdd, reduceCtorEq, d1555_b0, L, Ld, e1, g1]
    | true =>
      rw [k1] at g1
      by_cases h0 : 0 < m
      · have z : ((m : Int) - 1).toNat = m - 1 := by omega
        have e2 := poS_at1 (P := P) (i := m - 1) (by omega)
        cases k2 : ltS (P.getD (m - 1) default).1 (P.getD m default).1 with
        | false => simp (config := { maxSteps := 1000000 }) (disch := omega) only [go_sem, ↓reduceIte, Nat.reduceEqDiff, Nat.reduceAdd, reduceCtorEq, d1555_b0, L, Ld, e1, e2, g1, z, bl_lt, k2]
        | true =>
          rw [decide_eq_false (fun h => m3 ⟨⟨k1, fun _ => k2⟩, h⟩)] at g2
          simp (config := { maxSteps := 1000000 }) (disch := omega) only [go_sem, ↓reduceIte, Nat.reduceEqDiff, Nat.reduceAdd, reduceCtorEq, d1555_b0, L, Ld, e1, e2, g1, g2, z, bl_lt, k2]
      · rw [decide_eq_false (fun h => m3 ⟨⟨k1, fun h => absurd h h0⟩, h⟩)] at g2
        simp (config := { maxSteps := 1000000 }) (disch := omega) only [go_sem, ↓reduceIte, Nat.reduceEqDiff, Nat.reduceAdd, reduceCtorEq, d1555_b0, L, Ld, e1, g1, g2]
end Go.Proofs.Ytmckpijdjoifoaa

namespace Go.Proofs.Ytmckpijdjoifoaa
set_option linter.unusedSimpArgs false
set_option linter.unusedVariables false
set_option maxHeartbeats 4000000
set_option maxRecDepth 100000
theorem sorted_asc {α : Type} {lt : α → α → Bool} (O : Ordr lt) {l : List α} (h : l.Nodup) : asc lt (sorted lt l) := by
  have hn : (sorted lt l).Nodup := ((sorted_perm (lt := lt) l).nodup_iff).2 h
  have hs := sorted_srtd O l
  refine (hs.and hn).imp fun {x y} h => ?_
  obtain ⟨h1, h2⟩ := h
  cases hq : lt x y with
  | true => rfl
  | false => exact absurd (O.tri x y hq h1) h2
theorem sorted_same {α : Type} {lt : α → α → Bool} (O : Ordr lt) {l : List α} (h : asc lt l) (hn : l.Nodup) : sorted lt l = l :=
  asc_ext O (sorted_asc O hn) h fun x => (sorted_perm (lt := lt) l).mem_iff
def wantP : List Po := [([97], [0]), ([98], [0, 1])]
def wantW : Wds := [some [[97], [98]], some [[98]]]
theorem want_okP : okP wantP := ⟨by simp [wantP], by simp [wantP]⟩
theorem want_post : postP (pfx wantW 2) = wantP := by
  have hk : kyP (pfx wantW 2) = [[97], [98]] := by decide
  unfold postP
  rw [hk, sorted_same ordrS (by simp [asc, ltS]; decide) (by decide)]
  decide
theorem want_g : okG ⟨2, [], wantW⟩ := by
  refine ⟨by constructor <;> decide, by simp, by simp [wantW], fun i hi => ?_, fun i hi s hs => ?_⟩
  · have : i = 0 ∨ i = 1 := by simp [wantW] at hi; omega
    rcases this with rfl | rfl <;> decide
  · have : i = 0 ∨ i = 1 := by simp [wantW] at hi; omega
    rcases this with rfl | rfl
    · have : s = [97] ∨ s = [98] := by simpa [Gr.w, wantW] using hs
      rcases this with rfl | rfl <;> decide
    · have : s = [98] := by simpa [Gr.w, wantW] using hs
      subst this; decide
theorem want_is : isB ⟨2, [], wantW⟩ = true := by
  unfold isB
  rw [show okB ⟨2, [], wantW⟩ = true by decide, show ascB ltE ([] : List Ed) = true from ascB_iff.2 .nil, wAsc_yes]
  · rfl
  · intro i hi
    have : i = 0 ∨ i = 1 := by simp [wantW] at hi; omega
    rcases this with rfl | rfl
    · show asc ltS [[97], [98]]
      simp [asc, ltS]; decide
    · show asc ltS [[98]]
      simp [asc]
theorem want_all : allP wantP [[97], [98]] = [0] := by
  simp only [allP, allF, List.foldl, bothL, nrm_rising]
  decide
theorem want_any : anyP wantP [[97], [98]] = [0, 1] := by
  rw [← anyP_rising]; decide
theorem want_no : allP wantP [[99]] = [] := by
  simp only [allP, List.foldl, nrm_rising]
  decide
theorem want_c2 : decide (okC 2 wantP) = true := by decide
theorem want_c1 : decide (okC 1 wantP) = false := by decide
theorem posted_run : runP tabM 1553 [] [] = some (.bool true, []) := by
  refine runP_fn (show tabM 1553 = _ from t1553) rfl ?_
  have gm := pmake_gen (s := 1) want_g (up (isgN_yes want_g want_is))
  rw [show (pfx (Gr.W ⟨2, [], wantW⟩) (List.length (Gr.W ⟨2, [], wantW⟩))) = pfx wantW 2 from rfl, want_post] at gm
  have ga := up (all05_run want_okP (ws := [[97], [98]]) (by decide))
  rw [want_all, if_neg (by simp)] at ga
  have gy := up (any05_run want_okP (ws := [[97], [98]]) (by decide))
  rw [want_any, if_neg (by simp)] at gy
  have gn := up (all05_run want_okP (ws := [[99]]) (by decide))
  rw [want_no, if_neg (by simp)] at gn
  have g0 := up (all05_run want_okP (ws := []) (by decide))
  rw [show allP wantP [] = [] from rfl, if_pos rfl] at g0
  have gs := up (psame_run want_okP.w want_okP.w)
  rw [decide_eq_true rfl] at gs
  have i1 := up (ints_run (a := [0]) (b := [0]) (by decide) (by decide))
  have i2 := up (ints_run (a := [0, 1]) (b := [0, 1]) (by decide) (by decide))
  rw [show ([0] : List Int) == [0] from rfl] at i1
  rw [show ([0, 1] : List Int) == [0, 1] from rfl] at i2
  have c2 := up (pcheck_run (n := 2) (by constructor <;> decide) want_okP.w (by simp [wantP]))
  have c1 := up (pcheck_run (n := 1) (by constructor <;> decide) want_okP.w (by simp [wantP]))
  rw [want_c2] at c2
  rw [want_c1] at c1
  simp only [gT, prs, wcs, wc, wantW, wantP, poS, strs, ints, List.map_cons, List.map_nil, List.flatMap_nil] at gm ga gy gn g0 gs i1 i2 c1 c2
  simp (config := { maxSteps := 1000000 }) (disch := omega) only [go_sem, ↓reduceIte, Nat.reduceEqDiff, Nat.reduceAdd, Nat.reduceLeDiff, d1553, gm, ga, gy, gn, g0, gs, i1, i2, c1, c2]
end Go.Proofs.Ytmckpijdjoifoaa
