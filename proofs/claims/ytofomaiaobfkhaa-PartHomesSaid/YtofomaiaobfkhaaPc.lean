/- Layer 6: PartHomes. -/
import Derived.Test.YtofomaiaobfkhaaPb
namespace Go.Proofs.Ytofomaiaobfkhaa
set_option linter.unusedSimpArgs false
set_option linter.unusedVariables false
set_option maxHeartbeats 4000000
set_option maxRecDepth 100000
theorem rows_len_set {R : List (List Int)} {i : Nat} {x : List Int} (h : x.length = (R.getD i []).length) (j : Nat) : ((R.set i x).getD j []).length = (R.getD j []).length := by
  rw [List.getD_eq_getElem?_getD, List.getElem?_set]
  split
  · rename_i e
    subst e
    split
    · exact h
    · rename_i hn; rw [List.getD_eq_getElem?_getD, List.getElem?_eq_none (by omega)]
  · rw [List.getD_eq_getElem?_getD]
def nb0 (l : List Int) (R A B C : List (List Int)) (i : Nat) : St := ⟨[(0, .sl 1 (ints l)), (9, .own 1 0), (14, .own 1 1), (22, .bool true), (23, .int .i64 (i : Int))], [.row false (ints l), .row false (owV R), .row false (owV A), .row false (owV B), .row false (owV C)], 0, [(0, 5, [0, 9, 14, 22, 23], [(9, 0), (14, 1)])]⟩
def nb1 (l : List Int) (R A B C : List (List Int)) (i k : Nat) : St := ⟨[(0, .sl 1 (ints l)), (9, .own 1 0), (14, .own 1 1), (22, .bool true), (23, .int .i64 (i : Int)), (24, .int .i64 (k : Int))], [.row false (ints l), .row false (owV R), .row false (owV A), .row false (owV B), .row false (owV C)], 0, [(1, 5, [0, 9, 14, 22, 23, 24], [(9, 0), (14, 1)]), (0, 5, [0, 9, 14, 22, 23], [(9, 0), (14, 1)])]⟩
theorem nb1_loop {l : List Int} {A B C : List (List Int)} {i : Nat} {Q : AX → St → Prop} : ∀ (m k : Nat) (R : List (List Int)), i < R.length → R.length ≤ 16 → (R.getD i []).length = k + m → k + m ≤ 1000 →
    (∀ R' : List (List Int), R'.length = R.length → (∀ j, (R'.getD j []).length = (R.getD j []).length) → Ev tab d1232_b1 (nb1 l R' A B C i (k + m)) (fun x s => x ≠ .normal ∧ Q x s)) → Ev tab (.loop d1232_b1) (nb1 l R A B C i k) Q
  | 0, k, R, hi, hR, hr, hk, hq => Ev_stop (hq R rfl fun _ => rfl)
  | m + 1, k, R, hi, hR, hr, hk, hq => by
    have hl2 := rows_len_set (R := R) (i := i) (x := (R.getD i []).set k (-7)) (by simp)
    refine Ev_step (st' := nb1 l (R.set i ((R.getD i []).set k (-7))) A B C i (k + 1)) ?_ (nb1_loop m (k + 1) _ (by simpa using hi) (by simpa using hR) (by rw [hl2]; omega) (by omega) (fun R' h1 h2 => ?_))
    · have c1 := owV_cut hi
      have m1 : (owV R).length = R.length := owV_len R
      have er1 := set_rdc (l := owV R) (u := i) (x := .own 1 5) (by omega)
      have er2 := set_cut1 (l := owV R) (u := i) (x := .own 1 5) (by omega)
      have hP := fun (r : List Int) => owV_pkset (n := 5) (id := 5) (hp := [.row false (ints l), .dead, .row false (owV A), .row false (owV B), .row false (owV C), .row false (ints r)]) (by omega) (R := R) (u := i) (r := r) hi rfl
      have hI := allL_setno (p := pidlt 5) (x := .own 1 5) rfl (cs := owV R) (u := i) (by omega)
      have e7 : (ints (R.getD i [])).set k (.int .i64 (-7)) = ints ((R.getD i []).set k (-7)) := by simp [ints, List.map_set]
      simp only [nb1]
      generalize R.getD i [] = r at *
      simp (config := { maxSteps := 1000000 }) (disch := omega) only [go_sem, ↓reduceIte, Nat.reduceEqDiff, Nat.reduceAdd, Int.reduceToNat, reduceCtorEq, Nat.reduceLeDiff, Nat.reduceSub, Nat.reduceDiv, Nat.reduceMod, Nat.reduceMul, d1232_b1, c1, m1, er1, er2, List.set_set, hI, e7, hP]
    · have := hq R' (by rw [h1]; simp) (fun j => by rw [h2, hl2])
      rwa [show k + (m + 1) = k + 1 + m by omega] at this
theorem nb0_loop {l : List Int} {A B C : List (List Int)} {Q : AX → St → Prop} : ∀ (m i : Nat) (R : List (List Int)), R.length = i + m → i + m ≤ 16 → (∀ j, (R.getD j []).length ≤ 1000) →
    (∀ R' : List (List Int), R'.length = R.length → Ev tab d1232_b0 (nb0 l R' A B C (i + m)) (fun x s => x ≠ .normal ∧ Q x s)) → Ev tab (.loop d1232_b0) (nb0 l R A B C i) Q
  | 0, i, R, hR, hi, hr, hq => Ev_stop (hq R rfl)
  | m + 1, i, R, hR, hi, hr, hq => by
    obtain ⟨L, hL⟩ : ∃ L : St → Prop, ∀ s, L s ↔ Ev tab (.loop d1232_b0) s Q := ⟨_, fun _ => Iff.rfl⟩
    refine Ev_stepL L hL ?_
    have hri := hr i
    simp only [nb0]
    simp (config := { maxSteps := 1000000 }) (disch := omega) only [go_sem, ↓reduceIte, Nat.reduceEqDiff, Nat.reduceAdd, Int.reduceToNat, reduceCtorEq, Nat.reduceLeDiff, Nat.reduceSub, Nat.reduceDiv, Nat.reduceMod, Nat.reduceMul, d1232_b0]
    refine nb1_loop (R.getD i []).length 0 R (by omega) (by omega) (by omega) (by omega) (fun R' h1 h2 => ?_)
    have c1 := owV_cut (R := R') (u := i) (by omega)
    have m1 : (owV R').length = R'.length := owV_len R'
    have er1 := set_rdc (l := owV R') (u := i) (x := .own 1 5) (by omega)
    have hP := fun (r : List Int) => owV_pkset (n := 5) (id := 5) (hp := [.row false (ints l), .dead, .row false (owV A), .row false (owV B), .row false (owV C), .row false (ints r)]) (by omega) (R := R') (u := i) (r := r) (by omega) rfl
    have hI := allL_setno (p := pidlt 5) (x := .own 1 5) rfl (cs := owV R') (u := i) (by omega)
    have es : R'.set i (R'.getD i []) = R' := by
      refine List.ext_getElem (by simp) fun j a b => ?_
      rw [List.getElem_set]
      split
      · rename_i e; subst e; rw [List.getD_eq_getElem?_getD, List.getElem?_eq_getElem b]; rfl
      · rfl
    have hri2 := h2 i
    have hP' := hP (R'.getD i [])
    rw [es] at hP'
    simp only [nb1, Nat.zero_add]
    rw [← hri2]
    have h3 := nb0_loop (l := l) (A := A) (B := B) (C := C) (Q := Q) m (i + 1) R' (by omega) (by omega) (fun j => by rw [h2]; exact hr j) (fun R2 h3 => by
      have := hq R2 (by rw [h3, h1])
      rwa [show i + (m + 1) = i + 1 + m by omega] at this)
    simp only [nb0] at h3
    generalize R'.getD i [] = r at *
    simp (config := { maxSteps := 1000000 }) (disch := omega) only [go_sem, ↓reduceIte, Nat.reduceEqDiff, Nat.reduceAdd, Int.reduceToNat, reduceCtorEq, Nat.reduceLeDiff, Nat.reduceSub, Nat.reduceDiv, Nat.reduceMod, Nat.reduceMul, d1232_b1, c1, m1, er1, hI, hP']
    exact (hL _).2 h3
theorem homes_law {l : List Int} {v w n : Int} : runP tab 1232 [.sl 1 (ints l), .int .i64 v, .int .i64 w, .int .i64 n] [] = some (.bool true, []) := by
  refine runP_fn t1232 rfl ?_
  by_cases h : 100 < l.length
  · simp (config := { maxSteps := 1000000 }) (disch := omega) only [go_sem, ↓reduceIte, Nat.reduceEqDiff, Nat.reduceAdd, Int.reduceToNat, reduceCtorEq, Nat.reduceLeDiff, Nat.reduceSub, Nat.reduceDiv, Nat.reduceMod, Nat.reduceMul, d1232]
  · have g0 := owni_run (l := l) (by omega)
    have g1 := home_run (v := v) (w := w)
    have g2 := rhome_run (v := v) (w := w)
    have g3 := split_run' (l := l) (n := w) (by omega)
    have g4 := rsplit_run' (l := l) (n := w) (by omega)
    have g5 := parts_run' (n := n) (w := w)
    have g6 := rparts_run' (n := n) (w := w)
    have l1 := spR_len l w
    have l2 := ptR_len n w
    have g7 := same06_run (a := spR l w) (b := spR l w) (by omega) (by omega) (fun i => by have := spR_row l w i; omega) (fun i => by have := spR_row l w i; omega)
    have g8 := same06_run (a := ptR n w) (b := ptR n w) (by omega) (by omega) (fun i => by have := ptR_row n w i; omega) (fun i => by have := ptR_row n w i; omega)
    rw [beq_self_eq_true] at g7 g8
    have gp := parted_run
    have g9 := ints_run (a := l) (b := l) (by omega) (by omega)
    rw [beq_self_eq_true] at g9
    simp (config := { maxSteps := 1000000 }) (disch := omega) only [go_sem, ↓reduceIte, Nat.reduceEqDiff, Nat.reduceAdd, Int.reduceToNat, reduceCtorEq, Nat.reduceLeDiff, Nat.reduceSub, Nat.reduceDiv, Nat.reduceMod, Nat.reduceMul, d1232, g0, g1, g2, g3, g4, g5, g6, g7, g8]
    refine nb0_loop (l := l) (A := spR l w) (B := ptR n w) (C := ptR n w) (spR l w).length 0 (spR l w) (by omega) (by omega) (fun j => by have := spR_row l w j; omega) (fun R' h1 => ?_)
    simp only [nb0, Nat.zero_add]
    rw [← h1]
    simp (config := { maxSteps := 1000000 }) (disch := omega) only [go_sem, ↓reduceIte, Nat.reduceEqDiff, Nat.reduceAdd, Int.reduceToNat, reduceCtorEq, Nat.reduceLeDiff, Nat.reduceSub, Nat.reduceDiv, Nat.reduceMod, Nat.reduceMul, d1232_b0, gp, g9]
end Go.Proofs.Ytofomaiaobfkhaa
