/- Layer 14: Keys. -/
import Derived.Test.YthpgaecloecflaaSt4
import Derived.Test.YthpgaecloecflaaTd
import Derived.Test.YthpgaecloecflaaTe
namespace Go.Proofs.Ythpgaecloecflaa
set_option linter.unusedSimpArgs false
set_option linter.unusedVariables false
set_option maxHeartbeats 4000000
set_option maxRecDepth 100000
def kyO (P : List Pl) : List Ky := (P.filter (·.u)).map (·.k)
theorem kyO_succ {P : List Pl} {i : Nat} (hi : i < P.length) : kyO (P.take (i + 1)) = kyO (P.take i) ++ (if (at_ P i).u = true then [(at_ P i).k] else []) := by
  have e : P.take (i + 1) = P.take i ++ [at_ P i] := take_snoc default hi
  unfold kyO
  rw [e, List.filter_append, List.map_append]
  cases h : (at_ P i).u <;> simp [h]
theorem kyO_len (P : List Pl) : (kyO P).length ≤ P.length := by
  unfold kyO
  rw [List.length_map]
  exact List.length_filter_le _ _
theorem keys_run {m ks : Int} {P : List Pl} (hl : P.length ≤ 1000) : runP tab 1043 [tbI m ks P] [] = some (.vec 3 (kys (sorted ltT (kyO P))), []) := by
  refine runP_fn t1043 rfl ?_
  simp (config := { maxSteps := 1000000 }) (disch := omega) only [go_sem, ↓reduceIte, Nat.reduceEqDiff, Nat.reduceAdd, Int.reduceToNat, reduceCtorEq, Nat.reduceLeDiff, Nat.reduceSub, Nat.reduceDiv, Nat.reduceMod, Nat.reduceMul, d1043, tbI]
  refine Ev_loop0 (fun i => ⟨[(3, .own 3 0), (11, .sl 5 (pls P)), (12, .int .i64 (P.length : Int)), (13, .int .i64 (i : Int))], [.row false (kys (kyO (P.take i)))], 0, [(0, 1, [3, 11, 12, 13], [(3, 0)])]⟩) P.length rfl (fun i hi => ?_) ?_
  · have q := pls_at hi
    have e : P.getD i default = at_ P i := rfl
    rw [e] at q
    have hle := kyO_len (P.take i)
    rw [List.length_take] at hle
    have es := kyO_succ hi
    have ea := fun l => kys_app l [(at_ P i).k]
    simp only [plC] at q
    have e1 : kys [(at_ P i).k] = [.int .i64 (at_ P i).k.s, .int .i64 (at_ P i).k.d, .int .i64 (at_ P i).k.v] := rfl
    rw [e1] at ea
    generalize kyO (P.take (i + 1)) = A2 at *
    generalize kyO (P.take i) = A at *
    cases hu : (at_ P i).u with
    | true =>
      rw [hu, if_pos rfl] at es
      rw [hu] at q
      subst es
      simp (config := { maxSteps := 1000000 }) (disch := omega) only [go_sem, ↓reduceIte, Nat.reduceEqDiff, Nat.reduceAdd, Int.reduceToNat, reduceCtorEq, Nat.reduceLeDiff, Nat.reduceSub, Nat.reduceDiv, Nat.reduceMod, Nat.reduceMul, d1043_b0, q, ea]
    | false =>
      rw [hu, if_neg (by simp), List.append_nil] at es
      rw [hu] at q
      subst es
      simp (config := { maxSteps := 1000000 }) (disch := omega) only [go_sem, ↓reduceIte, Nat.reduceEqDiff, Nat.reduceAdd, Int.reduceToNat, reduceCtorEq, Nat.reduceLeDiff, Nat.reduceSub, Nat.reduceDiv, Nat.reduceMod, Nat.reduceMul, d1043_b0, q]
  · rw [List.take_length]
    have hle := kyO_len P
    have g := tsf_run (l := kyO P) (by omega)
    have e1 : (kyO P).toArray.toList = kyO P := List.toList_toArray
    have e2 : (sorted ltT (kyO P)).toArray.toList = sorted ltT (kyO P) := List.toList_toArray
    rw [e1, e2] at g
    simp (config := { maxSteps := 1000000 }) (disch := omega) only [go_sem, ↓reduceIte, Nat.reduceEqDiff, Nat.reduceAdd, Int.reduceToNat, reduceCtorEq, Nat.reduceLeDiff, Nat.reduceSub, Nat.reduceDiv, Nat.reduceMod, Nat.reduceMul, d1043_b0, g]
theorem first_ix' (p : Nat → Prop) (n : Nat) : (∀ i, i < n → p i) ∨ ∃ m, m < n ∧ (∀ i, i < m → p i) ∧ ¬ p m := by
  induction n with
  | zero => exact .inl (by intro i h; omega)
  | succ n ih =>
    rcases ih with h | ⟨m, h1, h2, h3⟩
    · by_cases hn : p n
      · exact .inl fun i hi => by
          by_cases e : i = n
          · subst e; exact hn
          · exact h i (by omega)
      · exact .inr ⟨n, by omega, h, hn⟩
    · exact .inr ⟨m, by omega, h2, h3⟩
theorem kes_at (a b : List Ky) (hl : a.length = b.length) : (∀ i, i < a.length → a.getD i default = b.getD i default) ∧ decide (a = b) = true ∨ ∃ n, n < a.length ∧ (∀ i, i < n → a.getD i default = b.getD i default) ∧ a.getD n default ≠ b.getD n default ∧ decide (a = b) = false := by
  rcases first_ix' (fun i => a.getD i default = b.getD i default) a.length with h | ⟨m, h1, h2, h3⟩
  · refine .inl ⟨h, ?_⟩
    rw [decide_eq_true_eq]
    refine List.ext_getElem hl fun i h1 h2 => ?_
    have := h i h1
    rw [List.getD_eq_getElem?_getD, List.getD_eq_getElem?_getD, List.getElem?_eq_getElem h1, List.getElem?_eq_getElem h2] at this
    exact this
  · exact .inr ⟨m, h1, h2, h3, by rw [decide_eq_false_iff_not]; rintro rfl; exact h3 rfl⟩
theorem same_run {a b : List Ky} (ha : a.length ≤ 1000000) (hb : b.length ≤ 1000000) : runP tab 1042 [.sl 3 (kys a), .sl 3 (kys b)] [] = some (.bool (decide (a = b)), []) := by
  refine runP_fn t1042 rfl ?_
  by_cases hl : a.length = b.length
  · simp (config := { maxSteps := 1000000 }) (disch := omega) only [go_sem, ↓reduceIte, Nat.reduceEqDiff, Nat.reduceAdd, Int.reduceToNat, reduceCtorEq, Nat.reduceLeDiff, Nat.reduceSub, Nat.reduceDiv, Nat.reduceMod, Nat.reduceMul, d1042]
    rcases kes_at a b hl with ⟨h1, h2⟩ | ⟨k, h0, h1, h2, h3⟩
    · refine Ev_loop0 (fun i => ⟨[(0, .sl 3 (kys a)), (1, .sl 3 (kys b)), (5, .int .i64 (i : Int))], [], 0, [(0, 0, [0, 1, 5], [])]⟩) a.length rfl (fun i hi => ?_) ?_
      · have e1 := kys_at (l := a) hi
        have e2 := kys_at (l := b) (i := i) (by omega)
        have := h1 i (by omega)
        rw [← this] at e2
        simp (config := { maxSteps := 1000000 }) (disch := omega) only [go_sem, ↓reduceIte, Nat.reduceEqDiff, Nat.reduceAdd, Int.reduceToNat, reduceCtorEq, Nat.reduceLeDiff, Nat.reduceSub, Nat.reduceDiv, Nat.reduceMod, Nat.reduceMul, d1042_b0, e1, e2, kyC, aeqL, aeq, encA, digA]
      · simp (config := { maxSteps := 1000000 }) (disch := omega) only [go_sem, ↓reduceIte, Nat.reduceEqDiff, Nat.reduceAdd, Int.reduceToNat, reduceCtorEq, Nat.reduceLeDiff, Nat.reduceSub, Nat.reduceDiv, Nat.reduceMod, Nat.reduceMul, d1042_b0, h2]
    · refine Ev_loop0 (fun i => ⟨[(0, .sl 3 (kys a)), (1, .sl 3 (kys b)), (5, .int .i64 (i : Int))], [], 0, [(0, 0, [0, 1, 5], [])]⟩) k rfl (fun i hi => ?_) ?_
      · have e1 := kys_at (l := a) (i := i) (by omega)
        have e2 := kys_at (l := b) (i := i) (by omega)
        have := h1 i (by omega)
        rw [← this] at e2
        simp (config := { maxSteps := 1000000 }) (disch := omega) only [go_sem, ↓reduceIte, Nat.reduceEqDiff, Nat.reduceAdd, Int.reduceToNat, reduceCtorEq, Nat.reduceLeDiff, Nat.reduceSub, Nat.reduceDiv, Nat.reduceMod, Nat.reduceMul, d1042_b0, e1, e2, kyC, aeqL, aeq, encA, digA]
      · have e1 := kys_at (l := a) (i := k) (by omega)
        have e2 := kys_at (l := b) (i := k) (by omega)
        have hne : (decide ((a.getD k default).s = (b.getD k default).s) && (decide ((a.getD k default).d = (b.getD k default).d) && decide ((a.getD k default).v = (b.getD k default).v))) = false := by rw [← ke_eq, decide_eq_false h2]
        generalize a.getD k default = x at *
        generalize b.getD k default = y at *
        simp (config := { maxSteps := 1000000 }) (disch := omega) only [go_sem, ↓reduceIte, Nat.reduceEqDiff, Nat.reduceAdd, Int.reduceToNat, reduceCtorEq, Nat.reduceLeDiff, Nat.reduceSub, Nat.reduceDiv, Nat.reduceMod, Nat.reduceMul, d1042_b0, e1, e2, h3, kyC, aeqL, aeq, encA, digA, hne]
  · have h : decide (a = b) = false := by rw [decide_eq_false_iff_not]; rintro rfl; exact hl rfl
    simp (config := { maxSteps := 1000000 }) (disch := omega) only [go_sem, ↓reduceIte, Nat.reduceEqDiff, Nat.reduceAdd, Int.reduceToNat, reduceCtorEq, Nat.reduceLeDiff, Nat.reduceSub, Nat.reduceDiv, Nat.reduceMod, Nat.reduceMul, d1042, h]
end Go.Proofs.Ythpgaecloecflaa
