/- Layer 14's laws: TableKeeps. -/
import Derived.Test.YthpgaecloecflaaTk
namespace Go.Proofs.Ythpgaecloecflaa
set_option linter.unusedSimpArgs false
set_option linter.unusedVariables false
set_option maxHeartbeats 4000000
set_option maxRecDepth 100000
def ops (l : List Opr) : List AV := l.flatMap opC
theorem ops_cons (o : Opr) (l : List Opr) : ops (o :: l) = opC o ++ ops l := rfl
theorem ops_flat (l : List Opr) : (ops l).all flat = true := by
  induction l with
  | nil => rfl
  | cons e l ih => rw [ops_cons, List.all_append, ih]; rfl
theorem ops_len (l : List Opr) : (ops l).length = l.length * 5 := by
  induction l with
  | nil => rfl
  | cons e l ih => rw [ops_cons, List.length_append, ih]; simp [opC]; omega
theorem ops_noid' (l : List Opr) : allL pnoid (ops l) = true := flat_noidL (ops_flat l)
theorem ops_noinl' (l : List Opr) : allL pnoinl (ops l) = true := flat_noinlL (ops_flat l)
theorem ops_idlt' (n : Nat) (l : List Opr) : allL (pidlt n) (ops l) = true := flat_idltL (ops_flat l)
theorem ops_ren' (f : Nat → Nat) (l : List Opr) : mapL (ren1 f) (ops l) = ops l := flat_renL (ops_flat l)
theorem ops_ids (l : List Opr) : idsL (ops l) = [] := flat_idsL (ops_flat l)
attribute [go_sem] ops_len ops_noid' ops_noinl' ops_idlt' ops_ren' ops_ids
theorem ops_drop (l : List Opr) (i : Nat) : (ops l).drop (i * 5) = ops (l.drop i) := by
  induction i generalizing l with
  | zero => simp
  | succ i ih => cases l with
    | nil => simp [ops]
    | cons r l =>
      rw [ops_cons, show (i + 1) * 5 = (opC r).length + i * 5 by simp [opC]; omega, ← List.drop_drop, List.drop_left]
      exact ih l
theorem ops_rdc {l : List Opr} {i : Nat} (h : i < l.length) : rdc ((ops l).drop (i * 5)) (some 5) = some (.agg (opC (l.getD i default))) := by
  rw [ops_drop, List.drop_eq_getElem_cons h, ops_cons, List.getD_eq_getElem?_getD, List.getElem?_eq_getElem h]
  simp [rdc, opC, List.take_append]
theorem fit_ops {v : AV} (h : Fit (.sl 5 [.int .i64, .int .i64, .int .i64, .int .i64, .int .i64]) v) : ∃ l : List Opr, v = .sl 5 (ops l) ∧ l.length ≤ 9223372036854775807 := by
  obtain ⟨rows, rfl, hl, hr⟩ := h
  have : ∃ l : List Opr, rows.flatten = ops l ∧ l.length = rows.length := by
    clear hl
    induction rows with
    | nil => exact ⟨[], rfl, rfl⟩
    | cons r rows ih =>
      obtain ⟨l, h1, h2⟩ := ih (fun r hr' => hr r (by simp [hr']))
      have h4 := hr r (by simp)
      simp only [FitL] at h4
      obtain ⟨_, _, rfl, h5, _, _, rfl, h6, _, _, rfl, h7, _, _, rfl, h8, _, _, rfl, h9, rfl⟩ := h4
      obtain ⟨a, rfl, ha⟩ := fit_int h5
      obtain ⟨b, rfl, hb⟩ := fit_int h6
      obtain ⟨c, rfl, hc⟩ := fit_int h7
      obtain ⟨d, rfl, hd⟩ := fit_int h8
      obtain ⟨e, rfl, he⟩ := fit_int h9
      exact ⟨⟨a, ⟨b, c, d⟩, e⟩ :: l, by rw [ops_cons, ← h1]; rfl, by simp [h2]⟩
  obtain ⟨l, h1, h2⟩ := this
  exact ⟨l, by rw [h1], by rw [h2]; unfold maxLen at hl; omega⟩
theorem seq_st {σ : Type} {I : σ → Prop} {R : Nat → σ → σ → Prop} {n : Nat} {s0 : σ} (h0 : I s0) (hs : ∀ i s, i < n → I s → ∃ s', R i s s' ∧ I s') : ∃ f : Nat → σ, f 0 = s0 ∧ (∀ i, i ≤ n → I (f i)) ∧ ∀ i, i < n → R i (f i) (f (i + 1)) := by
  classical
  let st : Nat → σ → σ := fun i a => if h : i < n ∧ I a then (hs i a h.1 h.2).choose else s0
  let f : Nat → σ := fun i => Nat.rec s0 (fun i a => st i a) i
  have hf : ∀ i, f (i + 1) = st i (f i) := fun i => rfl
  have hst : ∀ i a, i < n → I a → R i a (st i a) ∧ I (st i a) := fun i a h1 h2 => by
    have e : st i a = (hs i a h1 h2).choose := dif_pos ⟨h1, h2⟩
    rw [e]; exact (hs i a h1 h2).choose_spec
  have hP : ∀ i, i ≤ n → I (f i) := by
    intro i
    induction i with
    | zero => intro _; exact h0
    | succ i ih =>
      intro hi
      rw [hf]
      exact (hst i (f i) (by omega) (ih (by omega))).2
  exact ⟨f, rfl, hP, fun i hi => by rw [hf]; exact (hst i (f i) hi (hP i (by omega))).1⟩
end Go.Proofs.Ythpgaecloecflaa
