/- Layer 14: the document's table. -/
import Derived.Test.YthpgaecloecflaaTm
namespace Go.Proofs.Ythpgaecloecflaa
set_option linter.unusedSimpArgs false
set_option linter.unusedVariables false
set_option maxHeartbeats 4000000
set_option maxRecDepth 100000
def pos (K : List Ky) (q : Ky) : Nat := (K.takeWhile fun x => ltT x q).length
theorem pos_spec (q : Ky) : ∀ K : List Ky, (∀ i, i < pos K q → ltT (K.getD i default) q = true) ∧ (pos K q < K.length → ltT (K.getD (pos K q) default) q = false) ∧ pos K q ≤ K.length
  | [] => ⟨fun i h => by simp [pos] at h, fun h => by simp [pos] at h, by simp [pos]⟩
  | x :: K => by
    obtain ⟨h1, h2, h3⟩ := pos_spec q K
    cases hx : ltT x q with
    | false =>
      have e : pos (x :: K) q = 0 := by simp [pos, List.takeWhile, hx]
      rw [e]
      exact ⟨fun i h => by omega, fun _ => hx, Nat.zero_le _⟩
    | true =>
      have e : pos (x :: K) q = pos K q + 1 := by simp [pos, List.takeWhile, hx]
      rw [e]
      refine ⟨fun i h => ?_, fun h => ?_, by simp; omega⟩
      · cases i with
        | zero => exact hx
        | succ i => exact h1 i (by omega)
      · exact h2 (by simpa using h)
theorem getD_lt {K : List Ky} (h : asc ltT K) {i j : Nat} (hij : i < j) (hj : j < K.length) : ltT (K.getD i default) (K.getD j default) = true := by
  have := List.pairwise_iff_getElem.1 h i j (by omega) hj hij
  rw [List.getD_eq_getElem?_getD, List.getD_eq_getElem?_getD, List.getElem?_eq_getElem hj, List.getElem?_eq_getElem (by omega)]
  exact this
theorem pos_in {K : List Ky} (h : asc ltT K) {q : Ky} (hq : q ∈ K) : pos K q < K.length ∧ K.getD (pos K q) default = q := by
  obtain ⟨h1, h2, h3⟩ := pos_spec q K
  obtain ⟨j, hj, e⟩ := List.getElem_of_mem hq
  have e' : K.getD j default = q := by rw [List.getD_eq_getElem?_getD, List.getElem?_eq_getElem hj]; exact e
  have : pos K q = j := by
    rcases Nat.lt_trichotomy (pos K q) j with c | c | c
    · have a := h2 (by omega)
      have b := getD_lt h c hj
      rw [e', a] at b; cases b
    · exact c
    · have a := h1 j c
      rw [e', ordrT.irr] at a; cases a
  rw [this]
  exact ⟨hj, e'⟩
theorem pos_is {K : List Ky} (h : asc ltT K) (q : Ky) : decide (pos K q < K.length ∧ K.getD (pos K q) default = q) = decide (q ∈ K) := by
  rw [Bool.eq_iff_iff, decide_eq_true_eq, decide_eq_true_eq]
  exact ⟨fun ⟨h1, h2⟩ => h2 ▸ getD_mem' h1, fun hq => pos_in h hq⟩
theorem pos_take {K : List Ky} {q x : Ky} (hx : x ∈ K.take (pos K q)) : ltT x q = true := by
  obtain ⟨h1, h2, h3⟩ := pos_spec q K
  obtain ⟨i, hi, e⟩ := List.getElem_of_mem hx
  rw [List.length_take] at hi
  have := h1 i (by omega)
  rw [List.getD_eq_getElem?_getD, List.getElem?_eq_getElem (by omega)] at this
  rw [← e, List.getElem_take]
  exact this
theorem pos_drop {K : List Ky} (h : asc ltT K) {q x : Ky} (hq : q ∉ K) (hx : x ∈ K.drop (pos K q)) : ltT q x = true := by
  obtain ⟨h1, h2, h3⟩ := pos_spec q K
  obtain ⟨i, hi, e⟩ := List.getElem_of_mem hx
  rw [List.length_drop] at hi
  rw [List.getElem_drop] at e
  have hxK : x ∈ K := List.mem_of_mem_drop hx
  have e' : K.getD (pos K q + i) default = x := by rw [List.getD_eq_getElem?_getD, List.getElem?_eq_getElem (by omega)]; exact e
  have hn : ltT x q = false := by
    cases i with
    | zero => rw [← e']; exact h2 (by omega)
    | succ i =>
      cases hl : ltT x q with
      | false => rfl
      | true =>
        have a := getD_lt h (i := pos K q) (j := pos K q + (i + 1)) (by omega) (by omega)
        rw [e'] at a
        have := ordrT.tr _ _ _ a hl
        rw [h2 (by omega)] at this; cases this
  cases hl : ltT q x with
  | true => rfl
  | false => exact absurd (ordrT.tri q x hl hn) (fun e => hq (e ▸ hxK))
theorem asc_ins {K : List Ky} (h : asc ltT K) {q : Ky} (hq : q ∉ K) : asc ltT (K.take (pos K q) ++ q :: K.drop (pos K q)) := by
  have h0 : asc ltT (K.take (pos K q) ++ K.drop (pos K q)) := by rw [List.take_append_drop]; exact h
  obtain ⟨a, b, c⟩ := asc_app.1 h0
  refine asc_app.2 ⟨a, List.pairwise_cons.2 ⟨fun x hx => pos_drop h hq hx, b⟩, fun x hx y hy => ?_⟩
  rcases List.mem_cons.1 hy with rfl | hy
  · exact pos_take hx
  · exact c x hx y hy
def rtB (m : Int) (K : List Ky) (N : List Int) : Blk := .row false [.vec 3 (kys K), .vec 1 (ints N), .int .i64 m]
def rtI (m : Int) (K : List Ky) (N : List Int) : AV := .ip [.sl 3 (kys K), .sl 1 (ints N), .int .i64 m]
theorem rmay_run {k : Ky} : runP tab 1049 [.agg (kyC k)] [] = some (.bool (okB k), []) := by
  refine runP_fn t1049 rfl ?_
  by_cases a1 : 0 ≤ k.s
  case neg =>
    have e : okB k = false := by simp [okB, a1]
    rw [e]; simp (config := { maxSteps := 1000000 }) (disch := omega) only [go_sem, ↓reduceIte, Nat.reduceEqDiff, Nat.reduceAdd, Int.reduceToNat, reduceCtorEq, Nat.reduceLeDiff, Nat.reduceSub, Nat.reduceDiv, Nat.reduceMod, Nat.reduceMul, d1049, kyC]
  by_cases a2 : k.s ≤ 1000
  case neg =>
    have e : okB k = false := by simp [okB, a2]
    rw [e]; simp (config := { maxSteps := 1000000 }) (disch := omega) only [go_sem, ↓reduceIte, Nat.reduceEqDiff, Nat.reduceAdd, Int.reduceToNat, reduceCtorEq, Nat.reduceLeDiff, Nat.reduceSub, Nat.reduceDiv, Nat.reduceMod, Nat.reduceMul, d1049, kyC]
  by_cases a3 : k.d = 0 ∨ k.d = 1
  case neg =>
    have e : okB k = false := by simp [okB]; omega
    rw [e]
    have a4 : ¬ k.d = 0 := fun h => a3 (.inl h)
    have a5 : ¬ k.d = 1 := fun h => a3 (.inr h)
    simp (config := { maxSteps := 1000000 }) (disch := omega) only [go_sem, ↓reduceIte, Nat.reduceEqDiff, Nat.reduceAdd, Int.reduceToNat, reduceCtorEq, Nat.reduceLeDiff, Nat.reduceSub, Nat.reduceDiv, Nat.reduceMod, Nat.reduceMul, d1049, kyC, a4, a5]
  have hd : decide (0 ≤ k.d ∧ k.d ≤ 1) = true := by rw [decide_eq_true_eq]; omega
  by_cases a4 : 0 ≤ k.v
  case neg =>
    have e : okB k = false := by simp [okB, a4]
    rw [e]
    rcases a3 with a3 | a3 <;> simp (config := { maxSteps := 1000000 }) (disch := omega) only [go_sem, ↓reduceIte, Nat.reduceEqDiff, Nat.reduceAdd, Int.reduceToNat, reduceCtorEq, Nat.reduceLeDiff, Nat.reduceSub, Nat.reduceDiv, Nat.reduceMod, Nat.reduceMul, d1049, kyC, a3]
  by_cases a5 : k.v ≤ 199
  case neg =>
    have e : okB k = false := by simp [okB, a5]
    rw [e]
    rcases a3 with a3 | a3 <;> simp (config := { maxSteps := 1000000 }) (disch := omega) only [go_sem, ↓reduceIte, Nat.reduceEqDiff, Nat.reduceAdd, Int.reduceToNat, reduceCtorEq, Nat.reduceLeDiff, Nat.reduceSub, Nat.reduceDiv, Nat.reduceMod, Nat.reduceMul, d1049, kyC, a3]
  have e : okB k = true := by simp [okB]; omega
  rw [e]
  rcases a3 with a3 | a3 <;> simp (config := { maxSteps := 1000000 }) (disch := omega) only [go_sem, ↓reduceIte, Nat.reduceEqDiff, Nat.reduceAdd, Int.reduceToNat, reduceCtorEq, Nat.reduceLeDiff, Nat.reduceSub, Nat.reduceDiv, Nat.reduceMod, Nat.reduceMul, d1049, kyC, a3]
def raS (m : Int) (K : List Ky) (N : List Int) (q : Ky) (i : Nat) : St := ⟨[(0, rtI m K N), (3, .ref 0 0), (6, .int .i64 (i : Int))], [.row false (kyC q)], 0, [(0, 1, [0, 3, 6], [(3, 0)])]⟩
theorem rat_run {m : Int} {K : List Ky} {N : List Int} (hK : K.length ≤ 1000) (q : Ky) : runP tab 1050 [rtI m K N, .agg (kyC q)] [] = some (.tup [.int .i64 (pos K q : Nat), .bool (decide (pos K q < K.length ∧ K.getD (pos K q) default = q))], []) := by
  refine runP_fn t1050 rfl ?_
  obtain ⟨h1, h2, h3⟩ := pos_spec q K
  have LK := kys_len K
  have e0 : ∀ x y : Int, (x == y) = decide (x = y) := fun x y => by rw [Bool.eq_iff_iff]; simp
  simp only [rtI, kyC]
  simp (config := { maxSteps := 1000000 }) (disch := omega) only [go_sem, ↓reduceIte, Nat.reduceEqDiff, Nat.reduceAdd, Int.reduceToNat, reduceCtorEq, Nat.reduceLeDiff, Nat.reduceSub, Nat.reduceDiv, Nat.reduceMod, Nat.reduceMul, d1050]
  refine Ev_loop0 (fun i => raS m K N q i) (pos K q) (by simp [raS, rtI, kyC]) (fun i hi => ?_) ?_
  · have e := kys_at (l := K) (i := i) (by omega)
    have g := lessK_run (K.getD i default) q
    rw [h1 i hi] at g
    unfold raS
    generalize K.getD i default = a at *
    simp only [rtI, kyC] at e g ⊢
    simp (config := { maxSteps := 1000000 }) (disch := omega) only [go_sem, ↓reduceIte, Nat.reduceEqDiff, Nat.reduceAdd, Int.reduceToNat, reduceCtorEq, Nat.reduceLeDiff, Nat.reduceSub, Nat.reduceDiv, Nat.reduceMod, Nat.reduceMul, d1050_b0, LK, e, g]
  · unfold raS
    generalize pos K q = p at *
    by_cases hp : p < K.length
    · have e := kys_at hp
      have g := lessK_run (K.getD p default) q
      rw [h2 hp] at g
      have ek := ke_eq (K.getD p default) q
      have er : decide (p < K.length ∧ K.getD p default = q) = decide (K.getD p default = q) := by simp [hp]
      rw [er, ek]
      generalize K.getD p default = a at *
      simp only [rtI, kyC] at e g ⊢
      simp (config := { maxSteps := 1000000 }) (disch := omega) only [go_sem, ↓reduceIte, Nat.reduceEqDiff, Nat.reduceAdd, Int.reduceToNat, reduceCtorEq, Nat.reduceLeDiff, Nat.reduceSub, Nat.reduceDiv, Nat.reduceMod, Nat.reduceMul, d1050_b0, LK, e, g, aeqL, aeq, encA, digA, e0, Bool.and_true]
    · have er : decide (p < K.length ∧ K.getD p default = q) = false := by simp [hp]
      rw [er]
      simp only [rtI, kyC] at ⊢
      simp (config := { maxSteps := 1000000 }) (disch := omega) only [go_sem, ↓reduceIte, Nat.reduceEqDiff, Nat.reduceAdd, Int.reduceToNat, reduceCtorEq, Nat.reduceLeDiff, Nat.reduceSub, Nat.reduceDiv, Nat.reduceMod, Nat.reduceMul, d1050_b0, LK]
end Go.Proofs.Ythpgaecloecflaa
