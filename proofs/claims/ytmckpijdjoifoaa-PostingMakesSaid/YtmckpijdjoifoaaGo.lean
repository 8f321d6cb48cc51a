/- Graphs by definition: an edge put in its place. -/
import Derived.Test.YtmckpijdjoifoaaGn
set_option linter.unusedSimpArgs false
set_option linter.unusedVariables false
namespace Go.Proofs.Ytmckpijdjoifoaa
set_option maxHeartbeats 4000000
set_option maxRecDepth 100000
section
variable {α : Type} {lt : α → α → Bool} [Inhabited α]
theorem at_of (lt : α → α → Bool) (l : List α) (x : α) : ∃ p, p ≤ l.length ∧ (∀ i, i < p → lt (l.getD i default) x = true) ∧ (p < l.length → lt (l.getD p default) x = false) := by
  rcases first_ix' (fun i => lt (l.getD i default) x = true) l.length with h | ⟨m, m1, m2, m3⟩
  · exact ⟨l.length, Nat.le_refl _, h, fun h => absurd h (Nat.lt_irrefl _)⟩
  · exact ⟨m, by omega, m2, fun _ => by simpa using m3⟩
theorem put_in [DecidableEq α] (O : Ordr lt) {l : List α} {x : α} (ha : asc lt l) {p : Nat} (hp : p ≤ l.length) (h1 : ∀ i, i < p → lt (l.getD i default) x = true) (h2 : p < l.length → lt (l.getD p default) x = false) (h3 : p < l.length → l.getD p default ≠ x) :
    l.take p ++ [x] ++ l.drop p = nrmL lt (l ++ [x]) := by
  refine (nrm_of_asc O (l := l.take p ++ [x] ++ l.drop p) ?_).symm.trans (nrm_congr O fun y => ?_)
  · have ht : asc lt (l.take p) := ha.sublist (List.take_sublist _ _)
    have hd : asc lt (l.drop p) := ha.sublist (List.drop_sublist _ _)
    have hx1 : ∀ y ∈ l.take p, lt y x = true := fun y hy => by
      obtain ⟨i, hi, rfl⟩ := List.mem_take_iff_getElem.1 hy
      have := h1 i (by omega)
      rw [List.getD_eq_getElem?_getD, List.getElem?_eq_getElem (by omega)] at this
      exact this
    have hx2 : ∀ y ∈ l.drop p, lt x y = true := fun y hy => by
      have hlt : p < l.length := by
        by_cases c : p < l.length
        · exact c
        · rw [List.drop_eq_nil_of_le (by omega)] at hy; cases hy
      have h0 : lt x (l.getD p default) = true := by
        cases c : lt x (l.getD p default) with
        | true => rfl
        | false => exact absurd (O.tri _ _ (h2 hlt) c) (h3 hlt)
      have e : l.drop p = l.getD p default :: l.drop (p + 1) := by
        rw [List.drop_eq_getElem_cons hlt, List.getD_eq_getElem?_getD, List.getElem?_eq_getElem hlt]; rfl
      rw [e] at hy hd
      rcases List.mem_cons.1 hy with rfl | hy
      · exact h0
      · exact O.tr _ _ _ h0 ((List.pairwise_cons.1 hd).1 y hy)
    refine asc_app.2 ⟨asc_app.2 ⟨ht, by simp [asc], fun a h b hb => ?_⟩, hd, fun a h b hb => ?_⟩
    · rw [List.mem_singleton.1 hb]; exact hx1 a h
    · rcases List.mem_append.1 h with h | h
      · exact O.tr _ _ _ (hx1 a h) (hx2 b hb)
      · rw [List.mem_singleton.1 h]; exact hx2 b hb
  · have e : y ∈ l ↔ y ∈ l.take p ∨ y ∈ l.drop p := by rw [← List.mem_append, List.take_append_drop]
    simp only [List.mem_append, List.mem_singleton, e]
    constructor
    · rintro ((h | h) | h) <;> simp [h]
    · rintro ((h | h) | h) <;> simp [h]
theorem put_there [DecidableEq α] (O : Ordr lt) {l : List α} {x : α} (ha : asc lt l) (hx : x ∈ l) : l = nrmL lt (l ++ [x]) :=
  (nrm_of_asc O ha).symm.trans (nrm_congr O fun y => by
    rw [List.mem_append, List.mem_singleton]
    exact ⟨.inl, fun h => by rcases h with h | rfl; exact h; exact hx⟩)
end
theorem strs_take (l : List Txt) (i : Nat) : (strs l).take i = strs (l.take i) := by simp [strs]
theorem strs_drop (l : List Txt) (i : Nat) : (strs l).drop i = strs (l.drop i) := by simp [strs]
theorem drop_lenS {l : List Txt} (p : Nat) : (l.drop p).length = l.length - p := List.length_drop
def dnS (l : List Txt) (i : Nat) : List Txt := nrmL ltS (l.take i)
theorem nrm_snoc {α : Type} {lt : α → α → Bool} [Inhabited α] [DecidableEq α] (O : Ordr lt) (l : List α) (x : α) : nrmL lt (nrmL lt l ++ [x]) = nrmL lt (l ++ [x]) := nrm_congr O fun y => by rw [List.mem_append, List.mem_append, nrm_mem O]
def txS (l : List Txt) (i : Nat) : St := ⟨[(0, .sl 1 (strs l)), (3, .own 1 0), (4, .int .i64 (i : Int))], [.row false (strs (dnS l i))], 0, [(0, 1, [0, 3, 4], [(3, 0)])]⟩
def txI (l : List Txt) (i k : Nat) : St := ⟨[(0, .sl 1 (strs l)), (3, .own 1 0), (4, .int .i64 (i : Int)), (5, .int .i64 (k : Int))], [.row false (strs (dnS l i))], 0, [(1, 1, [0, 3, 4, 5], [(3, 0)]), (0, 1, [0, 3, 4], [(3, 0)])]⟩
theorem tx_step {l : List Txt} (hl : l.length ≤ 6000) {i : Nat} (hi : i < l.length) : Ev tab d1280_b0 (txS l i) (fun x st => x = .normal ∧ st = txS l (i + 1)) := by
  obtain ⟨p, h0, h1, h2⟩ := at_of ltS (dnS l i) (l.getD i [])
  have ha : asc ltS (dnS l i) := nrm_asc ordrS _
  have ex := strs_rdc hi
  have dl : (dnS l i).length ≤ i := by
    have := nrm_len (lt := ltS) (l.take i)
    rw [List.length_take] at this
    show (nrmL ltS (l.take i)).length ≤ i
    omega
  have es : dnS l (i + 1) = nrmL ltS (dnS l i ++ [l.getD i []]) := by rw [dnS, dnS, nrm_snoc ordrS, take_snoc [] hi]
  simp (config := { maxSteps := 1000000 }) (disch := omega) only [go_sem, ↓reduceIte, Nat.reduceEqDiff, reduceCtorEq, d1280_b0, txS]
  rw [es]
  refine Ev_loop0 (txI l i) p (by simp [txI]) (fun k hk => ?_) ?_
  · have e := strs_rdc (l := dnS l i) (i := k) (by omega)
    have q := h1 k hk
    change ltS ((dnS l i).getD k []) _ = true at q
    simp (config := { maxSteps := 1000000 }) (disch := omega) only [go_sem, ↓reduceIte, Nat.reduceEqDiff, reduceCtorEq, d1280_b1, txI, strs_length, e, ex, bl_lt, q]
  · by_cases c : p < (dnS l i).length
    · have e := strs_rdc c
      have q := h2 c
      change ltS ((dnS l i).getD p []) _ = false at q
      by_cases cx : (dnS l i).getD p [] = l.getD i []
      · have hx : l.getD i [] ∈ dnS l i := by rw [← cx]; exact getD_mem (d := []) c
        rw [← put_there ordrS ha hx]
        rw [cx] at e q
        simp (config := { maxSteps := 1000000 }) (disch := omega) only [go_sem, ↓reduceIte, Nat.reduceEqDiff, reduceCtorEq, d1280_b1, txI, strs_length, e, ex, bl_lt, q, beq_self_eq_true]
      · rw [← put_in ordrS ha h0 h1 h2 (fun _ => cx)]
        have hne : ((dnS l i).getD p [] == l.getD i []) = false := by simpa using cx
        rw [strs_drop] at e ex
        simp only [txI]
        generalize (dnS l i).getD p [] = y at *
        generalize l.getD i [] = x at *
        generalize dnS l i = d at *
        simp (config := { maxSteps := 1000000 }) (disch := omega) only [go_sem, ↓reduceIte, Nat.reduceEqDiff, Nat.reduceAdd, reduceCtorEq, Nat.reduceLeDiff, d1280_b1, strs_length, e, ex, bl_lt, q, hne, strs_take, strs_drop, strs_app, strs_snoc, List.length_take, drop_lenS, List.append_assoc, List.cons_append, List.nil_append]
    · rw [← put_in ordrS ha h0 h1 h2 (fun h => absurd h c)]
      rw [strs_drop] at ex
      simp only [txI]
      generalize l.getD i [] = x at *
      generalize dnS l i = d at *
      simp (config := { maxSteps := 1000000 }) (disch := omega) only [go_sem, ↓reduceIte, Nat.reduceEqDiff, Nat.reduceAdd, reduceCtorEq, Nat.reduceLeDiff, d1280_b1, strs_length, ex, strs_take, strs_drop, strs_app, strs_snoc, List.length_take, drop_lenS, List.append_assoc, List.cons_append, List.nil_append]
theorem texts2_run {l : List Txt} (hl : l.length ≤ 6000) : runP tab 1280 [.sl 1 (strs l)] [] = some (.vec 1 (strs (nrmL ltS l)), []) := by
  refine runP_fn t1280 rfl ?_
  simp (config := { maxSteps := 1000000 }) (disch := omega) only [go_sem, ↓reduceIte, Nat.reduceEqDiff, reduceCtorEq, d1280]
  have e0 : dnS l 0 = [] := nrm_of_asc ordrS .nil
  have e1 : dnS l l.length = nrmL ltS l := by rw [dnS, List.take_length]
  have e2 := nrm_len (lt := ltS) l
  refine Ev_loop0 (txS l) l.length (by simp [txS, e0, strs]) (fun i hi => tx_step hl hi) ?_
  simp (config := { maxSteps := 1000000 }) (disch := omega) only [go_sem, ↓reduceIte, Nat.reduceEqDiff, reduceCtorEq, d1280_b0, txS, strs_length, e1]
end Go.Proofs.Ytmckpijdjoifoaa
