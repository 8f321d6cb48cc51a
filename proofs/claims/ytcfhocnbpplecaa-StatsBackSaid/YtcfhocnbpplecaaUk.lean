import Derived.Test.YtcfhocnbpplecaaUh
namespace Go.Proofs.Ytcfhocnbpplecaa
set_option maxHeartbeats 4000000
set_option maxRecDepth 100000
theorem seq_ex {P : Nat → Nat → Prop} {R : Nat → Nat → Nat → Prop} {n : Nat} (h0 : P 0 0) (hs : ∀ i a, i < n → P i a → ∃ b, R i a b ∧ P (i + 1) b) : ∃ f : Nat → Nat, f 0 = 0 ∧ ∀ i, i < n → P i (f i) ∧ R i (f i) (f (i + 1)) := by
  classical
  let st : Nat → Nat → Nat := fun i a => if h : i < n ∧ P i a then (hs i a h.1 h.2).choose else 0
  let f : Nat → Nat := fun i => Nat.rec 0 (fun i a => st i a) i
  have hf : ∀ i, f (i + 1) = st i (f i) := fun i => rfl
  have hst : ∀ i a, i < n → P i a → R i a (st i a) ∧ P (i + 1) (st i a) := fun i a h1 h2 => by
    have e : st i a = (hs i a h1 h2).choose := dif_pos ⟨h1, h2⟩
    rw [e]; exact (hs i a h1 h2).choose_spec
  have hP : ∀ i, i ≤ n → P i (f i) := by
    intro i
    induction i with
    | zero => intro _; exact h0
    | succ i ih =>
      intro hi
      rw [hf]
      exact (hst i (f i) (by omega) (ih (by omega))).2
  exact ⟨f, rfl, fun i hi => ⟨hP i (by omega), by rw [hf]; exact (hst i (f i) hi (hP i (by omega))).1⟩⟩
theorem ofR_app (A B : List Rep) (id : Int) : ofR (A ++ B) id = ofR A id ++ ofR B id := List.filter_append ..
def bkP (l : List Txt) (id : Int) (i a : Nat) : Prop := a ≤ l.length ∧ ofR (reps (l.take a)) id = (ofR (reps l) id).take i
def bkR (l : List Txt) (id : Int) (i a b : Nat) : Prop := ∃ q, b = q + 1 ∧ a ≤ q ∧ q < l.length ∧ l.getD q [] = encR ((ofR (reps l) id).getD i default) ∧ ∀ k, a ≤ k → k < q → l.getD k [] ≠ encR ((ofR (reps l) id).getD i default)
theorem ofR_mem {l : List Txt} {id : Int} {x : Rep} (h : x ∈ ofR (reps l) id) : okR x = true ∧ x.id = id := by
  obtain ⟨h1, h2⟩ := List.mem_filter.1 h
  obtain ⟨s, _, h3⟩ := List.mem_filterMap.1 h1
  exact ⟨(formR.iff.1 h3).1, of_decide_eq_true h2⟩
theorem ofR_at {l : List Txt} {id : Int} {i : Nat} (h : i < (ofR (reps l) id).length) : okR ((ofR (reps l) id).getD i default) = true ∧ ((ofR (reps l) id).getD i default).id = id :=
  ofR_mem (by rw [List.getD_eq_getElem?_getD, List.getElem?_eq_getElem h]; exact List.getElem_mem h)
theorem bk_keep {l : List Txt} {id : Int} {i k : Nat} (hk : k < l.length) (hi : i < (ofR (reps l) id).length) (h : ofR (reps (l.take k)) id = (ofR (reps l) id).take i) (hne : l.getD k [] ≠ encR ((ofR (reps l) id).getD i default)) : ofR (reps (l.take (k + 1))) id = (ofR (reps l) id).take i := by
  cases hr : rp (l.getD k []) with
  | none => rw [(reps_no hk hr).1]; exact h
  | some y =>
    rw [(reps_yes hk hr).1, ofR_one, h]
    by_cases hy : y.id = id
    · exfalso
      have e : ofR (reps l) id = (ofR (reps l) id).take i ++ [y] ++ ofR (reps (l.drop (k + 1))) id := by
        conv => lhs; rw [← List.take_append_drop (k + 1) l, reps_app, ofR_app, (reps_yes hk hr).1, ofR_one, h, if_pos hy]
      have e2 : (ofR (reps l) id).getD i default = y := by
        rw [e, List.getD_eq_getElem?_getD, List.append_assoc, List.getElem?_append_right (by simp; omega)]
        simp [Nat.min_eq_left (Nat.le_of_lt hi)]
      rw [e2] at hne
      exact hne (formR.iff.1 hr).2
    · rw [if_neg hy, List.append_nil]
theorem bk_step {l : List Txt} {id : Int} {i a : Nat} (hi : i < (ofR (reps l) id).length) (h : bkP l id i a) : ∃ b, bkR l id i a b ∧ bkP l id (i + 1) b := by
  obtain ⟨ha, h⟩ := h
  rcases first_ix' (fun k => l.getD (a + k) [] ≠ encR ((ofR (reps l) id).getD i default)) (l.length - a) with hall | ⟨m, m1, m2, m3⟩
  · exfalso
    have key : ∀ k, k ≤ l.length - a → ofR (reps (l.take (a + k))) id = (ofR (reps l) id).take i := by
      intro k
      induction k with
      | zero => intro _; exact h
      | succ k ih => intro hk; exact bk_keep (k := a + k) (by omega) hi (ih (by omega)) (hall k (by omega))
    have := key (l.length - a) (Nat.le_refl _)
    rw [show a + (l.length - a) = l.length by omega, List.take_length] at this
    have hl := congrArg List.length this
    rw [List.length_take] at hl
    omega
  · have key : ∀ k, k ≤ m → ofR (reps (l.take (a + k))) id = (ofR (reps l) id).take i := by
      intro k
      induction k with
      | zero => intro _; exact h
      | succ k ih => intro hk; exact bk_keep (k := a + k) (by omega) hi (ih (by omega)) (m2 k (by omega))
    have m3 : l.getD (a + m) [] = encR ((ofR (reps l) id).getD i default) := Classical.not_not.1 m3
    obtain ⟨o1, o2⟩ := ofR_at hi
    have hr : rp (l.getD (a + m) []) = some ((ofR (reps l) id).getD i default) := formR.iff.2 ⟨o1, m3⟩
    refine ⟨a + m + 1, ⟨a + m, rfl, by omega, by omega, m3, fun k k1 k2 => ?_⟩, by omega, ?_⟩
    · have := m2 (k - a) (by omega)
      rwa [show a + (k - a) = k by omega] at this
    · rw [(reps_yes (by omega) hr).1, ofR_one, key m (Nat.le_refl _), if_pos o2, take_snoc default hi]
def bkS (l : List Txt) (id : Int) (X : List Rep) (z : Bool) (f : Nat → Nat) (i : Nat) : St := ⟨[(0, .sl 1 (strs l)), (1, .int .i64 id), (5, .sl 5 (repsS X)), (6, .bool z), (7, .int .i64 (f i : Nat)), (8, .int .i64 (i : Int))], [], 0, [(0, 0, [0, 1, 5, 6, 7, 8], [])]⟩
def bkI (l : List Txt) (id : Int) (X : List Rep) (z : Bool) (i : Nat) (s : Txt) (t : Nat) : St := ⟨[(0, .sl 1 (strs l)), (1, .int .i64 id), (5, .sl 5 (repsS X)), (6, .bool z), (7, .int .i64 (t : Int)), (8, .int .i64 (i : Int)), (9, .str s), (10, .int .i64 0)], [], 0, [(1, 0, [0, 1, 5, 6, 7, 8, 9, 10], []), (0, 0, [0, 1, 5, 6, 7, 8], [])]⟩
theorem sback_law {l : List Txt} {id : Int} (hl : l.length ≤ 9223372036854775807) (ht : ∀ w ∈ l, w.length ≤ 9223372036854775807) : runP tabP 1396 [.sl 1 (strs l), .int .i64 id] [] = some (.bool true, []) := by
  refine runP_fn (show tabP 1396 = _ from t1396) rfl ?_
  obtain ⟨b, gb, hb⟩ := bigB_run hl ht
  have gb := upP (up gb)
  cases b with
  | true => simp (disch := omega) only [go_sem, ↓reduceIte, reduceCtorEq, d1396, gb]
  | false =>
  obtain ⟨h1, h2⟩ := hb rfl
  have ok : okB l := ⟨by omega, fun i hi => by have := h2 i hi; omega⟩
  have g4 := upP (of_run (id := id) ok)
  have g6 := counted_run
  have hn := reps_len l
  have ho := ofR_len (reps l) id
  obtain ⟨f, f0, hf⟩ := seq_ex (P := bkP l id) (R := bkR l id) (n := (ofR (reps l) id).length) ⟨Nat.zero_le _, by simp [reps, ofR]⟩ (fun i a hi h => bk_step hi h)
  have hx : ∀ i, i < (ofR (reps l) id).length → okR ((ofR (reps l) id).getD i default) = true ∧ ((ofR (reps l) id).getD i default).id = id := fun i hi => ofR_at hi
  unfold bkR at hf
  generalize ofR (reps l) id = X at *
  have L := strs_length l
  have LX := repsS_len X
  simp (disch := omega) only [go_sem, ↓reduceIte, Nat.reduceEqDiff, reduceCtorEq, d1396, gb, g4]
  refine Ev_loop0 (fun i => bkS l id X (decide (0 < X.length)) f i) X.length (by simp [bkS, f0]) (fun i hi => ?_) ?_
  · obtain ⟨_, q, q1, q2, q3, q4, q5⟩ := hf i hi
    obtain ⟨x1, x2⟩ := hx i hi
    have e := repsS_rdc' hi
    have e2 := repsS_id hi
    rw [x2] at e2
    have xh : (X.getD i default).hits.length ≤ 100 := (of_decide_eq_true x1 : RepOk _).2.2.2.1
    have g := upP (up (putR_run (r := X.getD i default) (by omega)))
    rw [putRA, if_pos x1] at g
    have eq' := strs_rdc q3
    rw [q4] at eq'
    unfold bkS
    rw [q1]
    generalize decide (0 < X.length) = z at *
    generalize X.getD i default = x at *
    generalize encR x = s at *
    generalize f i = a at *
    simp only [repS] at e g
    simp (disch := omega) only [go_sem, ↓reduceIte, Nat.reduceEqDiff, reduceCtorEq, d1396_b0, e, g, LX]
    refine Ev_loop0 (fun k => bkI l id X z i s (a + k)) (q - a) rfl (fun k hk => ?_) ?_
    · have e3 := strs_rdc (l := l) (i := a + k) (by omega)
      have e4 := q5 (a + k) (by omega) (by omega)
      have e5 : a + k < l.length := by omega
      unfold bkI
      rw [show a + (k + 1) = a + k + 1 from rfl]
      generalize a + k = t at *
      have e4 : (l.getD t [] == s) = false := by simpa using e4
      simp (disch := omega) only [go_sem, ↓reduceIte, Nat.reduceEqDiff, reduceCtorEq, d1396_b1, e3, e4, L]
    · unfold bkI
      rw [show a + (q - a) = q by omega]
      simp (disch := omega) only [go_sem, ↓reduceIte, Nat.reduceEqDiff, reduceCtorEq, d1396_b1, eq', e2, L, LX]
  · unfold bkS
    have hfn : ∀ n : Nat, n = f X.length → True := fun _ _ => trivial
    by_cases h : 0 < X.length
    · simp (disch := omega) only [go_sem, ↓reduceIte, Nat.reduceEqDiff, reduceCtorEq, d1396_b0, g6, LX, h]
    · simp (disch := omega) only [go_sem, ↓reduceIte, Nat.reduceEqDiff, reduceCtorEq, d1396_b0, g6, LX, h]
end Go.Proofs.Ytcfhocnbpplecaa
