/- Fronts, and levels up to a radius. -/
import Derived.Test.YtgjahkebhlphgaaVe
namespace Go.Proofs.Ytgjahkebhlphgaa
set_option linter.unusedSimpArgs false
set_option linter.unusedVariables false
set_option maxHeartbeats 4000000
set_option maxRecDepth 100000
theorem fronts_run {from_ n : Int} {r : Rw} {b : Bool} : runP tab 1368 [.int .i64 from_, .int .i64 n, ldC r b] [] = some (.clo 1378 [] [.box [.int .i64 n], .box [.int .i64 from_], .box [ldC r b]], []) := by
  refine runP_fn t1368 rfl ?_
  simp (config := { maxSteps := 1000000 }) (disch := omega) only [go_sem, ↓reduceIte, Nat.reduceEqDiff, Nat.reduceAdd, Int.reduceToNat, reduceCtorEq, Nat.reduceLeDiff, Nat.reduceSub, Nat.reduceDiv, Nat.reduceMod, Nat.reduceMul, d1368, ldC, rwS]
noncomputable def upl (nb : Int → List Int) (s : Int) (n : Nat) (d : Int) : List Int := (List.range n).map fun i : Nat => if lev nb s i < d then lev nb s i else -1
theorem upl_len (nb : Int → List Int) (s : Int) (n : Nat) (d : Int) : (upl nb s n d).length = n := by simp [upl]
theorem upl_at {nb : Int → List Int} {s : Int} {n : Nat} {d : Int} {i : Nat} (h : i < n) : gi (upl nb s n d) i = if lev nb s i < d then lev nb s i else -1 := by
  simp [upl, gi, List.getD_eq_getElem?_getD, h]
theorem lev_ge (nb : Int → List Int) (s v : Int) : -1 ≤ lev nb s v := by
  rcases lev_cases nb s v with ⟨k, _, e⟩ | ⟨_, e⟩ <;> omega
theorem upl_zero (nb : Int → List Int) (s : Int) (n : Nat) : upl nb s n 0 = List.replicate n (-1) := by
  refine gi_ext (by simp [upl]) fun i hi => ?_
  rw [upl_len] at hi
  rw [upl_at hi]
  have : gi (List.replicate n (-1)) i = -1 := by simp [gi, List.getD_eq_getElem?_getD, hi]
  rw [this]
  have := lev_ge nb s i
  split <;> omega
def setD (d : Int) (L : List Int) (v : Int) : List Int := L.set v.toNat d
theorem setD_len (d : Int) : ∀ (l L : List Int), (l.foldl (setD d) L).length = L.length
  | [], L => rfl
  | v :: l, L => by rw [List.foldl_cons, setD_len d l]; simp [setD]
theorem setD_at {d : Int} {n : Nat} : ∀ {l L : List Int} {i : Nat}, L.length = n → (∀ v ∈ l, 0 ≤ v ∧ v < n) → i < n → gi (l.foldl (setD d) L) i = if (i : Int) ∈ l then d else gi L i
  | [], L, i, _, _, _ => by simp
  | v :: l, L, i, hL, hl, hi => by
    have hv := hl v (by simp)
    rw [List.foldl_cons, setD_at (n := n) (by simp [setD, hL]) (fun x hx => hl x (by simp [hx])) hi]
    unfold setD
    rw [gi_set (by rw [hL]; omega)]
    by_cases h1 : (i : Int) ∈ l
    · rw [if_pos h1, if_pos (by simp [h1])]
    · rw [if_neg h1]
      by_cases h2 : i = v.toNat
      · rw [if_pos h2, if_pos (by rw [List.mem_cons]; exact .inl (by omega))]
      · rw [if_neg h2, if_neg (by rw [List.mem_cons]; rintro (h | h); exact h2 (by omega); exact h1 h)]
theorem upl_succ {nb : Int → List Int} {n : Nat} (H : Plc nb n) {s : Int} (hs : 0 ≤ s ∧ s < n) (d : Nat) : (frt nb n s d).2.foldl (setD d) (upl nb s n d) = upl nb s n ((d + 1 : Nat) : Int) := by
  have F := frt_spec H hs d
  have hf : ∀ v ∈ (frt nb n s d).2, 0 ≤ v ∧ v < n := fun v hv => Wk_pl H hs ((F.front v).1 hv).1
  refine gi_ext (by rw [setD_len, upl_len, upl_len]) fun i hi => ?_
  rw [setD_len, upl_len] at hi
  rw [setD_at (upl_len ..) hf hi, upl_at hi, upl_at hi]
  have hm := F.front (i : Int)
  by_cases h : (i : Int) ∈ (frt nb n s d).2
  · rw [if_pos h, lev_yes (hm.1 h), if_pos (by omega)]
  · rw [if_neg h]
    have : lev nb s i ≠ d := fun e => h (hm.2 (lev_dst.1 e))
    by_cases h2 : lev nb s i < d
    · rw [if_pos h2, if_pos (by omega)]
    · rw [if_neg h2, if_neg (by omega)]
theorem frt_ends {nb : Int → List Int} {n : Nat} (H : Plc nb n) {s : Int} (hs : 0 ≤ s ∧ s < n) : ∃ m, m ≤ n ∧ (∀ d, d < m → (frt nb n s d).2 ≠ []) ∧ (frt nb n s m).2 = [] := by
  have he : (frt nb n s n).2 = [] := by
    rw [List.eq_nil_iff_forall_not_mem]
    intro x hx
    have := dsk_lt H hs (((frt_spec H hs n).front x).1 hx)
    omega
  rcases first_ix' (fun d => (frt nb n s d).2 ≠ []) (n + 1) with h | ⟨m, h1, h2, h3⟩
  · exact absurd he (h n (by omega))
  · exact ⟨m, by omega, h2, by simpa using h3⟩
theorem frt_below {nb : Int → List Int} {n : Nat} (H : Plc nb n) {s : Int} (hs : 0 ≤ s ∧ s < n) {m : Nat} (h : (frt nb n s m).2 = []) (i : Nat) : lev nb s i < m := by
  rcases lev_cases nb s i with ⟨k, hk, e⟩ | ⟨_, e⟩
  · rw [e]
    rcases Nat.lt_or_ge k m with h2 | h2
    · omega
    · obtain ⟨j, rfl⟩ : ∃ j, k = m + j := ⟨k - m, by omega⟩
      obtain ⟨u, hu, _⟩ := Wk_split hk.1
      obtain ⟨i2, hi2, hd⟩ := Wk_dsk hu
      obtain ⟨u2, hu2, hr⟩ := Wk_split (j := m) (k := j) hk.1
      exfalso
      have : ∀ q : Nat, ∀ v, dsk nb s (m + q) v → ∃ x, dsk nb s m x := fun q => by
        induction q with
        | zero => intro v hv; exact ⟨v, hv⟩
        | succ q ih => intro v hv; obtain ⟨u, hu, _⟩ := dsk_pred hv; exact ih u hu
      obtain ⟨x, hx⟩ := this j _ hk
      have := ((frt_spec H hs m).front x).2 hx
      rw [h] at this
      cases this
  · rw [e]; omega
noncomputable def uplv (nb : Int → List Int) (s : Int) (n : Nat) (rad : Int) : List Int := (List.range n).map fun i : Nat => if lev nb s i ≤ rad then lev nb s i else -1
theorem uplv_len (nb : Int → List Int) (s : Int) (n : Nat) (rad : Int) : (uplv nb s n rad).length = n := by simp [uplv]
theorem uplv_at {nb : Int → List Int} {s : Int} {n : Nat} {rad : Int} {i : Nat} (h : i < n) : gi (uplv nb s n rad) i = if lev nb s i ≤ rad then lev nb s i else -1 := by
  simp [uplv, gi, List.getD_eq_getElem?_getD, h]
theorem uplv_eq {nb : Int → List Int} {s : Int} {n : Nat} {rad d : Int} (h : ∀ i : Nat, lev nb s i < d ↔ (lev nb s i ≤ rad ∨ lev nb s i = -1 ∧ 0 ≤ d)) : upl nb s n d = uplv nb s n rad := by
  refine gi_ext (by rw [upl_len, uplv_len]) fun i hi => ?_
  rw [upl_len] at hi
  rw [upl_at hi, uplv_at hi]
  have := h i
  by_cases h1 : lev nb s i < d <;> by_cases h2 : lev nb s i ≤ rad
  · rw [if_pos h1, if_pos h2]
  · rw [if_pos h1, if_neg h2]; rcases this.1 h1 with h | h; exact absurd h h2; exact h.1
  · exact absurd (this.2 (.inl h2)) h1
  · rw [if_neg h1, if_neg h2]
def upA : Stmt := d1353_r0a
def upB : Stmt := d1353_r0
theorem ev_upA (st : St) (Q : AX → St → Prop) : Ev tab upA st Q = Ev tab d1353_r0a st Q := rfl
theorem ev_upB (st : St) (Q : AX → St → Prop) : Ev tab upB st Q = Ev tab d1353_r0 st Q := rfl
def upH (r : Rw) (b : Bool) (s : Nat) (rad : Int) (L : List Int) (lst : Nat) (t : List Bool × List Int) : List Blk := [.row false (rwS r), .row false [.int .i64 rad], .dead, .row false [.own 1 7], .row false [.int .i64 (plc r : Int)], .row false [.int .i64 (s : Int)], .row false [ldC r b], .row false (ints L), .lp lst [(6, .ref 1 0), (8, .nils), (9, .int .i64 0), (11, .ref 3 0), (33, .clo 1378 [] [.ref 4 0, .ref 5 0, .ref 6 0])] [34, 35] upA upB .normal, .row false (bls t.1), .row false (ints t.2)]
noncomputable def upS (r : Rw) (b : Bool) (s : Nat) (rad : Int) (d : Nat) : St := ⟨[(0, .yld 8), (3, .ref 6 0), (5, .own 1 9), (6, .own 1 10), (7, .int .i64 (d : Int))], upH r b s rad (upl (nbr r b) s (plc r) d) 0 (frt (nbr r b) (plc r) s d), 9, [(0, 11, [0, 3, 5, 6, 7], [(0, 8), (3, 6), (5, 9), (6, 10)])]⟩
def upI (r : Rw) (b : Bool) (s : Nat) (rad : Int) (L : List Int) (t : List Bool × List Int) (d i : Nat) : St := ⟨[(6, .ref 1 0), (11, .ref 3 0), (12, .int .i64 (d : Int)), (36, .own 1 10), (37, .int .i64 (t.2.length : Int)), (38, .int .i64 (i : Int))], upH r b s rad L 1 t, 11, [(0, 11, [6, 11, 12, 36, 37, 38], [(6, 1), (11, 3), (36, 10)])]⟩
theorem up_round {r : Rw} {s : Nat} {rad : Int} {b : Bool} (ok : r.ok) (h : s < plc r) (d : Nat) (hd2 : d ≤ 1000000) (hd : (d : Int) ≤ rad) (hne : (frt (nbr r b) (plc r) s d).2 ≠ []) : Ev tab d1378_b0 (upS r b s rad d) (fun x st => x = .normal ∧ st = upS r b s rad (d + 1)) := by
  have H := nbr_plc ok b
  have F := frt_spec H (s := (s : Int)) ⟨by omega, by omega⟩ d
  have ef : frt (nbr r b) (plc r) s (d + 1) = ((bey (nbr r b) (frt (nbr r b) (plc r) s d).2 (frt (nbr r b) (plc r) s d).1).1, (bey (nbr r b) (frt (nbr r b) (plc r) s d).2 (frt (nbr r b) (plc r) s d).1).2) := rfl
  have eu := upl_succ H (s := (s : Int)) ⟨by omega, by omega⟩ d
  have hf : ∀ v ∈ (frt (nbr r b) (plc r) s d).2, 0 ≤ v ∧ v < plc r := fun v hv => Wk_pl H ⟨by omega, by omega⟩ ((F.front v).1 hv).1
  have hlo := ok.f.lo
  have hhi := ok.f.hi
  have hpl : plc r = r.off.length - 1 := rfl
  have hlen : (frt (nbr r b) (plc r) s d).2.length ≤ 1000000 := by
    have := F.nd.length_le_of_subset (l₂ := (List.range (plc r)).map fun i : Nat => (i : Int)) (fun x hx => by
      have := hf x hx
      exact List.mem_map.2 ⟨x.toNat, by simp; omega, by omega⟩)
    simp at this
    omega
  have hul := upl_len (nbr r b) s (plc r) d
  have gb := byB_run (b := b) ok hlen hf F.len
  simp only [ldC, rwS] at gb
  unfold upS
  rw [ef]
  generalize frt (nbr r b) (plc r) s d = t at *
  generalize upl (nbr r b) s (plc r) d = L at *
  have hpos : 0 < t.2.length := List.length_pos_iff.2 hne
  simp (config := { maxSteps := 1000000 }) (disch := omega) only [go_sem, ↓reduceIte, Nat.reduceEqDiff, Nat.reduceAdd, Int.reduceToNat, reduceCtorEq, Nat.reduceLeDiff, Nat.reduceSub, Nat.reduceDiv, Nat.reduceMod, Nat.reduceMul, d1378_b0, upH, ldC, rwS]
  refine EvR_eq rfl rfl ?_
  simp (config := { maxSteps := 1000000 }) (disch := omega) only [go_sem, ↓reduceIte, Nat.reduceEqDiff, Nat.reduceAdd, Int.reduceToNat, reduceCtorEq, Nat.reduceLeDiff, Nat.reduceSub, Nat.reduceDiv, Nat.reduceMod, Nat.reduceMul, ev_upA, ev_upB, d1353_r0a, d1353_r0]
  refine Ev_loop0 (fun i => upI r b s rad ((t.2.take i).foldl (setD d) L) t d i) t.2.length (by simp [upI, upH, ldC, rwS]) (fun i hi => ?_) ?_
  · have e := foldl_snoc (setD (d : Int)) 0 hi L
    have hv := hf _ (getD_mem (d := 0) hi)
    have hl2 := setD_len (d : Int) (t.2.take i) L
    rw [hul] at hl2
    obtain ⟨w, hw⟩ : ∃ w : Nat, t.2.getD i 0 = w := ⟨(t.2.getD i 0).toNat, by omega⟩
    rw [e, hw]
    have e2 : setD (d : Int) ((t.2.take i).foldl (setD d) L) (w : Int) = ((t.2.take i).foldl (setD d) L).set w d := rfl
    rw [e2]
    generalize (t.2.take i).foldl (setD (d : Int)) L = M at *
    simp (config := { maxSteps := 1000000 }) (disch := omega) only [go_sem, ↓reduceIte, Nat.reduceEqDiff, Nat.reduceAdd, Int.reduceToNat, reduceCtorEq, Nat.reduceLeDiff, Nat.reduceSub, Nat.reduceDiv, Nat.reduceMod, Nat.reduceMul, d1353_b0, upI, upH, ldC, rwS, hw]
  · rw [List.take_length, eu]
    have e3 : (((d + 1 : Nat) : Int)) = (d : Int) + 1 := by omega
    rw [e3]
    have dd : dedup [10, 9] [] = [10, 9] := rfl
    simp (config := { maxSteps := 1000000 }) (disch := omega) only [go_sem, ↓reduceIte, Nat.reduceEqDiff, Nat.reduceAdd, Int.reduceToNat, reduceCtorEq, Nat.reduceLeDiff, Nat.reduceSub, Nat.reduceDiv, Nat.reduceMod, Nat.reduceMul, d1353_b0, upI, upH, ldC, rwS, gb, dd]
theorem upTo_run {r : Rw} {s : Nat} {rad : Int} {b : Bool} (hr : okR r) (hc : chk r = true) (h : s < plc r) : runP tab 1353 [.agg (rwS r), .int .i64 (s : Int), .int .i64 rad, .bool b] [] = some (.tup [.vec 1 (ints (uplv (nbr r b) s (plc r) rad)), .int .i64 0], []) := by
  refine runP_fn t1353 rfl ?_
  have ok := chk_iff.1 hc
  have lo := ok.f.lo
  have hi := ok.f.hi
  have hpl : plc r = r.off.length - 1 := rfl
  have hn : ((r.off.length : Int) - 1) = (plc r : Int) := by unfold plc; omega
  have g1 := pcheck_run (r := r) (l := [(s : Int)]) hr (by simp)
  rw [show pchk r [(s : Int)] = 0 by
    rw [pchk, if_pos hc, if_pos]
    unfold plc at h
    simp [allPl]; omega] at g1
  have g2 := many_run hr
  rw [hn] at g2
  have g3 := repeat_run (x := -1) (n := plc r) (by unfold plc; omega)
  have g4 := lead_run hr b
  have g5 := fronts_run (from_ := (s : Int)) (n := (plc r : Int)) (r := r) (b := b)
  rw [show ints [(s : Int)] = [.int .i64 (s : Int)] from rfl] at g1
  simp only [rwS, ldC] at g1 g2 g4 g5
  simp (config := { maxSteps := 1000000 }) (disch := omega) only [go_sem, ↓reduceIte, Nat.reduceEqDiff, Nat.reduceAdd, Int.reduceToNat, reduceCtorEq, Nat.reduceLeDiff, Nat.reduceSub, Nat.reduceDiv, Nat.reduceMod, Nat.reduceMul, d1353, rwS, ldC, g1, g2, g3, g4, g5]
  refine Ev_rangef rfl ?_
  refine EvC_fn t1378 rfl ?_
  have el : (List.replicate (plc r) false).length = plc r := by simp
  have e1 : ints [(s : Int)] = [.int .i64 (s : Int)] := rfl
  simp (config := { maxSteps := 1000000 }) (disch := omega) only [go_sem, ↓reduceIte, Nat.reduceEqDiff, Nat.reduceAdd, Int.reduceToNat, reduceCtorEq, Nat.reduceLeDiff, Nat.reduceSub, Nat.reduceDiv, Nat.reduceMod, Nat.reduceMul, d1378, el]
  have H := nbr_plc ok b
  have hs : 0 ≤ (s : Int) ∧ (s : Int) < plc r := ⟨by omega, by omega⟩
  obtain ⟨m0, m1, m2, m3⟩ := frt_ends H hs
  have hb := frt_below H hs m3
  have u0 := upl_zero (nbr r b) s (plc r)
  have f0 : frt (nbr r b) (plc r) s 0 = ((List.replicate (plc r) false).set s true, [(s : Int)]) := rfl
  rcases Int.lt_or_le (rad + 1) m0 with hlt | hge
  · obtain ⟨m, hm⟩ : ∃ m : Nat, m = (rad + 1).toNat := ⟨_, rfl⟩
    have hu : upl (nbr r b) s (plc r) m = uplv (nbr r b) s (plc r) rad := uplv_eq fun i => by
      have := lev_ge (nbr r b) s i
      omega
    have hm0 : m0 ≠ 0 := by rintro rfl; rw [f0] at m3; cases m3
    have hmm : m < m0 := by omega
    refine Ev_loop0 (upS r b s rad) m (by simp [upS, upH, ldC, rwS, u0, f0, upA, upB, ints]) (fun d hd => up_round ok h d (by omega) (by omega) (m2 d (by omega))) ?_
    have F := frt_spec H hs m
    have hne := m2 m hmm
    have hf : ∀ v ∈ (frt (nbr r b) (plc r) s m).2, 0 ≤ v ∧ v < plc r := fun v hv => Wk_pl H hs ((F.front v).1 hv).1
    have hlen : (frt (nbr r b) (plc r) s m).2.length ≤ 1000000 := by
      have := F.nd.length_le_of_subset (l₂ := (List.range (plc r)).map fun i : Nat => (i : Int)) (fun x hx => by
        have := hf x hx
        exact List.mem_map.2 ⟨x.toNat, by simp; omega, by omega⟩)
      simp at this
      omega
    rw [← hu]
    unfold upS
    generalize frt (nbr r b) (plc r) s m = t at *
    generalize upl (nbr r b) s (plc r) m = L at *
    have hpos : 0 < t.2.length := List.length_pos_iff.2 hne
    simp (config := { maxSteps := 1000000 }) (disch := omega) only [go_sem, ↓reduceIte, Nat.reduceEqDiff, Nat.reduceAdd, Int.reduceToNat, reduceCtorEq, Nat.reduceLeDiff, Nat.reduceSub, Nat.reduceDiv, Nat.reduceMod, Nat.reduceMul, d1378_b0, upH, ldC, rwS]
    refine EvR_eq rfl rfl ?_
    simp (config := { maxSteps := 1000000 }) (disch := omega) only [go_sem, ↓reduceIte, Nat.reduceEqDiff, Nat.reduceAdd, Int.reduceToNat, reduceCtorEq, Nat.reduceLeDiff, Nat.reduceSub, Nat.reduceDiv, Nat.reduceMod, Nat.reduceMul, ev_upA, ev_upB, d1353_r0a, d1353_r0]
    refine Ev_loop0 (fun i => upI r b s rad L t m i) 0 (by simp [upI, upH, ldC, rwS]) (fun i hi => by omega) ?_
    have e0 : rdc (ints t.2) none = some (.int .i64 (t.2.getD 0 0)) := by have := ints_rdc0 hpos; rwa [List.drop_zero] at this
    simp (config := { maxSteps := 1000000 }) (disch := omega) only [go_sem, ↓reduceIte, Nat.reduceEqDiff, Nat.reduceAdd, Int.reduceToNat, reduceCtorEq, Nat.reduceLeDiff, Nat.reduceSub, Nat.reduceDiv, Nat.reduceMod, Nat.reduceMul, d1353_b0, upI, upH, ldC, rwS, e0]
  · have hu : upl (nbr r b) s (plc r) m0 = uplv (nbr r b) s (plc r) rad := uplv_eq fun i => by
      have := hb i
      omega
    refine Ev_loop0 (upS r b s rad) m0 (by simp [upS, upH, ldC, rwS, u0, f0, upA, upB, ints]) (fun d hd => up_round ok h d (by omega) (by omega) (m2 d hd)) ?_
    have F := frt_spec H hs m0
    rw [← hu]
    unfold upS
    generalize frt (nbr r b) (plc r) s m0 = t at *
    have m3 : t.2 = [] := m3
    simp (config := { maxSteps := 1000000 }) (disch := omega) only [go_sem, ↓reduceIte, Nat.reduceEqDiff, Nat.reduceAdd, Int.reduceToNat, reduceCtorEq, Nat.reduceLeDiff, Nat.reduceSub, Nat.reduceDiv, Nat.reduceMod, Nat.reduceMul, d1378_b0, upH, ldC, rwS, m3, List.length_nil]
end Go.Proofs.Ytgjahkebhlphgaa
