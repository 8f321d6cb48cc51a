import Derived.Test.YtcfhocnbpplecaaUg
import Derived.Test.YtcfhocnbpplecaaXo
namespace Go.Proofs.Ytcfhocnbpplecaa
set_option maxHeartbeats 4000000
set_option maxRecDepth 100000
theorem dd_len_eq (l : List Int) : (ddI l).length = l.length ↔ l.Nodup := by
  refine snocIndI (p := fun l => (ddI l).length = l.length ↔ l.Nodup) (by simp [ddI]) (fun l x ih => ?_) l
  have hl := ddI_len l
  rw [ddI_snoc, List.nodup_append, List.length_append]
  by_cases h : x ∈ ddI l
  · rw [if_pos h]
    have hx := (ddI_mem l x).1 h
    constructor
    · intro e; simp at e; omega
    · rintro ⟨_, _, h3⟩; exact absurd rfl (h3 x hx x (by simp))
  · rw [if_neg h, List.length_append]
    have hx : x ∉ l := fun e => h ((ddI_mem l x).2 e)
    simp only [List.length_cons, List.length_nil]
    constructor
    · intro e
      exact ⟨ih.1 (by omega), by simp, fun a ha b hb e => hx (by rw [List.mem_singleton] at hb; rw [← hb, ← e]; exact ha)⟩
    · rintro ⟨h1, _, _⟩; have := ih.2 h1; omega
theorem cn_nodup (l : List Int) : (∀ c ∈ ddI l, cnI l c ≤ 1) ↔ l.Nodup := by
  refine snocIndI (p := fun l => (∀ c ∈ ddI l, cnI l c ≤ 1) ↔ l.Nodup) (by simp [ddI]) (fun l x ih => ?_) l
  rw [List.nodup_append]
  by_cases hx : x ∈ l
  · have h1 := (cnI_pos l x).2 hx
    constructor
    · intro h
      have := h x ((ddI_mem _ _).2 (by simp))
      rw [cnI_snoc, if_pos rfl] at this
      omega
    · rintro ⟨_, _, h3⟩; exact absurd rfl (h3 x hx x (by simp))
  · have h1 := cnI_zero hx
    constructor
    · intro h
      refine ⟨ih.1 fun c hc => ?_, by simp, fun a ha b hb e => hx (by rw [List.mem_singleton] at hb; rw [← hb, ← e]; exact ha)⟩
      have := h c ((ddI_mem _ _).2 (by simp [(ddI_mem _ _).1 hc]))
      rw [cnI_snoc] at this
      omega
    · rintro ⟨h2, _, _⟩ c hc
      have h3 := ih.2 h2
      rw [cnI_snoc]
      by_cases e : x = c
      · subst e; rw [if_pos rfl, h1]; omega
      · rw [if_neg e]
        have := (ddI_mem _ _).1 hc
        rcases List.mem_append.1 this with h | h
        · exact h3 c ((ddI_mem _ _).2 h)
        · rw [List.mem_singleton] at h; exact absurd h.symm e
theorem rising_dd_len (l : List Int) : (rising l).length = (ddI l).length := by rw [← sorted_dd, sorted_len]
theorem once_eq (l : List Txt) : onceB l = decide ((rising (idsR l)).length = (idsR l).length) := by
  unfold onceB
  rw [Bool.eq_iff_iff, decide_eq_true_eq, decide_eq_true_eq, rising_dd_len, dd_len_eq, cn_nodup]
def cl0 : List Txt := [[1, 0, 0, 0, 0], [2, 251, 1], [3, 0, 0, 0, 0], [120]]
def cl1 : List Txt := [[1, 0, 0, 0, 0], [1, 0, 0, 0, 0]]
theorem cl0_reps : reps cl0 = [⟨1, 0, false, 0, []⟩, ⟨2, 251, false, 0, []⟩, ⟨3, 0, false, 0, []⟩] := by decide
theorem cl1_reps : reps cl1 = [⟨1, 0, false, 0, []⟩, ⟨1, 0, false, 0, []⟩] := by decide
theorem cl0_ok : okB cl0 := ⟨by decide, by decide⟩
theorem cl1_ok : okB cl1 := ⟨by decide, by decide⟩
theorem cl0_cds : ctsP (cdsR cl0) = [⟨0, 2⟩, ⟨251, 1⟩] := by rw [cdsR, cl0_reps]; decide
theorem cl0_odds : odds cl0 = 1 := by decide
theorem cl0_of : ofR (reps cl0) 2 = [⟨2, 251, false, 0, []⟩] := by rw [cl0_reps]; decide
theorem cl0_ids : rising (idsR cl0) = [1, 2, 3] := by rw [idsR, cl0_reps]; decide
theorem cl0_once : onceB cl0 = true := by rw [once_eq, idsR, cl0_reps]; decide
theorem cl1_once : onceB cl1 = false := by rw [once_eq, idsR, cl1_reps]; decide
theorem counted_run : runP tabP 1402 [] [] = some (.bool true, []) := by
  refine runP_fn (show tabP 1402 = _ from t1402) rfl ?_
  have g1 := codes_run cl0_ok
  rw [cl0_cds, cl0_odds] at g1
  have g2 := upP (of_run (id := 2) cl0_ok)
  rw [cl0_of] at g2
  have g3 := ids_run cl0_ok
  rw [cl0_ids] at g3
  have g4 := once_run cl0_ok
  rw [cl0_once] at g4
  have g5 := once_run cl1_ok
  rw [cl1_once] at g5
  have g6 := upP (up (rsamec_run (a := [⟨0, 2⟩, ⟨251, 1⟩]) (b := [⟨0, 2⟩, ⟨251, 1⟩]) (by simp) (by simp)))
  rw [beq_self_eq_true] at g6
  have g7 := upP (up (ints_run (a := [1, 2, 3]) (b := [1, 2, 3]) (by simp) (by simp)))
  rw [beq_self_eq_true] at g7
  simp only [cl0, cl1, strs, ints, List.map_cons, List.map_nil, hts_cons, hts_nil, repsS_cons, repsS_nil, repS, List.cons_append, List.nil_append, List.length_cons, List.length_nil, Nat.zero_add, Nat.lt_add_one, decide_true] at g1 g2 g3 g4 g5 g6 g7
  simp (disch := omega) only [go_sem, ↓reduceIte, Nat.reduceEqDiff, Nat.reduceAdd, Int.reduceToNat, Nat.reduceLeDiff, Nat.reduceDiv, d1402, g1, g2, g3, g4, g5, g6, g7]
theorem tell_law {l : List Txt} (hl : l.length ≤ 9223372036854775807) (ht : ∀ w ∈ l, w.length ≤ 9223372036854775807) {id : Int} : runP tabP 1393 [.sl 1 (strs l), .int .i64 id] [] = some (.bool true, []) := by
  refine runP_fn (show tabP 1393 = _ from t1393) rfl ?_
  obtain ⟨b, gb, hb⟩ := bigB_run hl ht
  have gb := upP (up gb)
  cases b with
  | true => simp (disch := omega) only [go_sem, ↓reduceIte, reduceCtorEq, d1393, gb]
  | false =>
  obtain ⟨h1, h2⟩ := hb rfl
  have ok : okB l := ⟨by omega, fun i hi => by have := h2 i hi; omega⟩
  have g1 := upP (up (otx_run (l := l) (by omega)))
  have g2 := codes_run ok
  have g3 := upP (up (rcodes_run ok))
  rw [cts_eq (cds_ok l)] at g3
  have g4 := upP (of_run (id := id) ok)
  have g5 := upP (up (rof_run (id := id) ok))
  have g6 := counted_run
  have hn := reps_len l
  have hc : (ctsP (cdsR l)).length ≤ 60 := by
    unfold ctsP; rw [List.length_map]
    have := rising_len (cdsR l); have := cdsR_len l; omega
  have hr : (rising (idsR l)).length ≤ 60 := by have := rising_len (idsR l); have := idsR_len l; omega
  have g7 := upP (up (rsamec_run (a := ctsP (cdsR l)) (b := ctsP (cdsR l)) (by omega) (by omega)))
  have ho := ofR_len (reps l) id
  have hh : ∀ x ∈ ofR (reps l) id, x.hits.length ≤ 1000000 := fun x hx => by
    obtain ⟨s, _, h⟩ := List.mem_filterMap.1 (List.mem_filter.1 hx).1
    have := rp_len h; omega
  have g8 := upP (up (rsames_run (a := ofR (reps l) id) (b := ofR (reps l) id) (by omega) (by omega) hh hh))
  have g9 := ids_run ok
  have g10 := upP (up (rids_run ok))
  have g11 := upP (up (ints_run (a := rising (idsR l)) (b := rising (idsR l)) (by omega) (by omega)))
  have g12 := once_run ok
  have g13 := upP (up (ronce_run ok))
  rw [← once_eq] at g13
  have g14 := upP (up (texts_run (a := l) (b := l) (by omega) (by omega)))
  rw [beq_self_eq_true] at g7 g8 g11 g14
  generalize ctsP (cdsR l) = H at *
  generalize ofR (reps l) id = O at *
  generalize rising (idsR l) = I at *
  generalize onceB l = q at *
  generalize (decide (0 < O.length)) = z at *
  have L := strs_length l
  have LO := repsS_len O
  cases q <;> cases z <;> simp (disch := omega) only [go_sem, ↓reduceIte, Nat.reduceEqDiff, Nat.reduceAdd, reduceCtorEq, d1393, Bool.false_and, gb, g1, g2, g3, g4, g5, g6, g7, g8, g9, g10, g11, g12, g13, g14]
theorem reps_app (l m : List Txt) : reps (l ++ m) = reps l ++ reps m := List.filterMap_append
end Go.Proofs.Ytcfhocnbpplecaa
