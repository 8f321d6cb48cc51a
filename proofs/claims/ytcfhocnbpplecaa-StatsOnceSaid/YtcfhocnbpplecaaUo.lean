import Derived.Test.YtcfhocnbpplecaaUi
namespace Go.Proofs.Ytcfhocnbpplecaa
set_option maxHeartbeats 4000000
set_option maxRecDepth 100000
def allOne (X I : List Int) : Bool := I.all fun c => decide (cnI X c = 1)
theorem allOne_snoc (X : List Int) {I : List Int} {i : Nat} (h : i < I.length) : allOne X (I.take (i + 1)) = (allOne X (I.take i) && decide (cnI X (I.getD i 0) = 1)) := by
  unfold allOne; rw [take_snoc 0 h, List.all_append]; simp
def onS (l : List Txt) (I X : List Int) (H : List Hit) (o : Nat) (i : Nat) : St := ⟨[(0, .sl 1 (strs l)), (3, .own 1 0), (5, .int .i64 (o : Nat)), (6, .int .i64 (((I.take i).map (cnI X)).sum : Nat)), (7, .bool (allOne X (I.take i))), (8, .int .i64 (i : Int))], [.row false (ints I), .row false (hts H)], 0, [(0, 2, [0, 3, 5, 6, 7, 8], [(3, 0)])]⟩
theorem onc_law {l : List Txt} (hl : l.length ≤ 9223372036854775807) (ht : ∀ w ∈ l, w.length ≤ 9223372036854775807) : runP tabP 1395 [.sl 1 (strs l)] [] = some (.bool true, []) := by
  refine runP_fn (show tabP 1395 = _ from t1395) rfl ?_
  obtain ⟨b, gb, hb⟩ := bigB_run hl ht
  have gb := upP (up gb)
  cases b with
  | true => simp (disch := omega) only [go_sem, ↓reduceIte, reduceCtorEq, d1395, gb]
  | false =>
  obtain ⟨h1, h2⟩ := hb rfl
  have ok : okB l := ⟨by omega, fun i hi => by have := h2 i hi; omega⟩
  have g2 := codes_run ok
  have g4 := fun id => upP (of_run (id := id) ok)
  have g6 := counted_run
  have g9 := ids_run ok
  have g12 := once_run ok
  have hn := reps_len l
  have ha := odds_add l
  have hcn := ofR_cn (reps l)
  have hXl : (idsR l).length = (reps l).length := by simp [idsR]
  have hsum := nsum_rising (idsR l)
  have htk := nsum_take (cnI (idsR l)) (rising (idsR l))
  have hin : ∀ i, i < (rising (idsR l)).length → 0 < cnI (idsR l) ((rising (idsR l)).getD i 0) := fun i hi => (cnI_pos _ _).2 ((rising_mem _ _).1 (getD_memI hi))
  have hup : ∀ i, i + 1 < (rising (idsR l)).length → (rising (idsR l)).getD i 0 < (rising (idsR l)).getD (i + 1) 0 := fun i hi => rising_lt hi
  have hIl := rising_len (idsR l)
  have hon : onceB l = allOne (idsR l) (rising (idsR l)) := by
    unfold onceB allOne
    rw [Bool.eq_iff_iff, decide_eq_true_eq, List.all_eq_true]
    constructor
    · intro h c hc
      have h3 := (rising_mem _ _).1 hc
      have := h c ((ddI_mem _ _).2 h3)
      have := (cnI_pos _ _).2 h3
      rw [decide_eq_true_eq]; omega
    · intro h c hc
      have := of_decide_eq_true (h c ((rising_mem _ _).2 ((ddI_mem _ _).1 hc)))
      omega
  rw [hon] at g12
  clear hon
  rw [show (reps l).map (·.id) = idsR l from rfl] at hcn
  generalize idsR l = X at *
  generalize rising X = I at *
  generalize ctsP (cdsR l) = H at *
  generalize odds l = o at *
  have L := strs_length l
  have LI := ints_length I
  simp (disch := omega) only [go_sem, ↓reduceIte, Nat.reduceEqDiff, Nat.reduceAdd, reduceCtorEq, d1395, gb, g2, g9]
  refine Ev_loop0 (fun i => onS l I X H o i) I.length (by simp [onS, allOne]) (fun i hi => ?_) ?_
  · have e := ints_rdc0 hi
    have g := g4 (I.getD i 0)
    have hp := hin i hi
    have hc := hcn (I.getD i 0)
    have LO := repsS_len (ofR (reps l) (I.getD i 0))
    have hs := nsum_snoc (cnI X) hi
    have hb1 := htk (i + 1)
    have eq := allOne_snoc X hi
    unfold onS
    rw [eq, hs]
    rw [hs] at hb1
    rw [decide_eq_true (by omega : 0 < (ofR (reps l) (I.getD i 0)).length)] at g
    generalize allOne X (I.take i) = q at *
    generalize ((I.take i).map (cnI X)).sum = n at *
    generalize ofR (reps l) (I.getD i 0) = O at *
    have e1 : 0 < i → ((i : Int) - 1).toNat = i - 1 := fun _ => by omega
    have e2 : 0 < i → I.getD (i - 1) 0 < I.getD i 0 := fun h => by have := hup (i - 1) (by omega); rwa [show i - 1 + 1 = i by omega] at this
    generalize I.getD i 0 = k at *
    rw [← hc]
    by_cases h1' : O.length = 1
    · rw [decide_eq_true h1', Bool.and_true]
      by_cases hz : 0 < i
      · have e1 := e1 hz
        have e2 := e2 hz
        cases q <;> simp (disch := omega) only [go_sem, ↓reduceIte, Nat.reduceEqDiff, Nat.reduceAdd, reduceCtorEq, d1395_b0, LI, e, g, LO, e1]
      · obtain rfl : i = 0 := by omega
        rw [List.drop_zero] at e
        cases q <;> simp (disch := omega) only [go_sem, ↓reduceIte, Nat.reduceEqDiff, Nat.reduceAdd, Int.reduceToNat, reduceCtorEq, d1395_b0, LI, e, g, LO]
    · rw [decide_eq_false h1', Bool.and_false]
      by_cases hz : 0 < i
      · have e1 := e1 hz
        have e2 := e2 hz
        cases q <;> simp (disch := omega) only [go_sem, ↓reduceIte, Nat.reduceEqDiff, Nat.reduceAdd, reduceCtorEq, d1395_b0, LI, e, g, LO, e1]
      · obtain rfl : i = 0 := by omega
        rw [List.drop_zero] at e
        cases q <;> simp (disch := omega) only [go_sem, ↓reduceIte, Nat.reduceEqDiff, Nat.reduceAdd, Int.reduceToNat, reduceCtorEq, d1395_b0, LI, e, g, LO]
  · unfold onS
    rw [List.take_length, hsum]
    generalize allOne X I = q at *
    have hlen : ((X.length : Int) + o) = l.length := by omega
    cases q <;> simp (disch := omega) only [go_sem, ↓reduceIte, Nat.reduceEqDiff, reduceCtorEq, d1395_b0, L, LI, g6, g12, hlen]
end Go.Proofs.Ytcfhocnbpplecaa
