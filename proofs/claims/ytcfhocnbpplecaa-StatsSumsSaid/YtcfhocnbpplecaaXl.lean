import Derived.Test.YtcfhocnbpplecaaXj
import Derived.Test.YtcfhocnbpplecaaKup
namespace Go.Proofs.Ytcfhocnbpplecaa
set_option linter.unusedVariables false
set_option maxHeartbeats 4000000
set_option maxRecDepth 100000
theorem alG_alW {α : Type} {t : Rd α} {ok : α → Bool} {s : Txt} : alG t ok s = match alW t s with
    | some x => if ok x = true then some x else none
    | none => none := by
  unfold alG alW
  cases t.run s 0 with
  | none => rfl
  | some r =>
    obtain ⟨x, e⟩ := r
    simp only
    by_cases h1 : e = s.length <;> by_cases h2 : ok x = true <;> simp [h1, h2]
def getRA (s : Txt) : List AV := match alG tRep okR s with
  | some x => [.agg (repV x), .int .i64 0]
  | none => [.agg (repV zR), .int .i64 220]
theorem alW_len {s : Txt} {x : Rep} (h : alW tRep s = some x) : x.hits.length ≤ 1000000 := by
  unfold alW at h
  cases hr : tRep.run s 0 with
  | none => rw [hr] at h; cases h
  | some r =>
    obtain ⟨y, e⟩ := r
    rw [hr] at h
    simp only at h
    split at h
    · injection h with h; subst h
      obtain ⟨b, hb, _⟩ := run_gen (Nat.zero_le _) hr
      unfold tRep at hb
      cases hb with
      | @num _ _ id _ _ h1 h2 hb =>
        cases hb with
        | @num _ _ code _ _ h3 h4 hb =>
          dsimp only at hb
          split at hb
          · cases hb with
            | @num _ _ f _ _ h5 h6 hb =>
              cases hb with
              | @num _ _ d _ _ h7 h8 hb =>
                cases hb with
                | @num _ _ n _ _ h9 h10 hb =>
                  obtain ⟨l, b', k1, rfl, k3⟩ := gen_hits hb
                  cases k3
                  simp; omega
          · cases hb
            simp
    · cases h
section
variable {T : Nat → Option Entry}
def WholeR (T : Nat → Option Entry) : Prop := ∀ s : Txt, s.length ≤ 1000000 → runP T 1433 [.str s, .clo 1434 [] []] [] = some (.tup (wholeR s), [])
theorem getR_run (hT : TLe tab T) (hW : WholeR T) {s : Txt} (hs : s.length ≤ 1000000) : runP T 1423 [.str s] [] = some (.tup (getRA s), []) := by
  refine runP_fn (hT 1423 _ t1423) rfl ?_
  have g := hW s hs
  unfold getRA
  rw [alG_alW]
  cases h : alW tRep s with
  | none =>
    simp only [wholeR, h, repV, zR, hts_nil] at g
    simp (disch := omega) only [go_sem, ↓reduceIte, Nat.reduceEqDiff, Nat.reduceAdd, reduceCtorEq, d1423, g, repV, zR, hts_nil]
  | some x =>
    simp only [wholeR, h, repV] at g
    have gc := runP_up hT (rmay_run (r := x) (alW_len h))
    simp only [repS] at gc
    simp only
    cases ho : okR x with
    | true =>
      rw [ho] at gc
      simp (disch := omega) only [go_sem, ↓reduceIte, Nat.reduceEqDiff, Nat.reduceAdd, reduceCtorEq, d1423, g, gc, repV]
    | false =>
      rw [ho] at gc
      simp (disch := omega) only [go_sem, ↓reduceIte, Nat.reduceEqDiff, Nat.reduceAdd, reduceCtorEq, d1423, g, gc, repV, zR, hts_nil, Bool.false_eq_true]
end
theorem rdC_le {s : Txt} {j : Nat} (hj : j ≤ s.length) : (rdC s j).1 ≤ 2147483647 ∧ (rdC s j).2.1 ≤ s.length := by
  unfold rdC
  split
  · rename_i n e h
    have := rdN_sound h
    exact ⟨by simp only; omega, by simp only; omega⟩
  · exact ⟨by simp, hj⟩
theorem cnum_run {s : Txt} (hs : s.length ≤ 1000000) {j : Nat} (hj : j ≤ s.length) {bad : Bool} : runP tab 1437 [.ref 0 0] [.row false [.str s, .int .i64 (j : Int), .bool bad]] = some (.int .i64 ((rdC s j).1 : Nat), [.row false [.str s, .int .i64 ((rdC s j).2.1 : Nat), .bool (bad || (rdC s j).2.2)]]) := by
  refine runP_fn t1437 rfl ?_
  have g := rrd_run hs hj
  unfold rdC
  cases h : rdN s j with
  | none =>
    rw [h] at g
    simp only [rdA] at g
    cases bad <;> simp (disch := omega) only [go_sem, ↓reduceIte, Nat.reduceEqDiff, Nat.reduceAdd, reduceCtorEq, d1437, g, Bool.or_true, Int.natCast_zero]
  | some r =>
    obtain ⟨n, e⟩ := r
    rw [h] at g
    simp only [rdA] at g
    cases bad <;> simp (disch := omega) only [go_sem, ↓reduceIte, Nat.reduceEqDiff, Nat.reduceAdd, reduceCtorEq, Nat.reduceLeDiff, d1437, g, Bool.or_false, Bool.or_true]
end Go.Proofs.Ytcfhocnbpplecaa

namespace Go.Proofs.Ytcfhocnbpplecaa
set_option linter.unusedVariables false
set_option maxHeartbeats 4000000
set_option maxRecDepth 100000
theorem same_nn : runP tab 1439 [.sl 1 [], .sl 1 []] [] = some (.bool true, []) := by
  refine runP_fn t1439 rfl ?_
  simp (disch := omega) only [go_sem, ↓reduceIte, Nat.reduceEqDiff, reduceCtorEq, d1439]
  refine Ev_loop0 (fun i => ⟨[(0, .sl 1 []), (1, .sl 1 []), (5, .int .i64 (i : Int))], [], 0, [(0, 0, [0, 1, 5], [])]⟩) 0 rfl (fun i hi => by omega) ?_
  simp (disch := omega) only [go_sem, ↓reduceIte, Nat.reduceEqDiff, reduceCtorEq, d1439_b0]
theorem sameA_nn {f : Bool} {d : Int} : runP tab 1428 [.agg [.bool f, .int .i64 d, .sl 1 []], .agg [.bool false, .int .i64 0, .sl 1 []]] [] = some (.bool (decide (f = false ∧ d = 0)), []) := by
  refine runP_fn t1428 rfl ?_
  have g1 := same_nn
  cases f
  · by_cases hd : d = 0
    · simp (disch := omega) only [go_sem, ↓reduceIte, Nat.reduceEqDiff, Nat.reduceAdd, reduceCtorEq, d1428, g1, hd, and_self, decide_true, true_and, show (false == false) = true from rfl]
    · simp (disch := omega) only [go_sem, ↓reduceIte, Nat.reduceEqDiff, Nat.reduceAdd, reduceCtorEq, d1428, hd, decide_false, true_and, and_false, show (false == false) = true from rfl]
  · simp (disch := omega) only [go_sem, ↓reduceIte, Nat.reduceEqDiff, Nat.reduceAdd, reduceCtorEq, d1428, decide_false, false_and, reduceCtorEq, show (true == false) = false from rfl]
def rrN (a c d : Int) (f : Bool) (i : Nat) : St := ⟨[(3, .ref 1 0), (4, .int .i64 (i : Int))], [.row false [.int .i64 a, .int .i64 c, .bool f, .int .i64 d, .sl 1 []], .row false [.bool f, .int .i64 d, .sl 1 []]], 0, [(0, 2, [3, 4], [(3, 1)])]⟩
theorem rref_nil {id code d : Int} {found : Bool} : runP tab 1456 [.agg [.int .i64 id, .int .i64 code, .bool found, .int .i64 d, .sl 1 []]] [] = some (.bool (okR ⟨id, code, found, d, []⟩), []) := by
  refine runP_fn t1456 rfl ?_
  have gi := rnumq_run id
  have ga := sameA_nn (f := found) (d := d)
  by_cases c0 : 0 ≤ id ∧ id ≤ 2147483647
  case neg =>
    rw [decide_eq_false c0] at gi
    rw [okR_no (r := ⟨id, code, found, d, []⟩) (fun h => c0 h.1)]
    simp (disch := omega) only [go_sem, ↓reduceIte, Nat.reduceEqDiff, Nat.reduceAdd, Nat.reduceLeDiff, d1456, gi]
  rw [decide_eq_true c0] at gi
  by_cases c1 : 0 ≤ code
  case neg =>
    rw [okR_no (r := ⟨id, code, found, d, []⟩) (fun h => c1 h.2.1.1)]
    simp (disch := omega) only [go_sem, ↓reduceIte, Nat.reduceEqDiff, Nat.reduceAdd, Nat.reduceLeDiff, d1456, gi]
  by_cases c2 : code ≤ 1000
  case neg =>
    rw [okR_no (r := ⟨id, code, found, d, []⟩) (fun h => c2 h.2.1.2)]
    simp (disch := omega) only [go_sem, ↓reduceIte, Nat.reduceEqDiff, Nat.reduceAdd, Nat.reduceLeDiff, d1456, gi]
  by_cases c3 : 0 ≤ d
  case neg =>
    rw [okR_no (r := ⟨id, code, found, d, []⟩) (fun h => c3 h.2.2.1.1)]
    simp (disch := omega) only [go_sem, ↓reduceIte, Nat.reduceEqDiff, Nat.reduceAdd, Nat.reduceLeDiff, d1456, gi]
  by_cases c4 : d ≤ 400
  case neg =>
    rw [okR_no (r := ⟨id, code, found, d, []⟩) (fun h => c4 h.2.2.1.2)]
    simp (disch := omega) only [go_sem, ↓reduceIte, Nat.reduceEqDiff, Nat.reduceAdd, Nat.reduceLeDiff, d1456, gi]
  cases found
  · by_cases c6 : d = 0
    case neg =>
      rw [okR_no (r := ⟨id, code, false, d, []⟩) (fun h => by have := h.2.2.2.2.2.1; simp only [reduceCtorEq, false_or] at this; exact c6 this.1)]
      rw [decide_eq_false (fun h => c6 h.2)] at ga
      by_cases c7 : code = 0 <;> simp (disch := omega) only [go_sem, ↓reduceIte, Nat.reduceEqDiff, Nat.reduceAdd, Nat.reduceLeDiff, d1456, gi, ga]
    subst c6
    rw [okR_yes (r := ⟨id, code, false, 0, []⟩) ⟨c0, ⟨c1, c2⟩, by simp, by simp, .inr rfl, .inr ⟨rfl, rfl⟩, .inl rfl, by simp⟩]
    rw [decide_eq_true ⟨rfl, rfl⟩] at ga
    by_cases c7 : code = 0
    · simp (disch := omega) only [go_sem, ↓reduceIte, Nat.reduceEqDiff, Nat.reduceAdd, Nat.reduceLeDiff, d1456, gi]
      refine Ev_loop0 (rrN _ _ _ _) 0 rfl (fun i hi => by omega) ?_
      simp (disch := omega) only [go_sem, ↓reduceIte, Nat.reduceEqDiff, Nat.reduceAdd, reduceCtorEq, d1456_b0, rrN]
    · simp (disch := omega) only [go_sem, ↓reduceIte, Nat.reduceEqDiff, Nat.reduceAdd, Nat.reduceLeDiff, d1456, gi, ga]
      refine Ev_loop0 (rrN _ _ _ _) 0 rfl (fun i hi => by omega) ?_
      simp (disch := omega) only [go_sem, ↓reduceIte, Nat.reduceEqDiff, Nat.reduceAdd, reduceCtorEq, d1456_b0, rrN]
  · by_cases c7 : code = 0
    case neg =>
      rw [okR_no (r := ⟨id, code, true, d, []⟩) (fun h => by have := h.2.2.2.2.1; simp only [reduceCtorEq, or_false] at this; exact c7 this)]
      rw [decide_eq_false (fun h => by cases h.1)] at ga
      simp (disch := omega) only [go_sem, ↓reduceIte, Nat.reduceEqDiff, Nat.reduceAdd, Nat.reduceLeDiff, d1456, gi, ga]
    subst c7
    rw [okR_yes (r := ⟨id, 0, true, d, []⟩) ⟨c0, ⟨c1, c2⟩, ⟨c3, c4⟩, by simp, .inl rfl, .inl rfl, .inr rfl, by simp⟩]
    simp (disch := omega) only [go_sem, ↓reduceIte, Nat.reduceEqDiff, Nat.reduceAdd, Nat.reduceLeDiff, d1456, gi]
    refine Ev_loop0 (rrN _ _ _ _) 0 rfl (fun i hi => by omega) ?_
    simp (disch := omega) only [go_sem, ↓reduceIte, Nat.reduceEqDiff, Nat.reduceAdd, reduceCtorEq, d1456_b0, rrN]
theorem rputR_nil {id code d : Int} {found : Bool} : runP tab 1438 [.agg [.int .i64 id, .int .i64 code, .bool found, .int .i64 d, .sl 1 []]] [] = some (.tup (putRA ⟨id, code, found, d, []⟩), []) := by
  refine runP_fn t1438 rfl ?_
  have gm := rref_nil (id := id) (code := code) (d := d) (found := found)
  unfold putRA
  cases ho : okR ⟨id, code, found, d, []⟩ with
  | false =>
    rw [ho] at gm
    simp (disch := omega) only [go_sem, ↓reduceIte, Nat.reduceEqDiff, Nat.reduceAdd, d1438, gm]
  | true =>
    rw [ho] at gm
    rw [if_pos rfl]
    obtain ⟨c0, c1, c2, c3, c4, c5, c6, c7⟩ := of_decide_eq_true ho
    simp only at c0 c1 c2 c3 c4 c5 c6 c7
    obtain ⟨_, g1, k1⟩ := two_lay (a := id) (b := code) c0 (by omega)
    by_cases hc : code = 0
    · obtain ⟨_, g2, k2⟩ := three_lay (a := (fN found : Nat)) (b := d) (c := 0) (by unfold fN; split <;> omega) (by omega) (by omega)
      simp only [encR]
      rw [if_pos hc, ← List.append_assoc]
      simp only [List.length_nil, Int.natCast_zero, encH, List.flatMap_nil, List.append_nil]
      cases found
      · rw [show ((fN false : Nat) : Int) = 0 from rfl] at g2 k2 ⊢
        simp (disch := omega) only [go_sem, ↓reduceIte, Nat.reduceEqDiff, Nat.reduceAdd, Nat.reduceLeDiff, d1438, gm, g1, g2]
        refine Ev_loop0 (fun i => ⟨[(1, .ref 0 0), (4, .str (encI [id, code] ++ encI [0, d, 0])), (6, .int .i64 (i : Int))], [.row false [.int .i64 id, .int .i64 code, .bool false, .int .i64 d, .sl 1 []]], 0, [(0, 1, [1, 4, 6], [(1, 0)])]⟩) 0 rfl (fun i hi => by omega) ?_
        simp (disch := omega) only [go_sem, ↓reduceIte, Nat.reduceEqDiff, Nat.reduceAdd, reduceCtorEq, d1438_b0]
      · rw [show ((fN true : Nat) : Int) = 1 from rfl] at g2 k2 ⊢
        simp (disch := omega) only [go_sem, ↓reduceIte, Nat.reduceEqDiff, Nat.reduceAdd, Nat.reduceLeDiff, d1438, gm, g1, g2]
        refine Ev_loop0 (fun i => ⟨[(1, .ref 0 0), (4, .str (encI [id, code] ++ encI [1, d, 0])), (6, .int .i64 (i : Int))], [.row false [.int .i64 id, .int .i64 code, .bool true, .int .i64 d, .sl 1 []]], 0, [(0, 1, [1, 4, 6], [(1, 0)])]⟩) 0 rfl (fun i hi => by omega) ?_
        simp (disch := omega) only [go_sem, ↓reduceIte, Nat.reduceEqDiff, Nat.reduceAdd, reduceCtorEq, d1438_b0]
    · simp only [encR]
      rw [if_neg hc, List.append_nil]
      simp (disch := omega) only [go_sem, ↓reduceIte, Nat.reduceEqDiff, Nat.reduceAdd, Nat.reduceLeDiff, d1438, gm, g1]
end Go.Proofs.Ytcfhocnbpplecaa

namespace Go.Proofs.Ytcfhocnbpplecaa
set_option linter.unusedVariables false
set_option maxHeartbeats 4000000
set_option maxRecDepth 100000
def rcS (s : Txt) (a d : Int) (f : Bool) (n : Nat) (acc : List Hit) (j : Nat) (z : Bool) (i : Nat) : St := ⟨[(0, .str s), (2, .ref 0 0), (4, .ref 1 0), (7, .ref 2 0), (9, .int .i64 (n : Int)), (10, .int .i64 (i : Int))], [.row false [.int .i64 0, .int .i64 0, .bool false, .int .i64 0, .nils], .row false [.str s, .int .i64 (j : Int), .bool z], .row false [.int .i64 a, .int .i64 0, .bool f, .int .i64 d, hC acc]], 0, [(0, 3, [0, 2, 4, 7, 9, 10], [(2, 0), (4, 1), (7, 2)])]⟩
theorem rc_step {s : Txt} (hs : s.length ≤ 1000000) {a d : Int} {f z : Bool} {n : Nat} {acc : List Hit} (hn : n ≤ 2147483647) (ha : acc.length ≤ 101) {j i : Nat} (hj : j ≤ s.length) (hi : i < n) (hi2 : i < 101) : Ev tab d1427_b0 (rcS s a d f n acc j z i) (fun x st => x = .normal ∧ st = rcS s a d f n (acc ++ [⟨((rdC s j).1 : Nat), ((rdC s (rdC s j).2.1).1 : Nat)⟩]) (rdC s (rdC s j).2.1).2.1 ((z || (rdC s j).2.2) || (rdC s (rdC s j).2.1).2.2) (i + 1)) := by
  have g1 := cnum_run hs hj (bad := z)
  have b1 := rdC_le hj
  have g2 := cnum_run hs b1.2 (bad := z || (rdC s j).2.2)
  have b2 := rdC_le b1.2
  generalize rdC s j = p at *
  obtain ⟨v, e, y⟩ := p
  simp only at *
  generalize rdC s e = p at *
  obtain ⟨w, e2, y2⟩ := p
  simp only at *
  generalize (z || y) = z1 at *
  generalize (z1 || y2) = z2 at *
  have eo : hts [⟨v, w⟩] = [.int .i64 (v : Int), .int .i64 (w : Int)] := rfl
  unfold rcS
  rw [hC_snoc, ← hts_app, eo]
  cases acc with
  | nil =>
    simp only [hC, hts_nil, List.nil_append]
    simp (disch := omega) only [go_sem, ↓reduceIte, Nat.reduceEqDiff, Nat.reduceAdd, reduceCtorEq, Nat.reduceLeDiff, Nat.reduceDiv, d1427_b0, g1, g2]
  | cons z t =>
    simp only [hC]
    generalize z :: t = acc at *
    simp (disch := omega) only [go_sem, ↓reduceIte, Nat.reduceEqDiff, Nat.reduceAdd, reduceCtorEq, Nat.reduceLeDiff, Nat.reduceDiv, d1427_b0, g1, g2]
theorem docG_of {α : Type} {t : Rd α} {ok : α → Bool} {enc : α → Txt} {s : Txt} {x : α} {e : Nat} {z : Bool} (h : t.doc s 0 false = (x, e, z)) : docG t ok enc s = if z = false ∧ ok x = true ∧ enc x = s then some x else none := by
  unfold docG
  rw [h]
theorem rgetR_run {s : Txt} (hs : s.length ≤ 1000000) : runP tab 1427 [.str s] [] = some (.tup (getRA s), []) := by
  unfold getRA
  rw [← formR.doc]
  refine runP_fn t1427 rfl ?_
  have g1 := cnum_run hs (j := 0) (Nat.zero_le _) (bad := false)
  have b1 := rdC_le (s := s) (j := 0) (Nat.zero_le _)
  cases h1 : rdC s 0 with
  | mk id p =>
  obtain ⟨e1, y1⟩ := p
  rw [h1] at g1 b1
  simp only [Bool.false_or] at g1 b1
  rw [show ((0 : Nat) : Int) = 0 from rfl] at g1
  have g2 := cnum_run hs b1.2 (bad := y1)
  have b2 := rdC_le b1.2
  cases h2 : rdC s e1 with
  | mk code p =>
  obtain ⟨e2, y2⟩ := p
  rw [h2] at g2 b2
  simp only at g2 b2
  generalize hzz2 : (y1 || y2) = z2 at *
  by_cases hc : code = 0
  · subst hc
    have g3 := cnum_run hs b2.2 (bad := z2)
    have b3 := rdC_le b2.2
    cases h3 : rdC s e2 with
    | mk f p =>
    obtain ⟨e3, y3⟩ := p
    rw [h3] at g3 b3
    simp only at g3 b3
    generalize hzz3 : (z2 || y3) = z3 at *
    have g4 := cnum_run hs b3.2 (bad := z3)
    have b4 := rdC_le b3.2
    cases h4 : rdC s e3 with
    | mk d p =>
    obtain ⟨e4, y4⟩ := p
    rw [h4] at g4 b4
    simp only at g4 b4
    generalize hzz4 : (z3 || y4) = z4 at *
    have g5 := cnum_run hs b4.2 (bad := z4)
    have b5 := rdC_le b4.2
    cases h5 : rdC s e4 with
    | mk n p =>
    obtain ⟨e5, y5⟩ := p
    rw [h5] at g5 b5
    simp only at g5 b5
    generalize hzz5 : (z4 || y5) = z5 at *
    have ef : decide ((f : Int) = 1) = decide (f = 1) := by rw [decide_eq_decide]; omega
    simp (disch := omega) only [go_sem, ↓reduceIte, Nat.reduceEqDiff, Nat.reduceAdd, reduceCtorEq, Nat.reduceLeDiff, d1427, g1, g2, g3, g4, g5]
    generalize hR : (tHits (min n 101) [] fun l => Rd.ret (⟨id, (0 : Nat), decide (f = 1), d, l⟩ : Rep)).doc s e5 z5 = R
    have hkey : tRep.doc s 0 false = R := by
      unfold tRep
      simp only [Rd.doc, h1, h2, h3, h4, h5, Bool.false_or, if_true, hzz2, hzz3, hzz4, hzz5]
      exact hR
    refine Ev_inv (fun k st => ∃ (acc : List Hit) (j : Nat) (z : Bool), j ≤ s.length ∧ (tHits k acc fun l => Rd.ret (⟨id, (0 : Nat), decide (f = 1), d, l⟩ : Rep)).doc s j z = R ∧ acc.length + k = min n 101 ∧ st = rcS s id d (decide (f = 1)) n acc j z acc.length) ?_ (i := min n 101) ⟨[], e5, z5, b5.2, hR, by simp, by simp only [rcS, hC, List.length_nil, ef]; rfl⟩
    rintro k st ⟨acc, j, y, hj0, h1, h2, rfl⟩
    cases k with
    | succ k =>
      simp only [tHits, Rd.doc] at h1
      refine Ev_mono (rc_step hs b5.1 (by omega) hj0 (by omega) (by omega)) ?_
      rintro x st ⟨rfl, rfl⟩
      exact .inl ⟨rfl, k, by omega, _, _, _, (rdC_le (rdC_le hj0).2).2, h1, by simp; omega, by simp⟩
    | zero =>
      simp only [tHits, Rd.doc] at h1
      rw [docG_of (hkey.trans h1.symm)]
      have hx : acc.length = n ∨ acc.length < n ∧ acc.length = 101 := by omega
      unfold rcS
      cases acc with
      | nil =>
        simp only [List.length_nil] at h2
        have hn0 : n = 0 := by omega
        subst hn0
        clear hx
        have gp := rputR_nil (id := id) (code := (0 : Nat)) (found := decide (f = 1)) (d := d)
        simp only [putRA, Int.natCast_zero] at gp ⊢
        simp only [hC]
        cases ho : okR ⟨id, 0, decide (f = 1), d, []⟩ with
        | false =>
          rw [ho] at gp
          rw [if_neg (by simp)]
          simp only [Bool.false_eq_true, if_false] at gp
          cases y <;> simp (disch := omega) only [go_sem, ↓reduceIte, Nat.reduceEqDiff, Nat.reduceAdd, reduceCtorEq, d1427_b0, repV, zR, hts_nil, gp]
        | true =>
          rw [ho] at gp
          simp only [if_true] at gp
          by_cases hq : encR ⟨id, 0, decide (f = 1), d, []⟩ = s
          · rw [hq] at gp
            cases y
            · rw [if_pos ⟨rfl, rfl, hq⟩]
              simp (disch := omega) only [go_sem, ↓reduceIte, Nat.reduceEqDiff, Nat.reduceAdd, reduceCtorEq, d1427_b0, repV, hts_nil, gp]
            · rw [if_neg (by simp)]
              simp (disch := omega) only [go_sem, ↓reduceIte, Nat.reduceEqDiff, Nat.reduceAdd, reduceCtorEq, d1427_b0, repV, zR, hts_nil, gp]
          · rw [if_neg (fun h => hq h.2.2)]
            have hb : (encR ⟨id, 0, decide (f = 1), d, []⟩ == s) = false := by simpa using hq
            cases y <;> simp (disch := omega) only [go_sem, ↓reduceIte, Nat.reduceEqDiff, Nat.reduceAdd, reduceCtorEq, d1427_b0, repV, zR, hts_nil, gp, hb]
      | cons h0 t =>
        simp only [hC]
        generalize h0 :: t = acc at *
        have gp := rputR_run (r := ⟨id, (0 : Nat), decide (f = 1), d, acc⟩) (by simp only; omega)
        simp only [putRA, repS, Int.natCast_zero] at gp ⊢
        cases ho : okR ⟨id, 0, decide (f = 1), d, acc⟩ with
        | false =>
          rw [ho] at gp
          rw [if_neg (by simp)]
          simp only [Bool.false_eq_true, if_false] at gp
          rcases hx with hx | hx <;> cases y <;> simp (disch := omega) only [go_sem, ↓reduceIte, Nat.reduceEqDiff, Nat.reduceAdd, reduceCtorEq, d1427_b0, repV, zR, hts_nil, gp]
        | true =>
          rw [ho] at gp
          simp only [if_true] at gp
          by_cases hq : encR ⟨id, 0, decide (f = 1), d, acc⟩ = s
          · rw [hq] at gp
            cases y
            · rw [if_pos ⟨rfl, rfl, hq⟩]
              rcases hx with hx | hx <;> simp (disch := omega) only [go_sem, ↓reduceIte, Nat.reduceEqDiff, Nat.reduceAdd, reduceCtorEq, d1427_b0, repV, gp]
            · rw [if_neg (by simp)]
              rcases hx with hx | hx <;> simp (disch := omega) only [go_sem, ↓reduceIte, Nat.reduceEqDiff, Nat.reduceAdd, reduceCtorEq, d1427_b0, repV, zR, hts_nil, gp]
          · rw [if_neg (fun h => hq h.2.2)]
            have hb : (encR ⟨id, 0, decide (f = 1), d, acc⟩ == s) = false := by simpa using hq
            rcases hx with hx | hx <;> cases y <;> simp (disch := omega) only [go_sem, ↓reduceIte, Nat.reduceEqDiff, Nat.reduceAdd, reduceCtorEq, d1427_b0, repV, zR, hts_nil, gp, hb]
  · have hkey : tRep.doc s 0 false = (⟨id, code, false, 0, []⟩, e2, z2) := by
      unfold tRep
      simp only [Rd.doc, h1, h2, Bool.false_or, if_neg hc, hzz2]
    rw [docG_of hkey]
    have gp := rputR_nil (id := id) (code := code) (found := false) (d := 0)
    simp only [putRA] at gp
    rcases Bool.eq_false_or_eq_true (okR ⟨id, code, false, 0, []⟩) with ho | ho
    · rw [ho, if_pos rfl] at gp
      by_cases hq : encR ⟨id, code, false, 0, []⟩ = s
      · rw [hq] at gp
        cases z2
        · rw [if_pos ⟨rfl, ho, hq⟩]
          simp (disch := omega) only [go_sem, ↓reduceIte, Nat.reduceEqDiff, Nat.reduceAdd, reduceCtorEq, Nat.reduceLeDiff, d1427, g1, g2, gp, repV, hts_nil]
        · rw [if_neg (fun h => by cases h.1)]
          simp (disch := omega) only [go_sem, ↓reduceIte, Nat.reduceEqDiff, Nat.reduceAdd, reduceCtorEq, Nat.reduceLeDiff, d1427, g1, g2, gp, repV, zR, hts_nil]
      · rw [if_neg (fun h => hq h.2.2)]
        have hb : (encR ⟨id, code, false, 0, []⟩ == s) = false := by simpa using hq
        cases z2 <;> simp (disch := omega) only [go_sem, ↓reduceIte, Nat.reduceEqDiff, Nat.reduceAdd, reduceCtorEq, Nat.reduceLeDiff, d1427, g1, g2, gp, repV, zR, hts_nil, hb]
    · rw [ho, if_neg (by simp)] at gp
      rw [if_neg (fun h => by rw [ho] at h; cases h.2.1)]
      cases z2 <;> simp (disch := omega) only [go_sem, ↓reduceIte, Nat.reduceEqDiff, Nat.reduceAdd, reduceCtorEq, Nat.reduceLeDiff, d1427, g1, g2, gp, repV, zR, hts_nil]
end Go.Proofs.Ytcfhocnbpplecaa
