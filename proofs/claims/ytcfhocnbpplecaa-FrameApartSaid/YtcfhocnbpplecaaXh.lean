/- frame.reply: a reply out of bytes. -/
import Derived.Test.YtcfhocnbpplecaaXg
import Derived.Test.YtcfhocnbpplecaaPd
namespace Go.Proofs.Ytcfhocnbpplecaa
set_option linter.unusedSimpArgs false
set_option linter.unusedVariables false
set_option maxHeartbeats 4000000
set_option maxRecDepth 100000
theorem nL_run {s : Txt} (hs : s.length ≤ 1000000) {m i n j : Nat} (h : rdL m s i = some (n, j)) : runP tab 1445 [.ref 0 0, .int .i64 (m : Int)] [.row false [.str s, .int .i64 (i : Int)]] = some (.int .i64 n, [.row false [.str s, .int .i64 (j : Int)]]) := by
  obtain ⟨h1, h2⟩ := rdL_sound h
  exact snum_run hs h1 (by omega)
theorem rdL_le {m : Nat} {s : Txt} {i n j : Nat} (h : rdL m s i = some (n, j)) : n ≤ m ∧ j ≤ s.length := by
  obtain ⟨h1, h2⟩ := rdL_sound h
  have := rdN_sound h1
  exact ⟨h2, by omega⟩
section
variable {P : Program}
theorem nL_dies (G : Good P fid tab) (N : NeedIs P) {s : Txt} (hs : s.length ≤ 1000000) {m i : Nat} (hi : i ≤ s.length) (h : rdL m s i = none) : DiesC P fid 1445 [.ref 0 0, .int .i64 (m : Int)] [.row false [.str s, .int .i64 (i : Int)]] :=
  snum_dies G N hs hi (fun n j hn => by have := rdL_none h n j hn; omega)
end
def hC : List Hit → AV
  | [] => .nils
  | h :: l => .vec 2 (hts (h :: l))
theorem hC_snoc (l : List Hit) (x : Hit) : hC (l ++ [x]) = .vec 2 (hts (l ++ [x])) := by cases l <;> rfl
def rhS (s : Txt) (a d : Int) (f : Bool) (n : Nat) (acc : List Hit) (j i : Nat) : St := ⟨[(0, .ref 0 0), (2, .ref 1 0), (3, .ref 2 0), (21, .int .i64 (n : Int)), (22, .int .i64 (i : Int))], [.row false [.str s, .int .i64 (j : Int)], .row false [.int .i64 0, .int .i64 0, .bool false, .int .i64 0, .nils], .row false [.int .i64 a, .int .i64 0, .bool f, .int .i64 d, hC acc]], 1, [(0, 3, [0, 2, 3, 21, 22], [(0, 0), (2, 1), (3, 2)])]⟩
theorem rh_step {s : Txt} (hs : s.length ≤ 1000000) {a d : Int} {f : Bool} {n : Nat} {acc : List Hit} (hn : n ≤ 100) (ha : acc.length ≤ 100) {j i v e w e2 : Nat} (hi : i < n) (h1 : rdL 200 s j = some (v, e)) (h2 : rdL 200 s e = some (w, e2)) : Ev tab d1434_b0 (rhS s a d f n acc j i) (fun x st => x = .normal ∧ st = rhS s a d f n (acc ++ [⟨v, w⟩]) e2 (i + 1)) := by
  have g1 := nL_run hs h1
  have g2 := nL_run hs h2
  have b1 := rdL_le h1
  have b2 := rdL_le h2
  simp only [Int.cast_ofNat_Int] at g1 g2
  have eo : hts [⟨v, w⟩] = [.int .i64 (v : Int), .int .i64 (w : Int)] := rfl
  unfold rhS
  rw [hC_snoc, ← hts_app, eo]
  cases acc with
  | nil =>
    simp only [hC, hts_nil, List.nil_append]
    simp (config := { maxSteps := 1000000 }) (disch := omega) only [go_sem, ↓reduceIte, Nat.reduceEqDiff, Nat.reduceAdd, Int.reduceToNat, reduceCtorEq, Nat.reduceLeDiff, Nat.reduceSub, Nat.reduceDiv, Nat.reduceMod, Nat.reduceMul, d1434_b0, g1, g2]
    rfl
  | cons z t =>
    simp only [hC]
    generalize z :: t = acc at *
    simp (config := { maxSteps := 1000000 }) (disch := omega) only [go_sem, ↓reduceIte, Nat.reduceEqDiff, Nat.reduceAdd, Int.reduceToNat, reduceCtorEq, Nat.reduceLeDiff, Nat.reduceSub, Nat.reduceDiv, Nat.reduceMod, Nat.reduceMul, d1434_b0, g1, g2]
    rfl
theorem reply_run {s : Txt} (hs : s.length ≤ 1000000) {x : Rep} {e : Nat} (h : tRep.run s 0 = some (x, e)) : runP tab 1434 [.ref 0 0] [.row false [.str s, .int .i64 0]] = some (.agg (repV x), [.row false [.str s, .int .i64 (e : Int)]]) := by
  refine runP_fn t1434 rfl ?_
  unfold tRep at h
  simp only [Rd.run] at h
  cases h1 : rdL 2147483647 s 0 with
  | none => rw [h1] at h; cases h
  | some p1 =>
  obtain ⟨id, e1⟩ := p1
  rw [h1] at h
  simp only at h
  cases h2 : rdL 1000 s e1 with
  | none => rw [h2] at h; cases h
  | some p2 =>
  obtain ⟨code, e2⟩ := p2
  rw [h2] at h
  simp only at h
  have g1 := nL_run hs h1
  have g2 := nL_run hs h2
  have b1 := rdL_le h1
  have b2 := rdL_le h2
  simp only [Int.cast_ofNat_Int] at g1 g2
  by_cases hc : code = 0
  · subst hc
    rw [if_pos rfl] at h
    simp only [Rd.run] at h
    cases h3 : rdL 1 s e2 with
    | none => rw [h3] at h; cases h
    | some p3 =>
    obtain ⟨f, e3⟩ := p3
    rw [h3] at h
    simp only at h
    cases h4 : rdL 400 s e3 with
    | none => rw [h4] at h; cases h
    | some p4 =>
    obtain ⟨d, e4⟩ := p4
    rw [h4] at h
    simp only at h
    cases h5 : rdL 100 s e4 with
    | none => rw [h5] at h; cases h
    | some p5 =>
    obtain ⟨n, e5⟩ := p5
    rw [h5] at h
    simp only at h
    have g3 := nL_run hs h3
    have g4 := nL_run hs h4
    have g5 := nL_run hs h5
    have b3 := rdL_le h3
    have b4 := rdL_le h4
    have b5 := rdL_le h5
    simp only [Int.cast_ofNat_Int] at g3 g4 g5
    have ef : decide ((f : Int) = 1) = decide (f = 1) := by rw [decide_eq_decide]; omega
    simp (config := { maxSteps := 1000000 }) (disch := omega) only [go_sem, ↓reduceIte, Nat.reduceEqDiff, Nat.reduceAdd, Int.reduceToNat, reduceCtorEq, Nat.reduceLeDiff, Nat.reduceSub, Nat.reduceDiv, Nat.reduceMod, Nat.reduceMul, d1434, g1, g2, g3, g4, g5]
    rw [show min n 101 = n by omega] at h
    refine Ev_inv (fun k st => ∃ (acc : List Hit) (j : Nat), (tHits k acc fun l => Rd.ret (⟨id, (0 : Nat), decide (f = 1), d, l⟩ : Rep)).run s j = some (x, e) ∧ acc.length + k = n ∧ st = rhS s id d (decide (f = 1)) n acc j acc.length) ?_ (i := n) ⟨[], e5, h, by simp, by simp only [rhS, hC, List.length_nil, ef]; rfl⟩
    rintro k st ⟨acc, j, h1, h2, rfl⟩
    cases k with
    | succ k =>
      simp only [tHits, Rd.run] at h1
      cases k1 : rdL 200 s j with
      | none => rw [k1] at h1; cases h1
      | some p =>
      obtain ⟨v, e6⟩ := p
      rw [k1] at h1
      simp only at h1
      cases k2 : rdL 200 s e6 with
      | none => rw [k2] at h1; cases h1
      | some p =>
      obtain ⟨w, e7⟩ := p
      rw [k2] at h1
      simp only at h1
      refine Ev_mono (rh_step hs b5.1 (by omega) (by omega) k1 k2) ?_
      rintro y st ⟨rfl, rfl⟩
      exact .inl ⟨rfl, k, by omega, _, _, h1, by simp; omega, by simp⟩
    | zero =>
      simp only [tHits, Rd.run, Option.some.injEq, Prod.mk.injEq] at h1
      obtain ⟨rfl, rfl⟩ := h1
      unfold rhS
      cases acc with
      | nil =>
        simp only [List.length_nil] at h2
        simp (config := { maxSteps := 1000000 }) (disch := omega) only [go_sem, ↓reduceIte, Nat.reduceEqDiff, Nat.reduceAdd, Int.reduceToNat, reduceCtorEq, Nat.reduceLeDiff, Nat.reduceSub, Nat.reduceDiv, Nat.reduceMod, Nat.reduceMul, d1434_b0, hC, repV, hts_nil]
      | cons z t =>
        simp only [hC]
        generalize z :: t = acc at *
        simp (config := { maxSteps := 1000000 }) (disch := omega) only [go_sem, ↓reduceIte, Nat.reduceEqDiff, Nat.reduceAdd, Int.reduceToNat, reduceCtorEq, Nat.reduceLeDiff, Nat.reduceSub, Nat.reduceDiv, Nat.reduceMod, Nat.reduceMul, d1434_b0, repV]
  · rw [if_neg hc] at h
    simp only [Rd.run, Option.some.injEq, Prod.mk.injEq] at h
    obtain ⟨rfl, rfl⟩ := h
    simp (config := { maxSteps := 1000000 }) (disch := omega) only [go_sem, ↓reduceIte, Nat.reduceEqDiff, Nat.reduceAdd, Int.reduceToNat, reduceCtorEq, Nat.reduceLeDiff, Nat.reduceSub, Nat.reduceDiv, Nat.reduceMod, Nat.reduceMul, d1434, g1, g2, repV, hts_nil]
end Go.Proofs.Ytcfhocnbpplecaa
