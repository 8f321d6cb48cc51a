import Derived.Test.YtcfhocnbpplecaaXf
import Derived.Test.YtcfhocnbpplecaaPd
import Derived.Test.YtcfhocnbpplecaaPw
namespace Go.Proofs.Ytcfhocnbpplecaa
set_option linter.unusedVariables false
set_option maxHeartbeats 4000000
set_option maxRecDepth 100000
theorem encI_snoc (l : List Int) (x : Int) : encI (l ++ [x]) = encI l ++ encN x.toNat := by simp [encI]
theorem encI_len {l : List Int} (h : ∀ x ∈ l, 0 ≤ x ∧ x ≤ 2147483647) : (encI l).length ≤ 5 * l.length := encL_len h
theorem laysI {l : List Int} (hl : l.length ≤ 1000000) (h : ∀ x ∈ l, 0 ≤ x ∧ x ≤ 2147483647) : runP tab 1421 [.sl 1 (ints l)] [] = some (.str (encI l), []) := lays_run hl h
theorem rnums_run {l : List Int} (hl : l.length ≤ 1000000) (h : ∀ x ∈ l, 0 ≤ x ∧ x ≤ 2147483647) : runP tab 1457 [.sl 1 (ints l)] [] = some (.str (encI l), []) := by
  refine runP_fn t1457 rfl ?_
  have L := ints_length l
  simp (disch := omega) only [go_sem, ↓reduceIte, Nat.reduceEqDiff, reduceCtorEq, d1457]
  refine Ev_loop0 (fun i => ⟨[(0, .sl 1 (ints l)), (3, .str (encI (l.take i))), (4, .int .i64 (i : Int))], [], 0, [(0, 0, [0, 3, 4], [])]⟩) l.length rfl (fun i hi => ?_) ?_
  · have e1 := ints_rdc0 hi
    obtain ⟨h0, h1⟩ := h (l.getD i 0) (by rw [List.getD_eq_getElem?_getD, List.getElem?_eq_getElem hi]; exact List.getElem_mem hi)
    have gn := rnumber_run h0 h1
    have k1 := encI_len (l := l.take i) (fun x hx => h x (List.mem_of_mem_take hx))
    rw [List.length_take] at k1
    have k2 := encN_len (n := (l.getD i 0).toNat) (by omega)
    rw [take_snoc 0 hi, encI_snoc]
    simp (disch := omega) only [go_sem, ↓reduceIte, Nat.reduceEqDiff, reduceCtorEq, d1457_b0, L, e1, gn]
  · rw [List.take_length]
    simp (disch := omega) only [go_sem, ↓reduceIte, Nat.reduceEqDiff, reduceCtorEq, d1457_b0, L]
theorem encH_snoc (l : List Hit) (x : Hit) : encH (l ++ [x]) = encH l ++ encI [x.v, x.d] := by simp [encH]
theorem encH_len {l : List Hit} (h : ∀ x ∈ l, okH x) : (encH l).length ≤ 10 * l.length := by
  induction l with
  | nil => simp [encH]
  | cons x l ih =>
    obtain ⟨h1, h2, h3, h4⟩ := h x (by simp)
    have h5 := encI_len (l := [x.v, x.d]) (by intro y hy; simp only [List.mem_cons, List.not_mem_nil, or_false] at hy; rcases hy with rfl | rfl <;> omega)
    have h2 := ih (fun y hy => h y (by simp [hy]))
    simp only [encH, List.flatMap_cons, List.length_append, List.length_cons, List.length_nil] at h2 h5 ⊢
    omega
theorem two_lay {a b : Int} (ha : 0 ≤ a ∧ a ≤ 2147483647) (hb : 0 ≤ b ∧ b ≤ 2147483647) : runP tab 1421 [.sl 1 [.int .i64 a, .int .i64 b]] [] = some (.str (encI [a, b]), []) ∧ runP tab 1457 [.sl 1 [.int .i64 a, .int .i64 b]] [] = some (.str (encI [a, b]), []) ∧ (encI [a, b]).length ≤ 10 := by
  have h : ∀ x ∈ [a, b], 0 ≤ x ∧ x ≤ 2147483647 := by intro y hy; simp only [List.mem_cons, List.not_mem_nil, or_false] at hy; rcases hy with rfl | rfl <;> omega
  exact ⟨laysI (l := [a, b]) (by simp) h, rnums_run (l := [a, b]) (by simp) h, encI_len h⟩
theorem three_lay {a b c : Int} (ha : 0 ≤ a ∧ a ≤ 2147483647) (hb : 0 ≤ b ∧ b ≤ 2147483647) (hc : 0 ≤ c ∧ c ≤ 2147483647) : runP tab 1421 [.sl 1 [.int .i64 a, .int .i64 b, .int .i64 c]] [] = some (.str (encI [a, b, c]), []) ∧ runP tab 1457 [.sl 1 [.int .i64 a, .int .i64 b, .int .i64 c]] [] = some (.str (encI [a, b, c]), []) ∧ (encI [a, b, c]).length ≤ 15 := by
  have h : ∀ x ∈ [a, b, c], 0 ≤ x ∧ x ≤ 2147483647 := by intro y hy; simp only [List.mem_cons, List.not_mem_nil, or_false] at hy; rcases hy with rfl | rfl | rfl <;> omega
  exact ⟨laysI (l := [a, b, c]) (by simp) h, rnums_run (l := [a, b, c]) (by simp) h, encI_len h⟩
def putRA (r : Rep) : List AV := if okR r = true then [.str (encR r), .int .i64 0] else [.str [], .int .i64 1]
def prS (l : List Hit) (p : Txt) (a c d : Int) (f : Bool) (i : Nat) : St := ⟨[(4, .str (p ++ encH (l.take i))), (38, .sl 2 (hts l)), (39, .int .i64 l.length), (40, .int .i64 (i : Int))], [.row false [.int .i64 a, .int .i64 c, .bool f, .int .i64 d, .sl 2 (hts l)]], 0, [(0, 1, [4, 38, 39, 40], [])]⟩
theorem pr_step {l : List Hit} {p : Txt} {a c d : Int} {f : Bool} (hp : p.length ≤ 100) (hl : l.length ≤ 100) (hh : ∀ x ∈ l, okH x) {i : Nat} (hi : i < l.length) : Ev tab d1410_b0 (prS l p a c d f i) (fun x st => x = .normal ∧ st = prS l p a c d f (i + 1)) := by
  have e := hts_get hi
  have hm : l.getD i default ∈ l := by rw [List.getD_eq_getElem?_getD, List.getElem?_eq_getElem hi]; exact List.getElem_mem hi
  obtain ⟨h1, h2, h3, h4⟩ := hh _ hm
  have k1 := encH_len (l := l.take i) (fun x hx => hh x (List.mem_of_mem_take hx))
  rw [List.length_take] at k1
  unfold prS
  rw [take_snoc default hi, encH_snoc]
  generalize l.getD i default = x at *
  obtain ⟨g, _, g3⟩ := two_lay (a := x.v) (b := x.d) (by omega) (by omega)
  simp (disch := omega) only [go_sem, ↓reduceIte, Nat.reduceEqDiff, Nat.reduceAdd, Nat.reduceLeDiff, d1410_b0, e, g, List.append_assoc]
theorem putR_run {r : Rep} (hl : r.hits.length ≤ 1000000) : runP tab 1410 [.agg (repS r)] [] = some (.tup (putRA r), []) := by
  refine runP_fn t1410 rfl ?_
  have gm := rmay_run hl
  unfold putRA
  cases ho : okR r with
  | false =>
    rw [ho] at gm
    simp only [repS] at gm ⊢
    simp (disch := omega) only [go_sem, ↓reduceIte, Nat.reduceEqDiff, Nat.reduceAdd, d1410, gm]
  | true =>
    rw [ho] at gm
    rw [if_pos rfl]
    obtain ⟨c0, c1, c2, c3, c4, c5, c6, c7⟩ := of_decide_eq_true ho
    obtain ⟨id, code, found, d, hits⟩ := r
    simp only at hl c0 c1 c2 c3 c4 c5 c6 c7
    simp only [repS] at gm ⊢
    obtain ⟨g1, _, k1⟩ := two_lay (a := id) (b := code) c0 (by omega)
    by_cases hc : code = 0
    · obtain ⟨g2, _, k2⟩ := three_lay (a := (fN found : Nat)) (b := d) (c := hits.length) (by unfold fN; split <;> omega) (by omega) (by omega)
      simp only [encR]
      rw [if_pos hc, ← List.append_assoc]
      cases found
      · rw [show ((fN false : Nat) : Int) = 0 from rfl] at g2 k2 ⊢
        simp (disch := omega) only [go_sem, ↓reduceIte, Nat.reduceEqDiff, Nat.reduceAdd, Nat.reduceLeDiff, d1410, gm, g1, g2]
        refine Ev_loop0 (prS hits (encI [id, code] ++ encI [0, d, hits.length]) id code d false) hits.length (by simp [prS, encH]) (fun i hi => pr_step (by rw [List.length_append]; omega) c3 c7 hi) ?_
        unfold prS
        rw [List.take_length]
        simp (disch := omega) only [go_sem, ↓reduceIte, Nat.reduceEqDiff, reduceCtorEq, d1410_b0]
      · rw [show ((fN true : Nat) : Int) = 1 from rfl] at g2 k2 ⊢
        simp (disch := omega) only [go_sem, ↓reduceIte, Nat.reduceEqDiff, Nat.reduceAdd, Nat.reduceLeDiff, d1410, gm, g1, g2]
        refine Ev_loop0 (prS hits (encI [id, code] ++ encI [1, d, hits.length]) id code d true) hits.length (by simp [prS, encH]) (fun i hi => pr_step (by rw [List.length_append]; omega) c3 c7 hi) ?_
        unfold prS
        rw [List.take_length]
        simp (disch := omega) only [go_sem, ↓reduceIte, Nat.reduceEqDiff, reduceCtorEq, d1410_b0]
    · simp only [encR]
      rw [if_neg hc, List.append_nil]
      simp (disch := omega) only [go_sem, ↓reduceIte, Nat.reduceEqDiff, Nat.reduceAdd, Nat.reduceLeDiff, d1410, gm, g1]
def rpS (l : List Hit) (p : Txt) (a c d : Int) (f : Bool) (i : Nat) : St := ⟨[(1, .ref 0 0), (4, .str (p ++ encH (l.take i))), (6, .int .i64 (i : Int))], [.row false [.int .i64 a, .int .i64 c, .bool f, .int .i64 d, .sl 2 (hts l)]], 0, [(0, 1, [1, 4, 6], [(1, 0)])]⟩
theorem rp_step {l : List Hit} {p : Txt} {a c d : Int} {f : Bool} (hp : p.length ≤ 100) (hl : l.length ≤ 100) (hh : ∀ x ∈ l, okH x) {i : Nat} (hi : i < l.length) : Ev tab d1438_b0 (rpS l p a c d f i) (fun x st => x = .normal ∧ st = rpS l p a c d f (i + 1)) := by
  have e := hts_get hi
  have hm : l.getD i default ∈ l := by rw [List.getD_eq_getElem?_getD, List.getElem?_eq_getElem hi]; exact List.getElem_mem hi
  obtain ⟨h1, h2, h3, h4⟩ := hh _ hm
  have k1 := encH_len (l := l.take i) (fun x hx => hh x (List.mem_of_mem_take hx))
  rw [List.length_take] at k1
  unfold rpS
  rw [take_snoc default hi, encH_snoc]
  generalize l.getD i default = x at *
  obtain ⟨_, g, g3⟩ := two_lay (a := x.v) (b := x.d) (by omega) (by omega)
  simp (disch := omega) only [go_sem, ↓reduceIte, Nat.reduceEqDiff, Nat.reduceAdd, Nat.reduceLeDiff, d1438_b0, e, g, List.append_assoc]
theorem rputR_run {r : Rep} (hl : r.hits.length ≤ 1000000) : runP tab 1438 [.agg (repS r)] [] = some (.tup (putRA r), []) := by
  refine runP_fn t1438 rfl ?_
  have gm := rref_run hl
  unfold putRA
  cases ho : okR r with
  | false =>
    rw [ho] at gm
    simp only [repS] at gm ⊢
    simp (disch := omega) only [go_sem, ↓reduceIte, Nat.reduceEqDiff, Nat.reduceAdd, d1438, gm]
  | true =>
    rw [ho] at gm
    rw [if_pos rfl]
    obtain ⟨c0, c1, c2, c3, c4, c5, c6, c7⟩ := of_decide_eq_true ho
    obtain ⟨id, code, found, d, hits⟩ := r
    simp only at hl c0 c1 c2 c3 c4 c5 c6 c7
    simp only [repS] at gm ⊢
    obtain ⟨_, g1, k1⟩ := two_lay (a := id) (b := code) c0 (by omega)
    by_cases hc : code = 0
    · obtain ⟨_, g2, k2⟩ := three_lay (a := (fN found : Nat)) (b := d) (c := hits.length) (by unfold fN; split <;> omega) (by omega) (by omega)
      simp only [encR]
      rw [if_pos hc, ← List.append_assoc]
      cases found
      · rw [show ((fN false : Nat) : Int) = 0 from rfl] at g2 k2 ⊢
        simp (disch := omega) only [go_sem, ↓reduceIte, Nat.reduceEqDiff, Nat.reduceAdd, Nat.reduceLeDiff, d1438, gm, g1, g2]
        refine Ev_loop0 (rpS hits (encI [id, code] ++ encI [0, d, hits.length]) id code d false) hits.length (by simp [rpS, encH]) (fun i hi => rp_step (by rw [List.length_append]; omega) c3 c7 hi) ?_
        unfold rpS
        rw [List.take_length]
        simp (disch := omega) only [go_sem, ↓reduceIte, Nat.reduceEqDiff, Nat.reduceAdd, reduceCtorEq, d1438_b0]
      · rw [show ((fN true : Nat) : Int) = 1 from rfl] at g2 k2 ⊢
        simp (disch := omega) only [go_sem, ↓reduceIte, Nat.reduceEqDiff, Nat.reduceAdd, Nat.reduceLeDiff, d1438, gm, g1, g2]
        refine Ev_loop0 (rpS hits (encI [id, code] ++ encI [1, d, hits.length]) id code d true) hits.length (by simp [rpS, encH]) (fun i hi => rp_step (by rw [List.length_append]; omega) c3 c7 hi) ?_
        unfold rpS
        rw [List.take_length]
        simp (disch := omega) only [go_sem, ↓reduceIte, Nat.reduceEqDiff, Nat.reduceAdd, reduceCtorEq, d1438_b0]
    · simp only [encR]
      rw [if_neg hc, List.append_nil]
      simp (disch := omega) only [go_sem, ↓reduceIte, Nat.reduceEqDiff, Nat.reduceAdd, Nat.reduceLeDiff, d1438, gm, g1]
end Go.Proofs.Ytcfhocnbpplecaa

namespace Go.Proofs.Ytcfhocnbpplecaa
set_option linter.unusedVariables false
set_option maxHeartbeats 4000000
set_option maxRecDepth 100000
theorem nL_run {s : Txt} (hs : s.length ≤ 1000000) {m i n j : Nat} (h : rdL m s i = some (n, j)) : runP tab 1445 [.ref 0 0, .int .i64 (m : Int)] [.row false [.str s, .int .i64 (i : Int)]] = some (.int .i64 n, [.row false [.str s, .int .i64 (j : Int)]]) := by
  obtain ⟨h1, h2⟩ := rdL_sound h
  exact snum_run hs h1 (by omega)
theorem rdL_le {m : Nat} {s : Txt} {i n j : Nat} (h : rdL m s i = some (n, j)) : n ≤ m ∧ j ≤ s.length := by
  obtain ⟨h1, h2⟩ := rdL_sound h
  have := rdN_sound h1
  exact ⟨h2, by omega⟩
section
variable {P : Program}
theorem nL_dies (G : Good P fid tab) (N : NeedIs P) {s : Txt} (hs : s.length ≤ 1000000) {m i : Nat} (hi : i ≤ s.length) (h : rdL m s i = none) : DiesC P fid 1445 [.ref 0 0, .int .i64 (m : Int)] [.row false [.str s, .int .i64 (i : Int)]] :=
  snum_dies G N hs hi (fun n j hn => by have := rdL_none h n j hn; omega)
end
def hC : List Hit → AV
  | [] => .nils
  | h :: l => .vec 2 (hts (h :: l))
theorem hC_snoc (l : List Hit) (x : Hit) : hC (l ++ [x]) = .vec 2 (hts (l ++ [x])) := by cases l <;> rfl
def rhS (s : Txt) (a d : Int) (f : Bool) (n : Nat) (acc : List Hit) (j i : Nat) : St := ⟨[(0, .ref 0 0), (2, .ref 1 0), (3, .ref 2 0), (21, .int .i64 (n : Int)), (22, .int .i64 (i : Int))], [.row false [.str s, .int .i64 (j : Int)], .row false [.int .i64 0, .int .i64 0, .bool false, .int .i64 0, .nils], .row false [.int .i64 a, .int .i64 0, .bool f, .int .i64 d, hC acc]], 1, [(0, 3, [0, 2, 3, 21, 22], [(0, 0), (2, 1), (3, 2)])]⟩
theorem rh_step {s : Txt} (hs : s.length ≤ 1000000) {a d : Int} {f : Bool} {n : Nat} {acc : List Hit} (hn : n ≤ 100) (ha : acc.length ≤ 100) {j i v e w e2 : Nat} (hi : i < n) (h1 : rdL 200 s j = some (v, e)) (h2 : rdL 200 s e = some (w, e2)) : Ev tab d1434_b0 (rhS s a d f n acc j i) (fun x st => x = .normal ∧ st = rhS s a d f n (acc ++ [⟨v, w⟩]) e2 (i + 1)) := by
  have g1 := nL_run hs h1
  have g2 := nL_run hs h2
  have b1 := rdL_le h1
  have b2 := rdL_le h2
  simp only [Int.cast_ofNat_Int] at g1 g2
  have eo : hts [⟨v, w⟩] = [.int .i64 (v : Int), .int .i64 (w : Int)] := rfl
  unfold rhS
  rw [hC_snoc, ← hts_app, eo]
  cases acc with
  | nil =>
    simp only [hC, hts_nil, List.nil_append]
    simp (disch := omega) only [go_sem, ↓reduceIte, Nat.reduceEqDiff, Nat.reduceAdd, reduceCtorEq, Nat.reduceLeDiff, Nat.reduceDiv, d1434_b0, g1, g2]
    rfl
  | cons z t =>
    simp only [hC]
    generalize z :: t = acc at *
    simp (disch := omega) only [go_sem, ↓reduceIte, Nat.reduceEqDiff, Nat.reduceAdd, reduceCtorEq, Nat.reduceLeDiff, Nat.reduceDiv, d1434_b0, g1, g2]
    rfl
theorem reply_run {s : Txt} (hs : s.length ≤ 1000000) {x : Rep} {e : Nat} (h : tRep.run s 0 = some (x, e)) : runP tab 1434 [.ref 0 0] [.row false [.str s, .int .i64 0]] = some (.agg (repV x), [.row false [.str s, .int .i64 (e : Int)]]) := by
  refine runP_fn t1434 rfl ?_
  unfold tRep at h
  simp only [Rd.run] at h
  cases h1 : rdL 2147483647 s 0 with
  | none => rw [h1] at h; cases h
  | some p1 =>
  obtain ⟨id, e1⟩ := p1
  rw [h1] at h
  simp only at h
  cases h2 : rdL 1000 s e1 with
  | none => rw [h2] at h; cases h
  | some p2 =>
  obtain ⟨code, e2⟩ := p2
  rw [h2] at h
  simp only at h
  have g1 := nL_run hs h1
  have g2 := nL_run hs h2
  have b1 := rdL_le h1
  have b2 := rdL_le h2
  simp only [Int.cast_ofNat_Int] at g1 g2
  by_cases hc : code = 0
  · subst hc
    rw [if_pos rfl] at h
    simp only [Rd.run] at h
    cases h3 : rdL 1 s e2 with
    | none => rw [h3] at h; cases h
    | some p3 =>
    obtain ⟨f, e3⟩ := p3
    rw [h3] at h
    simp only at h
    cases h4 : rdL 400 s e3 with
    | none => rw [h4] at h; cases h
    | some p4 =>
    obtain ⟨d, e4⟩ := p4
    rw [h4] at h
    simp only at h
    cases h5 : rdL 100 s e4 with
    | none => rw [h5] at h; cases h
    | some p5 =>
    obtain ⟨n, e5⟩ := p5
    rw [h5] at h
    simp only at h
    have g3 := nL_run hs h3
    have g4 := nL_run hs h4
    have g5 := nL_run hs h5
    have b3 := rdL_le h3
    have b4 := rdL_le h4
    have b5 := rdL_le h5
    simp only [Int.cast_ofNat_Int] at g3 g4 g5
    have ef : decide ((f : Int) = 1) = decide (f = 1) := by rw [decide_eq_decide]; omega
    simp (disch := omega) only [go_sem, ↓reduceIte, Nat.reduceEqDiff, Nat.reduceAdd, reduceCtorEq, Nat.reduceLeDiff, d1434, g1, g2, g3, g4, g5]
    rw [show min n 101 = n by omega] at h
    refine Ev_inv (fun k st => ∃ (acc : List Hit) (j : Nat), (tHits k acc fun l => Rd.ret (⟨id, (0 : Nat), decide (f = 1), d, l⟩ : Rep)).run s j = some (x, e) ∧ acc.length + k = n ∧ st = rhS s id d (decide (f = 1)) n acc j acc.length) ?_ (i := n) ⟨[], e5, h, by simp, by simp only [rhS, hC, List.length_nil, ef]; rfl⟩
    rintro k st ⟨acc, j, h1, h2, rfl⟩
    cases k with
    | succ k =>
      simp only [tHits, Rd.run] at h1
      cases k1 : rdL 200 s j with
      | none => rw [k1] at h1; cases h1
      | some p =>
      obtain ⟨v, e6⟩ := p
      rw [k1] at h1
      simp only at h1
      cases k2 : rdL 200 s e6 with
      | none => rw [k2] at h1; cases h1
      | some p =>
      obtain ⟨w, e7⟩ := p
      rw [k2] at h1
      simp only at h1
      refine Ev_mono (rh_step hs b5.1 (by omega) (by omega) k1 k2) ?_
      rintro y st ⟨rfl, rfl⟩
      exact .inl ⟨rfl, k, by omega, _, _, h1, by simp; omega, by simp⟩
    | zero =>
      simp only [tHits, Rd.run, Option.some.injEq, Prod.mk.injEq] at h1
      obtain ⟨rfl, rfl⟩ := h1
      unfold rhS
      cases acc with
      | nil =>
        simp only [List.length_nil] at h2
        simp (disch := omega) only [go_sem, ↓reduceIte, Nat.reduceEqDiff, Nat.reduceAdd, reduceCtorEq, Nat.reduceLeDiff, d1434_b0, hC, repV, hts_nil]
      | cons z t =>
        simp only [hC]
        generalize z :: t = acc at *
        simp (disch := omega) only [go_sem, ↓reduceIte, Nat.reduceEqDiff, Nat.reduceAdd, reduceCtorEq, Nat.reduceLeDiff, d1434_b0, repV]
  · rw [if_neg hc] at h
    simp only [Rd.run, Option.some.injEq, Prod.mk.injEq] at h
    obtain ⟨rfl, rfl⟩ := h
    simp (disch := omega) only [go_sem, ↓reduceIte, Nat.reduceEqDiff, Nat.reduceAdd, reduceCtorEq, Nat.reduceLeDiff, d1434, g1, g2, repV, hts_nil]
end Go.Proofs.Ytcfhocnbpplecaa

namespace Go.Proofs.Ytcfhocnbpplecaa
set_option linter.unusedVariables false
set_option maxHeartbeats 4000000
set_option maxRecDepth 100000
section
variable {P : Program}
theorem rh_dies (G : Good P fid tab) (N : NeedIs P) {s : Txt} (hs : s.length ≤ 1000000) {a d : Int} {f : Bool} {n : Nat} {acc : List Hit} (hn : n ≤ 100) (ha : acc.length ≤ 100) {j i : Nat} (hi : i < n) (hj : j ≤ s.length) (h : rdL 200 s j = none ∨ ∃ v e, rdL 200 s j = some (v, e) ∧ rdL 200 s e = none) : DiesS P fid d1434_b0 (rhS s a d f n acc j i) := by
  unfold d1434_b0 rhS
  refine D_after (D_seq2 G ?_)
  simp (disch := omega) only [go_sem, ↓reduceIte, Nat.reduceEqDiff, reduceCtorEq]
  refine D_seq2 G ?_
  simp (disch := omega) only [go_sem, ↓reduceIte]
  refine D_seq1 (D_block ?_)
  have fst : rdL 200 s j = none → DiesC P fid 1445 [.ref 0 0, .int .i64 200] [.row false [.str s, .int .i64 (j : Int)]] := fun h => nL_dies G N hs hj h
  rcases h with h | ⟨v, e, h1, h2⟩
  · have g := fst h
    cases acc with
    | nil =>
      refine D_ghost (st1 := ⟨_, _, _, _⟩) rfl ?_
      refine D_opsC G 4 (.int .i64 0) rfl ?_
      simp only [hC]
      simp (disch := omega) only [go_sem, ↓reduceIte, Nat.reduceEqDiff, Nat.reduceAdd, reduceCtorEq, List.take_succ_cons, List.take_zero, List.drop_succ_cons, List.drop_zero]
      refine ⟨⟨1445, _, _, _, rfl, rfl, rfl, rfl, g⟩, DrF_run G 1 ?_⟩
      simp (disch := omega) only [go_sem, ↓reduceIte, reduceCtorEq, St.put, List.take_succ_cons, List.take_zero, List.drop_succ_cons, List.drop_zero]
      refine DrF_die (.int .i64 0) ⟨1445, _, _, _, rfl, rfl, rfl, rfl, g⟩ (DrF_run G 6 ?_)
      simp (disch := omega) only [go_sem, ↓reduceIte, Nat.reduceEqDiff, Nat.reduceAdd, reduceCtorEq, Nat.reduceLeDiff, Nat.reduceDiv, St.put, List.take_succ_cons, List.take_zero, List.drop_succ_cons, List.drop_zero]
      exact DrF_end rfl
    | cons z t =>
      refine D_ghost (st1 := ⟨_, _, _, _⟩) rfl ?_
      refine D_opsC G 4 (.int .i64 0) rfl ?_
      simp only [hC]
      generalize z :: t = acc at *
      simp (disch := omega) only [go_sem, ↓reduceIte, Nat.reduceEqDiff, Nat.reduceAdd, reduceCtorEq, List.take_succ_cons, List.take_zero, List.drop_succ_cons, List.drop_zero]
      refine ⟨⟨1445, _, _, _, rfl, rfl, rfl, rfl, g⟩, DrF_run G 1 ?_⟩
      simp (disch := omega) only [go_sem, ↓reduceIte, reduceCtorEq, St.put, List.take_succ_cons, List.take_zero, List.drop_succ_cons, List.drop_zero]
      refine DrF_die (.int .i64 0) ⟨1445, _, _, _, rfl, rfl, rfl, rfl, g⟩ (DrF_run G 6 ?_)
      simp (disch := omega) only [go_sem, ↓reduceIte, Nat.reduceEqDiff, Nat.reduceAdd, reduceCtorEq, Nat.reduceLeDiff, Nat.reduceDiv, St.put, List.take_succ_cons, List.take_zero, List.drop_succ_cons, List.drop_zero]
      exact DrF_end rfl
  · have g1 := nL_run hs h1
    have b1 := rdL_le h1
    have g : DiesC P fid 1445 [.ref 0 0, .int .i64 200] [.row false [.str s, .int .i64 (e : Int)]] := nL_dies G N hs b1.2 h2
    simp only [Int.cast_ofNat_Int] at g1
    cases acc with
    | nil =>
      refine D_ghost (st1 := ⟨_, _, _, _⟩) rfl ?_
      refine D_opsC G 6 (.int .i64 0) rfl ?_
      simp only [hC]
      simp (disch := omega) only [go_sem, ↓reduceIte, Nat.reduceEqDiff, Nat.reduceAdd, reduceCtorEq, g1, List.take_succ_cons, List.take_zero, List.drop_succ_cons, List.drop_zero]
      refine ⟨⟨1445, _, _, _, rfl, rfl, rfl, rfl, g⟩, DrF_run G 6 ?_⟩
      simp (disch := omega) only [go_sem, ↓reduceIte, Nat.reduceEqDiff, Nat.reduceAdd, reduceCtorEq, Nat.reduceLeDiff, Nat.reduceDiv, St.put, List.take_succ_cons, List.take_zero, List.drop_succ_cons, List.drop_zero]
      exact DrF_end rfl
    | cons z t =>
      refine D_ghost (st1 := ⟨_, _, _, _⟩) rfl ?_
      refine D_opsC G 6 (.int .i64 0) rfl ?_
      simp only [hC]
      generalize z :: t = acc at *
      simp (disch := omega) only [go_sem, ↓reduceIte, Nat.reduceEqDiff, Nat.reduceAdd, reduceCtorEq, g1, List.take_succ_cons, List.take_zero, List.drop_succ_cons, List.drop_zero]
      refine ⟨⟨1445, _, _, _, rfl, rfl, rfl, rfl, g⟩, DrF_run G 6 ?_⟩
      simp (disch := omega) only [go_sem, ↓reduceIte, Nat.reduceEqDiff, Nat.reduceAdd, reduceCtorEq, Nat.reduceLeDiff, Nat.reduceDiv, St.put, List.take_succ_cons, List.take_zero, List.drop_succ_cons, List.drop_zero]
      exact DrF_end rfl
theorem reply_dies (G : Good P fid tab) (N : NeedIs P) {s : Txt} (hs : s.length ≤ 1000000) (h : tRep.run s 0 = none) : DiesC P fid 1434 [.ref 0 0] [.row false [.str s, .int .i64 0]] := by
  refine D_fn G t1434 ?_
  simp only [d1434, bindParams]
  refine D_seq2 G ?_
  simp (disch := omega) only [go_sem]
  unfold tRep at h
  simp only [Rd.run] at h
  cases h1 : rdL 2147483647 s 0 with
  | none =>
    have g : DiesC P fid 1445 [.ref 0 0, .int .i64 2147483647] [.row false [.str s, .int .i64 0]] := nL_dies G N hs (Nat.zero_le _) h1
    refine D_seq1 (D_ops (DO_take G 1 ?_))
    simp (disch := omega) only [go_sem, ↓reduceIte, reduceCtorEq, List.take_succ_cons, List.take_zero, List.drop_succ_cons, List.drop_zero]
    exact DO_call rfl rfl rfl g trivial
  | some p1 =>
  obtain ⟨id, e1⟩ := p1
  rw [h1] at h
  simp only at h
  have g1 := nL_run hs h1
  have b1 := rdL_le h1
  rw [show ((0 : Nat) : Int) = 0 from rfl] at g1
  cases h2 : rdL 1000 s e1 with
  | none =>
    have g : DiesC P fid 1445 [.ref 0 0, .int .i64 1000] [.row false [.str s, .int .i64 (e1 : Int)]] := nL_dies G N hs b1.2 h2
    simp only [Int.cast_ofNat_Int] at g1
    refine D_seq1 (D_ops (DO_take G 3 ?_))
    simp (disch := omega) only [go_sem, ↓reduceIte, reduceCtorEq, g1, List.take_succ_cons, List.take_zero, List.drop_succ_cons, List.drop_zero]
    exact DO_call rfl rfl rfl g trivial
  | some p2 =>
  obtain ⟨code, e2⟩ := p2
  rw [h2] at h
  simp only at h
  have g2 := nL_run hs h2
  have b2 := rdL_le h2
  simp only [Int.cast_ofNat_Int] at g1 g2
  by_cases hc : code = 0
  case neg => rw [if_neg hc] at h; simp [Rd.run] at h
  subst hc
  rw [if_pos rfl] at h
  simp only [Rd.run] at h
  refine D_seq2 G ?_
  simp (disch := omega) only [go_sem, ↓reduceIte, Nat.reduceEqDiff, Nat.reduceAdd, reduceCtorEq, Nat.reduceLeDiff, g1, g2]
  refine D_ghost (st1 := ⟨_, _, _, _⟩) rfl (D_seq2 G ?_)
  simp (disch := omega) only [go_sem, ↓reduceIte, Nat.reduceEqDiff, reduceCtorEq]
  cases h3 : rdL 1 s e2 with
  | none =>
    have g : DiesC P fid 1445 [.ref 0 0, .int .i64 1] [.row false [.str s, .int .i64 (e2 : Int)]] := nL_dies G N hs b2.2 h3
    refine D_seq1 (D_ops (DO_take G 1 ?_))
    simp (disch := omega) only [go_sem, ↓reduceIte, reduceCtorEq, List.take_succ_cons, List.take_zero, List.drop_succ_cons, List.drop_zero]
    exact DO_call rfl rfl rfl g trivial
  | some p3 =>
  obtain ⟨f, e3⟩ := p3
  rw [h3] at h
  simp only at h
  have g3 := nL_run hs h3
  have b3 := rdL_le h3
  simp only [Int.cast_ofNat_Int] at g3
  cases h4 : rdL 400 s e3 with
  | none =>
    have g : DiesC P fid 1445 [.ref 0 0, .int .i64 400] [.row false [.str s, .int .i64 (e3 : Int)]] := nL_dies G N hs b3.2 h4
    refine D_seq1 (D_ops (DO_take G 4 ?_))
    simp (disch := omega) only [go_sem, ↓reduceIte, reduceCtorEq, g3, List.take_succ_cons, List.take_zero, List.drop_succ_cons, List.drop_zero]
    exact DO_call rfl rfl rfl g trivial
  | some p4 =>
  obtain ⟨d, e4⟩ := p4
  rw [h4] at h
  simp only at h
  have g4 := nL_run hs h4
  have b4 := rdL_le h4
  simp only [Int.cast_ofNat_Int] at g4
  refine D_seq2 G ?_
  simp (disch := omega) only [go_sem, ↓reduceIte, Nat.reduceEqDiff, Nat.reduceAdd, reduceCtorEq, Nat.reduceLeDiff, g3, g4]
  refine D_ghost (st1 := ⟨_, _, _, _⟩) rfl (D_seq1 ?_)
  cases h5 : rdL 100 s e4 with
  | none =>
    have g : DiesC P fid 1445 [.ref 0 0, .int .i64 100] [.row false [.str s, .int .i64 (e4 : Int)]] := nL_dies G N hs b4.2 h5
    refine D_seq1 (D_ops (DO_take G 1 ?_))
    simp (disch := omega) only [go_sem, ↓reduceIte, Nat.reduceEqDiff, reduceCtorEq, List.take_succ_cons, List.take_zero, List.drop_succ_cons, List.drop_zero]
    exact DO_call rfl rfl rfl g trivial
  | some p5 =>
  obtain ⟨n, e5⟩ := p5
  rw [h5] at h
  simp only at h
  have g5 := nL_run hs h5
  have b5 := rdL_le h5
  simp only [Int.cast_ofNat_Int] at g5
  have ef : decide ((f : Int) = 1) = decide (f = 1) := by rw [decide_eq_decide]; omega
  rw [show min n 101 = n by omega] at h
  refine D_seq2 G ?_
  simp (disch := omega) only [go_sem, ↓reduceIte, Nat.reduceEqDiff, reduceCtorEq, g5]
  refine D_block (D_ghost (st1 := rhS s id d (decide (f = 1)) n [] e5 0) (by rw [← ef]; rfl) (D_loop G (fun k st => ∃ (acc : List Hit) (j : Nat), j ≤ s.length ∧ (tHits k acc fun l => Rd.ret (⟨id, (0 : Nat), decide (f = 1), d, l⟩ : Rep)).run s j = none ∧ acc.length + k = n ∧ st = rhS s id d (decide (f = 1)) n acc j acc.length) ?_ (n := n) ⟨[], e5, b5.2, h, by simp, by simp⟩))
  rintro k st ⟨acc, j, h0, h1, h2, rfl⟩
  cases k with
  | zero => simp [tHits, Rd.run] at h1
  | succ k =>
    simp only [tHits, Rd.run] at h1
    cases k1 : rdL 200 s j with
    | none => exact .inl (rh_dies G N hs b5.1 (by omega) (by omega) h0 (.inl k1))
    | some p =>
    obtain ⟨v, e6⟩ := p
    rw [k1] at h1
    simp only at h1
    cases k2 : rdL 200 s e6 with
    | none => exact .inl (rh_dies G N hs b5.1 (by omega) (by omega) h0 (.inr ⟨v, e6, k1, k2⟩))
    | some p =>
    obtain ⟨w, e7⟩ := p
    rw [k2] at h1
    simp only at h1
    refine .inr (Ev_mono (rh_step hs b5.1 (by omega) (by omega) k1 k2) ?_)
    rintro y st ⟨rfl, rfl⟩
    exact ⟨rfl, k, by omega, _, _, (rdL_le k2).2, h1, by simp; omega, by simp⟩
end
end Go.Proofs.Ytcfhocnbpplecaa

namespace Go.Proofs.Ytcfhocnbpplecaa
set_option linter.unusedVariables false
set_option maxHeartbeats 4000000
set_option maxRecDepth 100000
def wA0 : List SOp := [⟨some 4, .alloc [.int .i64 0, .int .i64 0, .bool false, .int .i64 0, .nils], none⟩, ⟨some 5, .alloc [.bool false], none⟩]
def wR2 : List SOp := [⟨some 8, .move (.tmp 0), none⟩, ⟨some 9, .build [.str [], .int .i64 0] [(0, (1, .tmp 8))], none⟩, ⟨some 10, .box 2 (.tmp 9), none⟩, ⟨some 6, .move (.tmp 10), none⟩]
def wR3 : List SOp := [⟨some 11, .move (.tmp 1), none⟩, ⟨some 12, .move (.tmp 6), none⟩, ⟨some 13, .callf .mem (.tmp 11) [.tmp 12], none⟩, ⟨none, .store false 5 (.tmp 4) (.tmp 13), none⟩]
def wR4 : List SOp := [⟨some 14, .move (.tmp 6), none⟩, ⟨some 15, .nilCheck (.tmp 14), none⟩, ⟨some 16, .fieldAddr 1 (.tmp 15), none⟩, ⟨some 17, .load false none (.tmp 16), none⟩, ⟨some 18, .move (.tmp 0), none⟩, ⟨some 19, .len true (.tmp 18), none⟩, ⟨some 20, .bin 0 .eql (.tmp 17) (.tmp 19), none⟩, ⟨some 21, .call .mem 1444 [.tmp 20], none⟩]
def wR5 : List SOp := [⟨some 22, .load true (some 5) (.tmp 4), none⟩, ⟨none, .store false 5 (.tmp 4) (.tmp 22), none⟩, ⟨none, .store false 1 (.tmp 5) (.val (.bool true)), none⟩]
def wB1 : List SOp := [⟨some 2, .alloc [.int .i64 0, .int .i64 0, .bool false, .int .i64 0, .nils], none⟩]
def wB2 : List SOp := [⟨some 5, .load true (some 5) (.tmp 2), none⟩, ⟨none, .store false 5 (.tmp 0) (.tmp 5), none⟩, ⟨none, .store false 1 (.tmp 1) (.val (.bool false)), none⟩]
def wRs : List RS := [⟨.cell 4 (some 5), [(4, 2, false)]⟩, ⟨.cell 5 none, []⟩]
def alW {α : Type} (t : Rd α) (s : Txt) : Option α := match t.run s 0 with
  | some (x, e) => if e = s.length then some x else none
  | none => none
def zR : Rep := ⟨0, 0, false, 0, []⟩
def wholeR (s : Txt) : List AV := match alW tRep s with
  | some x => [.agg (repV x), .bool true]
  | none => [.agg (repV zR), .bool false]
section
variable {P : Program}
theorem whole_reply (G : Good P fid tab) (N : NeedIs P) {f : FuncId} (hC : Catch P fid f 23 6 wA0 wR2 wR3 wR4 wR5 wB1 wB2 wRs) {s : Txt} (hs : s.length ≤ 1000000) : FnThere P f ∧ CallOk P fid f [.str s, .clo 1434 [] []] [] (.tup (wholeR s), []) := by
  refine whole_ok G hC (by omega) (by omega) ?_
  simp only [wA0, wR2, wR3, wR4, wR5, wB1, wB2, wRs, bindParams]
  simp (disch := omega) only [go_sem, ↓reduceIte, Nat.reduceEqDiff, Nat.reduceAdd, reduceCtorEq, Nat.reduceLeDiff]
  cases hp : tRep.run s 0 with
  | none =>
    have g := reply_dies G N hs hp
    refine .inl (DO_take G 2 ?_)
    simp (disch := omega) only [go_sem, ↓reduceIte, Nat.reduceEqDiff, reduceCtorEq, List.take_succ_cons, List.take_zero, List.drop_succ_cons, List.drop_zero]
    refine DO_call rfl rfl rfl g ?_
    simp only [wholeR, alW, hp, recQ]
    simp (disch := omega) only [go_sem, ↓reduceIte, Nat.reduceEqDiff, Nat.reduceAdd, reduceCtorEq, putHp, idsL, AV.ids, dedup, List.replicate_succ, List.replicate_zero, List.length_cons, List.length_nil]
    exact ⟨_, rfl, rfl⟩
  | some r =>
    obtain ⟨x, e⟩ := r
    have g := reply_run hs hp
    simp only [repV] at g
    refine .inr ?_
    by_cases he : e = s.length
    · subst he
      simp (disch := omega) only [go_sem, ↓reduceIte, Nat.reduceEqDiff, Nat.reduceAdd, reduceCtorEq, g]
      refine .inr ?_
      simp (disch := omega) only [go_sem, ↓reduceIte, Nat.reduceEqDiff, Nat.reduceAdd, need_run, wholeR, alW, hp, endQ]
      refine ⟨_, rfl, _, rfl, ?_⟩
      simp (disch := omega) only [go_sem, ↓reduceIte, Nat.reduceEqDiff, Nat.reduceAdd, repV]
    · have hn := needs G N []
      simp (disch := omega) only [go_sem, ↓reduceIte, Nat.reduceEqDiff, Nat.reduceAdd, reduceCtorEq, g]
      refine .inl (DO_take G 7 ?_)
      simp (disch := omega) only [go_sem, ↓reduceIte, Nat.reduceEqDiff, reduceCtorEq, List.take_succ_cons, List.take_zero, List.drop_succ_cons, List.drop_zero]
      refine DO_call rfl rfl rfl hn ?_
      simp only [wholeR, alW, hp, if_neg he, recQ]
      simp (disch := omega) only [go_sem, ↓reduceIte, Nat.reduceEqDiff, Nat.reduceAdd, reduceCtorEq, putHp, idsL, AV.ids, dedup, List.replicate_zero, List.length_cons, List.length_nil]
      exact ⟨_, rfl, rfl⟩
end
end Go.Proofs.Ytcfhocnbpplecaa
