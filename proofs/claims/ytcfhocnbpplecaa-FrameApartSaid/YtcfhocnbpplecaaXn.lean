/- Texts are laid and read: the program, the document. -/
import Derived.Test.YtcfhocnbpplecaaXl
namespace Go.Proofs.Ytcfhocnbpplecaa
set_option linter.unusedSimpArgs false
set_option linter.unusedVariables false
set_option maxHeartbeats 4000000
set_option maxRecDepth 100000
theorem encT_len {t : Txt} (h : t.length ≤ 4000) : (encT t).length ≤ 4005 := by
  have := encN_len (n := t.length) (by omega)
  simp only [encT, List.length_append]; omega
theorem wtext_run {t : Txt} (h : t.length ≤ 4000) : runP tab 1647 [.str t] [] = some (.tup [.str (encT t), .int .i64 0], []) := by
  refine runP_fn t1647 rfl ?_
  have gl := lay_run (n := t.length) (by omega)
  have h5 := encN_len (n := t.length) (by omega)
  simp (config := { maxSteps := 1000000 }) (disch := omega) only [go_sem, ↓reduceIte, Nat.reduceEqDiff, Nat.reduceAdd, Int.reduceToNat, reduceCtorEq, Nat.reduceLeDiff, Nat.reduceSub, Nat.reduceDiv, Nat.reduceMod, Nat.reduceMul, d1647, gl, u8c_len, encT]
theorem layt_run {t : Txt} (h : t.length ≤ 4000) : runP tab 1639 [.str t] [] = some (.str (encT t), []) := by
  refine runP_fn t1639 rfl ?_
  have g := wtext_run h
  simp (config := { maxSteps := 1000000 }) (disch := omega) only [go_sem, ↓reduceIte, Nat.reduceEqDiff, Nat.reduceAdd, Int.reduceToNat, reduceCtorEq, Nat.reduceLeDiff, Nat.reduceSub, Nat.reduceDiv, Nat.reduceMod, Nat.reduceMul, d1639, g]
theorem rtext_run {t : Txt} (h : t.length ≤ 4000) : runP tab 1641 [.str t] [] = some (.tup [.str (encT t), .int .i64 0], []) := by
  refine runP_fn t1641 rfl ?_
  have gl := rnumber_run (n := t.length) (by omega) (by omega)
  have h5 := encN_len (n := t.length) (by omega)
  rw [Int.toNat_natCast] at gl
  simp (config := { maxSteps := 1000000 }) (disch := omega) only [go_sem, ↓reduceIte, Nat.reduceEqDiff, Nat.reduceAdd, Int.reduceToNat, reduceCtorEq, Nat.reduceLeDiff, Nat.reduceSub, Nat.reduceDiv, Nat.reduceMod, Nat.reduceMul, d1641, gl, encT]
theorem num_rd {s : Txt} (hs : s.length ≤ 1000000) {i : Nat} (hi : i ≤ s.length) : (∃ n j, rdN s i = some (n, j) ∧ runP tab 1468 [.ref 0 0] [.row false [.str s, .int .i64 (i : Int)]] = some (.tup [.int .i64 (n : Int), .bool true], [.row false [.str s, .int .i64 (j : Int)]])) ∨
    (rdN s i = none ∧ ∃ n j : Nat, runP tab 1468 [.ref 0 0] [.row false [.str s, .int .i64 (i : Int)]] = some (.tup [.int .i64 (n : Int), .bool false], [.row false [.str s, .int .i64 (j : Int)]])) := by
  rcases rd_cases s hi with ⟨n, h1, h2, h3, h4, h5⟩ | ⟨h, h5⟩
  · by_cases c : vN (s.drop i) (n + 1) ≤ 2147483647 ∧ (0 < ((s.drop i).getD n 0).toNat ∨ n = 0)
    · have g := num_at hs h1 h2 h3 h4 (ok := true) (by simp only [true_iff]; exact c)
      rw [h5, if_pos c]
      exact .inl ⟨_, _, rfl, g⟩
    · have g := num_at hs h1 h2 h3 h4 (ok := false) ⟨fun h => by (cases h), fun h => absurd h c⟩
      rw [h5, if_neg c]
      exact .inr ⟨rfl, _, _, g⟩
  · obtain ⟨j, g⟩ := num_no hs hi h
    exact .inr ⟨h5, 0, j, g⟩
def rtA : Option (Txt × Nat) → List AV
  | some (t, j) => [.str t, .int .i64 j, .bool true]
  | none => [.str [], .int .i64 0, .bool false]
theorem text_run {s : Txt} (hs : s.length ≤ 1000000) {i : Nat} (hi : i ≤ s.length) : (∃ t e, rdT s i = some (t, e) ∧ runP tab 1657 [.ref 0 0] [.row false [.str s, .int .i64 (i : Int)]] = some (.tup [.str t, .bool true], [.row false [.str s, .int .i64 (e : Int)]])) ∨
    (rdT s i = none ∧ ∃ j : Nat, runP tab 1657 [.ref 0 0] [.row false [.str s, .int .i64 (i : Int)]] = some (.tup [.str [], .bool false], [.row false [.str s, .int .i64 (j : Int)]])) := by
  unfold rdT
  rcases num_rd hs hi with ⟨n, j, h, g⟩ | ⟨h, n, j, g⟩
  · rw [h]
    simp only
    have hb := rdN_sound h
    by_cases c1 : n ≤ 4000
    · by_cases c2 : n ≤ s.length - j
      · rw [if_pos ⟨c1, c2⟩]
        refine .inl ⟨_, _, rfl, runP_fn t1657 rfl ?_⟩
        have hsl : ((j : Int) + (n : Int)).toNat - j = n := by omega
        simp (config := { maxSteps := 1000000 }) (disch := omega) only [go_sem, ↓reduceIte, Nat.reduceEqDiff, Nat.reduceAdd, Int.reduceToNat, reduceCtorEq, Nat.reduceLeDiff, Nat.reduceSub, Nat.reduceDiv, Nat.reduceMod, Nat.reduceMul, d1657, g, hsl]
      · rw [if_neg (by omega)]
        refine .inr ⟨rfl, j, runP_fn t1657 rfl ?_⟩
        simp (config := { maxSteps := 1000000 }) (disch := omega) only [go_sem, ↓reduceIte, Nat.reduceEqDiff, Nat.reduceAdd, Int.reduceToNat, reduceCtorEq, Nat.reduceLeDiff, Nat.reduceSub, Nat.reduceDiv, Nat.reduceMod, Nat.reduceMul, d1657, g]
    · rw [if_neg (by omega)]
      refine .inr ⟨rfl, j, runP_fn t1657 rfl ?_⟩
      simp (config := { maxSteps := 1000000 }) (disch := omega) only [go_sem, ↓reduceIte, Nat.reduceEqDiff, Nat.reduceAdd, Int.reduceToNat, reduceCtorEq, Nat.reduceLeDiff, Nat.reduceSub, Nat.reduceDiv, Nat.reduceMod, Nat.reduceMul, d1657, g]
  · rw [h]
    simp only
    refine .inr ⟨trivial, j, runP_fn t1657 rfl ?_⟩
    simp (config := { maxSteps := 1000000 }) (disch := omega) only [go_sem, ↓reduceIte, Nat.reduceEqDiff, Nat.reduceAdd, Int.reduceToNat, reduceCtorEq, Nat.reduceLeDiff, Nat.reduceSub, Nat.reduceDiv, Nat.reduceMod, Nat.reduceMul, d1657, g]
theorem rdt_run {s : Txt} (hs : s.length ≤ 1000000) {i : Nat} (hi : i ≤ s.length) : runP tab 1655 [.str s, .int .i64 i] [] = some (.tup (rtA (rdT s i)), []) := by
  rcases text_run hs hi with ⟨t, e, h, g⟩ | ⟨h, j, g⟩
  · have b := rdT_sound h
    have g2 : runP tab 1656 [.ref 0 0, .clo 1657 [.ref 0 0] []] [.row false [.str s, .int .i64 i]] = some (.tup [.str t, .int .i64 e, .bool true], [.row false [.str s, .int .i64 e]]) := by
      refine runP_fn t1656 rfl ?_
      simp (config := { maxSteps := 1000000 }) (disch := omega) only [go_sem, ↓reduceIte, Nat.reduceEqDiff, Nat.reduceAdd, Int.reduceToNat, reduceCtorEq, Nat.reduceLeDiff, Nat.reduceSub, Nat.reduceDiv, Nat.reduceMod, Nat.reduceMul, d1656, g]
    refine runP_fn t1655 rfl ?_
    rw [h]
    simp (config := { maxSteps := 1000000 }) (disch := omega) only [go_sem, ↓reduceIte, Nat.reduceEqDiff, Nat.reduceAdd, Int.reduceToNat, reduceCtorEq, Nat.reduceLeDiff, Nat.reduceSub, Nat.reduceDiv, Nat.reduceMod, Nat.reduceMul, d1655, g2, rtA]
  · have g2 : runP tab 1656 [.ref 0 0, .clo 1657 [.ref 0 0] []] [.row false [.str s, .int .i64 i]] = some (.tup [.str [], .int .i64 0, .bool false], [.row false [.str s, .int .i64 j]]) := by
      refine runP_fn t1656 rfl ?_
      simp (config := { maxSteps := 1000000 }) (disch := omega) only [go_sem, ↓reduceIte, Nat.reduceEqDiff, Nat.reduceAdd, Int.reduceToNat, reduceCtorEq, Nat.reduceLeDiff, Nat.reduceSub, Nat.reduceDiv, Nat.reduceMod, Nat.reduceMul, d1656, g]
    refine runP_fn t1655 rfl ?_
    rw [h]
    simp (config := { maxSteps := 1000000 }) (disch := omega) only [go_sem, ↓reduceIte, Nat.reduceEqDiff, Nat.reduceAdd, Int.reduceToNat, reduceCtorEq, Nat.reduceLeDiff, Nat.reduceSub, Nat.reduceDiv, Nat.reduceMod, Nat.reduceMul, d1655, g2, rtA]
theorem rrdt_run {s : Txt} (hs : s.length ≤ 1000000) {i : Nat} (hi : i ≤ s.length) : runP tab 1651 [.str s, .int .i64 i] [] = some (.tup (rtA (rdT s i)), []) := by
  refine runP_fn t1651 rfl ?_
  have g := rrd_run hs hi
  unfold rdT
  cases h : rdN s i with
  | none =>
    rw [h] at g
    simp only [rdA] at g
    simp (config := { maxSteps := 1000000 }) (disch := omega) only [go_sem, ↓reduceIte, Nat.reduceEqDiff, Nat.reduceAdd, Int.reduceToNat, reduceCtorEq, Nat.reduceLeDiff, Nat.reduceSub, Nat.reduceDiv, Nat.reduceMod, Nat.reduceMul, d1651, g, rtA]
  | some p =>
    obtain ⟨n, j⟩ := p
    rw [h] at g
    simp only [rdA] at g ⊢
    have hb := rdN_sound h
    by_cases c1 : n ≤ 4000
    · by_cases c2 : n ≤ s.length - j
      · rw [if_pos ⟨c1, c2⟩]
        have hsl : ((j : Int) + (n : Int)).toNat - j = n := by omega
        simp (config := { maxSteps := 1000000 }) (disch := omega) only [go_sem, ↓reduceIte, Nat.reduceEqDiff, Nat.reduceAdd, Int.reduceToNat, reduceCtorEq, Nat.reduceLeDiff, Nat.reduceSub, Nat.reduceDiv, Nat.reduceMod, Nat.reduceMul, d1651, g, hsl, rtA]
      · rw [if_neg (by omega)]
        simp (config := { maxSteps := 1000000 }) (disch := omega) only [go_sem, ↓reduceIte, Nat.reduceEqDiff, Nat.reduceAdd, Int.reduceToNat, reduceCtorEq, Nat.reduceLeDiff, Nat.reduceSub, Nat.reduceDiv, Nat.reduceMod, Nat.reduceMul, d1651, g, rtA]
    · rw [if_neg (by omega)]
      simp (config := { maxSteps := 1000000 }) (disch := omega) only [go_sem, ↓reduceIte, Nat.reduceEqDiff, Nat.reduceAdd, Int.reduceToNat, reduceCtorEq, Nat.reduceLeDiff, Nat.reduceSub, Nat.reduceDiv, Nat.reduceMod, Nat.reduceMul, d1651, g, rtA]
theorem stext_run {s : Txt} (hs : s.length ≤ 1000000) {i : Nat} (hi : i ≤ s.length) {t : Txt} {e : Nat} (h : rdT s i = some (t, e)) : runP tab 1650 [.ref 0 0] [.row false [.str s, .int .i64 (i : Int)]] = some (.str t, [.row false [.str s, .int .i64 (e : Int)]]) := by
  have b := rdT_sound h
  have g := rdt_run hs hi
  rw [h] at g
  simp only [rtA] at g
  refine runP_fn t1650 rfl ?_
  simp (config := { maxSteps := 1000000 }) (disch := omega) only [go_sem, ↓reduceIte, Nat.reduceEqDiff, Nat.reduceAdd, Int.reduceToNat, reduceCtorEq, Nat.reduceLeDiff, Nat.reduceSub, Nat.reduceDiv, Nat.reduceMod, Nat.reduceMul, d1650, g, need_run]
section
variable {P : Program}
theorem stext_dies (G : Good P fid tab) (N : NeedIs P) {s : Txt} (hs : s.length ≤ 1000000) {i : Nat} (hi : i ≤ s.length) (h : rdT s i = none) : DiesC P fid 1650 [.ref 0 0] [.row false [.str s, .int .i64 (i : Int)]] := by
  refine D_fn G t1650 ?_
  have g := rdt_run hs hi
  rw [h] at g
  simp only [rtA] at g
  have hn := needs G N []
  simp only [d1650, bindParams]
  refine D_seq2 G ?_
  simp (config := { maxSteps := 1000000 }) (disch := omega) only [go_sem, ↓reduceIte, Nat.reduceEqDiff, Nat.reduceAdd, Int.reduceToNat, reduceCtorEq, Nat.reduceLeDiff, Nat.reduceSub, Nat.reduceDiv, Nat.reduceMod, Nat.reduceMul]
  refine D_seq2 G ?_
  simp (config := { maxSteps := 1000000 }) (disch := omega) only [go_sem, ↓reduceIte, Nat.reduceEqDiff, Nat.reduceAdd, Int.reduceToNat, reduceCtorEq, Nat.reduceLeDiff, Nat.reduceSub, Nat.reduceDiv, Nat.reduceMod, Nat.reduceMul, g]
  refine D_ghost rfl (D_seq1 (D_ops (DO_take G 1 ?_)))
  simp (config := { maxSteps := 1000000 }) (disch := omega) only [go_sem, ↓reduceIte, Nat.reduceEqDiff, Nat.reduceAdd, Int.reduceToNat, reduceCtorEq, Nat.reduceLeDiff, Nat.reduceSub, Nat.reduceDiv, Nat.reduceMod, Nat.reduceMul, keepEnv, List.take_succ_cons, List.take_zero, List.drop_succ_cons, List.drop_zero]
  exact DO_call rfl rfl rfl hn trivial
end
theorem rdCT_le {s : Txt} {j : Nat} (hj : j ≤ s.length) : (rdCT s j).1.length ≤ 4000 ∧ (rdCT s j).2.1 ≤ s.length := by
  unfold rdCT
  split
  · rename_i n e h
    have := rdT_sound h
    exact ⟨this.1, this.2.2.1⟩
  · exact ⟨by simp, hj⟩
theorem ctext_run {s : Txt} (hs : s.length ≤ 1000000) {j : Nat} (hj : j ≤ s.length) {bad : Bool} : runP tab 1644 [.ref 0 0] [.row false [.str s, .int .i64 (j : Int), .bool bad]] = some (.str (rdCT s j).1, [.row false [.str s, .int .i64 ((rdCT s j).2.1 : Nat), .bool (bad || (rdCT s j).2.2)]]) := by
  refine runP_fn t1644 rfl ?_
  have g := rrdt_run hs hj
  unfold rdCT
  cases h : rdT s j with
  | none =>
    rw [h] at g
    simp only [rtA] at g
    cases bad <;> simp (config := { maxSteps := 1000000 }) (disch := omega) only [go_sem, ↓reduceIte, Nat.reduceEqDiff, Nat.reduceAdd, Int.reduceToNat, reduceCtorEq, Nat.reduceLeDiff, Nat.reduceSub, Nat.reduceDiv, Nat.reduceMod, Nat.reduceMul, d1644, g, Bool.or_true, Bool.true_or]
  | some r =>
    obtain ⟨n, e⟩ := r
    rw [h] at g
    simp only [rtA] at g
    cases bad <;> simp (config := { maxSteps := 1000000 }) (disch := omega) only [go_sem, ↓reduceIte, Nat.reduceEqDiff, Nat.reduceAdd, Int.reduceToNat, reduceCtorEq, Nat.reduceLeDiff, Nat.reduceSub, Nat.reduceDiv, Nat.reduceMod, Nat.reduceMul, d1644, g, Bool.or_false, Bool.or_true, Bool.true_or]
end Go.Proofs.Ytcfhocnbpplecaa
