import Derived.Test.YtbgklmekeafmeaaW18
namespace Go.Proofs.Ytbgklmekeafmeaa
open Go.RowKit

theorem readNumber_both (s : ByteArray) (p : Int) (hs : s.size ≤ 1000000000) (hp : i64 p) : ∃ (x y : Int) (b : Bool),
    (∀ w, Calls Try.prog 17 #[.string s, .int .i64 p] w fun e w' => e = .returned (.tuple #[.int .i64 x, .int .i64 y, .bool b]) ∧ Below w.heap.size w w') ∧
    (∀ w, Calls Try.prog 18 #[.string s, .int .i64 p] w fun e w' => e = .returned (.tuple #[.int .i64 x, .int .i64 y, .bool b]) ∧ Below w.heap.size w w') := by
  rcases Classical.em (∃ n x, RdAt s p n x) with h | h
  · obtain ⟨n, x, h⟩ := h
    refine ⟨n, x, true, fun w => (readNumber_any s p w hs hp).mono ?_, fun w => (refReadNumber_any s p w hs hp).mono ?_⟩
    all_goals
      rintro e w' ⟨⟨m, y, h2, rfl⟩ | ⟨h2, rfl⟩, hB⟩
      · obtain ⟨rfl, rfl⟩ := rdAt_unique h h2
        exact ⟨rfl, hB⟩
      · exact absurd ⟨n, x, h⟩ h2
  · refine ⟨0, 0, false, fun w => (readNumber_any s p w hs hp).mono ?_, fun w => (refReadNumber_any s p w hs hp).mono ?_⟩
    all_goals
      rintro e w' ⟨⟨m, y, h2, rfl⟩ | ⟨h2, rfl⟩, hB⟩
      · exact absurd ⟨m, y, h2⟩ h
      · exact ⟨rfl, hB⟩

theorem rtAt_unique {s : ByteArray} {p : Int} {t u : ByteArray} {x y : Nat} (h1 : RtAt s p t x) (h2 : RtAt s p u y) : t = u ∧ x = y := by
  obtain ⟨a, n, rfl, _, ⟨ha, _, _⟩, rfl, rfl⟩ := h1
  obtain ⟨b, m, hb, _, ⟨hc, _, _⟩, rfl, rfl⟩ := h2
  obtain rfl : a = b := by omega
  have := rd_unique ha hc
  subst this
  exact ⟨rfl, rfl⟩

theorem readText_both (s : ByteArray) (p : Int) (hs : s.size ≤ 1000000000) (hp : i64 p) : ∃ (t : ByteArray) (y : Int) (b : Bool),
    (∀ w, Calls Try.prog 19 #[.string s, .int .i64 p] w fun e w' => e = .returned (.tuple #[.string t, .int .i64 y, .bool b]) ∧ Below w.heap.size w w') ∧
    (∀ w, Calls Try.prog 20 #[.string s, .int .i64 p] w fun e w' => e = .returned (.tuple #[.string t, .int .i64 y, .bool b]) ∧ Below w.heap.size w w') := by
  rcases Classical.em (∃ n x, RtAt s p n x) with h | h
  · obtain ⟨n, x, h⟩ := h
    refine ⟨n, x, true, fun w => (readText_any s p w hs hp).mono ?_, fun w => (refReadText_any s p w hs hp).mono ?_⟩
    all_goals
      rintro e w' ⟨⟨m, y, h2, rfl⟩ | ⟨h2, rfl⟩, hB⟩
      · obtain ⟨rfl, rfl⟩ := rtAt_unique h h2
        exact ⟨rfl, hB⟩
      · exact absurd ⟨n, x, h⟩ h2
  · refine ⟨bstr [], 0, false, fun w => (readText_any s p w hs hp).mono ?_, fun w => (refReadText_any s p w hs hp).mono ?_⟩
    all_goals
      rintro e w' ⟨⟨m, y, h2, rfl⟩ | ⟨h2, rfl⟩, hB⟩
      · exact absurd ⟨m, y, h2⟩ h
      · exact ⟨rfl, hB⟩

theorem rlAt_unique {s : ByteArray} {p : Int} {t u : List Nat} {x y : Nat} (h1 : RlAt s p t x) (h2 : RlAt s p u y) : t = u ∧ x = y := by
  obtain ⟨a, rfl, _, ha, rfl⟩ := h1
  obtain ⟨b, hb, _, hc, rfl⟩ := h2
  obtain rfl : a = b := by omega
  have := rdRow_unique ha hc
  subst this
  exact ⟨rfl, rfl⟩

def LPost (l : List Int) (y : Int) (b : Bool) (e : Ending) (w w' : World) : Prop :=
  ∃ A n c, n = l.length ∧ e = .returned (.tuple #[.slice A n c, .int .i64 y, .bool b]) ∧ At w' A (ints l) ∧ Below w.heap.size w w'

theorem readNumbers_both (s : ByteArray) (p : Int) (hs : s.size ≤ 1000000000) (hp : i64 p) : ∃ (l : List Int) (y : Int) (b : Bool), l.length ≤ 4000 ∧
    (∀ w, Calls Try.prog 21 #[.string s, .int .i64 p] w fun e w' => LPost l y b e w w') ∧
    (∀ w, Calls Try.prog 22 #[.string s, .int .i64 p] w fun e w' => LPost l y b e w w') := by
  rcases Classical.em (∃ n x, RlAt s p n x) with h | h
  · obtain ⟨n, x, h⟩ := h
    have hl : n.length ≤ 4000 := by obtain ⟨_, _, _, hr, _⟩ := h; exact hr.1
    refine ⟨nums n, x, true, by simpa using hl, fun w => (readNumbers_any s p w hs hp).mono ?_, fun w => (refReadNumbers_any s p w hs hp).mono ?_⟩
    all_goals
      rintro e w' ⟨⟨m, v, y, h2, hown, rfl⟩ | ⟨h2, rfl⟩, hB⟩
      · obtain ⟨rfl, rfl⟩ := rlAt_unique h h2
        obtain ⟨A, c, rfl⟩ := own_shape hown
        exact ⟨A, _, c, by simp, rfl, At.of_own hown, hB⟩
      · exact absurd ⟨n, x, h⟩ h2
  · refine ⟨[], 0, false, by simp, fun w => (readNumbers_any s p w hs hp).mono ?_, fun w => (refReadNumbers_any s p w hs hp).mono ?_⟩
    all_goals
      rintro e w' ⟨⟨m, v, y, h2, hown, rfl⟩ | ⟨h2, rfl⟩, hB⟩
      · exact absurd ⟨m, y, h2⟩ h
      · exact ⟨none, 0, 0, rfl, rfl, At.nil _ _, hB⟩

set_option maxHeartbeats 4000000 in
set_option maxRecDepth 100000 in
theorem reads_walk (s : ByteArray) (p : Int) (hs : s.size ≤ maxLen) (hp : i64 p) (w : World) :
    Calls Try.prog 4 #[.string s, .int .i64 p] w fun e w' => e = .returned (.bool true) ∧ Below w.heap.size w w' := by
  unfold maxLen at hs
  by_cases h1 : 1000 < s.size
  · clear hp
    go_enter Try.func4, Try.ntmps4
    go_wp2
    go_ret
    exact ⟨rfl, Below.refl _ _⟩
  obtain ⟨x1, y1, b1, hN1, hN2⟩ := readNumber_both s p (by omega) hp
  obtain ⟨x2, y2, b2, hT1, hT2⟩ := readText_both s p (by omega) hp
  obtain ⟨l, y3, b3, hl, hR1, hR2⟩ := readNumbers_both s p (by omega) hp
  have HN1 := Lib.hid hN1
  have HN2 := Lib.hid hN2
  have HT1 := Lib.hid hT1
  have HT2 := Lib.hid hT2
  have HR1 := Lib.hid hR1
  have HR2 := Lib.hid hR2
  clear hN1 hN2 hT1 hT2 hR1 hR2 hp
  have q1 : (x1 == x1) = true := by simp
  have q2 : (y1 == y1) = true := by simp
  have q3 : (b1 == b1) = true := by simp
  have q4 : (x2.toList == x2.toList) = true := by simp
  have q5 : (y2 == y2) = true := by simp
  have q6 : (b2 == b2) = true := by simp
  have q7 : (y3 == y3) = true := by simp
  have q8 : (b3 == b3) = true := by simp
  go_enter Try.func4, Try.ntmps4
  go_wp2_with fail
  refine (HN1.out w).mono ?_
  rintro e w1 ⟨rfl, hB1⟩
  have s1 := hB1.size
  go_wp2_with fail
  refine (HN2.out w1).mono ?_
  rintro e w2 ⟨rfl, hB2⟩
  have s2 := hB2.size
  go_wp2_with fail
  refine (HT1.out w2).mono ?_
  rintro e w3 ⟨rfl, hB3⟩
  have s3 := hB3.size
  go_wp2_with fail
  refine (HT2.out w3).mono ?_
  rintro e w4 ⟨rfl, hB4⟩
  have s4 := hB4.size
  have k4 := ((hB1.trans (hB2.mono s1)).trans (hB3.mono (by omega))).trans (hB4.mono (by omega))
  go_wp2_with fail
  refine (HR1.out w4).mono ?_
  rintro e w5 ⟨A, n, c, hn, rfl, hA, hB5⟩
  have s5 := hB5.size
  have k5 := k4.trans (hB5.mono (by omega))
  have HLN := Lib.hid hn
  clear hn
  go_wp2_with fail
  refine (HR2.out w5).mono ?_
  rintro e w6 ⟨B, n2, d, hn2, rfl, hB, hB6⟩
  have s6 := hB6.size
  have k6 := k5.trans (hB6.mono (by omega))
  have hA6 := hA.below hB6
  obtain rfl : n = n2 := by rw [HLN.out, hn2]
  clear hn2
  go_wp2_with fail
  refine (wires_any w6).mono ?_
  rintro e w7 ⟨rfl, hB7⟩
  have s7 := hB7.size
  have k7 := k6.trans (hB7.mono (by omega))
  go_wp2_with fail
  refine (ints_same A B n c d l w7 HLN.out (hA6.below hB7) (hB.below hB7) (by omega)).mono ?_
  rintro e w8 ⟨rfl, hB8⟩
  go_wp2
  go_ret
  exact ⟨rfl, k7.trans (hB8.mono (by omega))⟩
end Go.Proofs.Ytbgklmekeafmeaa
