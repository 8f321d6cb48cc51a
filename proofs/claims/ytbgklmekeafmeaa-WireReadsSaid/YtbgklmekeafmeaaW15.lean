import Derived.Test.YtbgklmekeafmeaaW14
namespace Go.Proofs.Ytbgklmekeafmeaa
open Go.RowKit

theorem number_both (n : Int) : ∃ (S : ByteArray) (E : Int), (∀ w, Calls Try.prog 9 #[.int .i64 n] w fun e w' => e = .returned (.tuple #[.string S, .int .i64 E]) ∧ Below w.heap.size w w') ∧
    (∀ w, Calls Try.prog 10 #[.int .i64 n] w fun e w' => e = .returned (.tuple #[.string S, .int .i64 E]) ∧ Below w.heap.size w w') := by
  rcases Classical.em (okNum n) with h | h
  · obtain ⟨m, rfl⟩ := Int.eq_ofNat_of_zero_le h.1
    have hm : m ≤ 2147483647 := by have := h.2; omega
    exact ⟨_, _, fun w => number_ok m hm w, fun w => refNumber_ok m hm w⟩
  · have h2 : n < 0 ∨ 2147483647 < n := by unfold okNum at h; omega
    exact ⟨_, _, fun w => number_bad2 n h2 w, fun w => refNumber_bad n h2 w⟩

theorem text_both (s : ByteArray) (hm : s.size ≤ 9223372036854775807) : ∃ (S : ByteArray) (E : Int), (∀ w, Calls Try.prog 11 #[.string s] w fun e w' => e = .returned (.tuple #[.string S, .int .i64 E]) ∧ Below w.heap.size w w') ∧
    (∀ w, Calls Try.prog 12 #[.string s] w fun e w' => e = .returned (.tuple #[.string S, .int .i64 E]) ∧ Below w.heap.size w w') := by
  rcases Nat.lt_or_ge 4000 s.size with h | h
  · refine ⟨_, _, fun w => (text_bad s h hm w).mono ?_, fun w => refText_bad s h hm w⟩
    rintro e w' ⟨h, hw⟩
    subst hw
    exact ⟨h, Below.refl _ _⟩
  · exact ⟨_, _, fun w => text_ok s h w, fun w => refText_ok s h w⟩

theorem numbers_both (l : List Int) (hm : l.length ≤ 9223372036854775807) : ∃ (S : ByteArray) (E : Int),
    (∀ A c w, At w A (ints l) → Calls Try.prog 13 #[.slice A l.length c] w fun e w' => e = .returned (.tuple #[.string S, .int .i64 E]) ∧ Below w.heap.size w w') ∧
    (∀ A c w, At w A (ints l) → Calls Try.prog 14 #[.slice A l.length c] w fun e w' => e = .returned (.tuple #[.string S, .int .i64 E]) ∧ Below w.heap.size w w') := by
  rcases Nat.lt_or_ge 4000 l.length with h | h
  · refine ⟨bstr [], 2, fun A c w _ => (numbers_long A c _ w h hm).mono ?_, fun A c w _ => refNumbers_long A _ c h hm w⟩
    rintro e w' ⟨h, hw⟩
    subst hw
    exact ⟨h, Below.refl _ _⟩
  · rcases Classical.em (∀ x ∈ l, okNum x) with hv | hv
    · refine ⟨bstr (numsB l), 0, fun A c w hx => (numbers_any A c l w hx h).mono ?_, fun A c w hx => (refNumbers_any A c l w hx h).mono ?_⟩
      · rintro e w' ⟨⟨_, rfl⟩ | ⟨h, _⟩, hB⟩
        · exact ⟨rfl, hB⟩
        · exact absurd hv h
      · rintro e w' ⟨⟨_, rfl⟩ | ⟨h, _⟩, hB⟩
        · exact ⟨rfl, hB⟩
        · exact absurd hv h
    · refine ⟨bstr [], 1, fun A c w hx => (numbers_any A c l w hx h).mono ?_, fun A c w hx => (refNumbers_any A c l w hx h).mono ?_⟩
      · rintro e w' ⟨⟨h, _⟩ | ⟨_, rfl⟩, hB⟩
        · exact absurd h hv
        · exact ⟨rfl, hB⟩
      · rintro e w' ⟨⟨h, _⟩ | ⟨_, rfl⟩, hB⟩
        · exact absurd h hv
        · exact ⟨rfl, hB⟩

set_option maxHeartbeats 4000000 in
set_option maxRecDepth 100000 in
theorem lays_walk (n : Int) (s : ByteArray) (A : Option Addr) (len c : Nat) (l : List Int) (w : World) (hs : s.size ≤ maxLen) (hl : l.length = len) (hx : At w A (ints l)) (hlm : len ≤ 9223372036854775807) :
    Calls Try.prog 3 #[.int .i64 n, .string s, .slice A len c] w fun e w' => e = .returned (.bool true) ∧ Below w.heap.size w w' := by
  subst hl
  unfold maxLen at hs
  by_cases h1 : 5000 < s.size
  · go_enter Try.func3, Try.ntmps3
    go_wp2
    go_ret
    exact ⟨rfl, Below.refl _ _⟩
  have gh1 : s.size ≤ 5000 := by omega
  clear h1
  by_cases h2 : 5000 < l.length
  · go_enter Try.func3, Try.ntmps3
    go_wp2
    go_ret
    exact ⟨rfl, Below.refl _ _⟩
  have gh2 : l.length ≤ 5000 := by omega
  clear h2
  have HLM := Lib.hid hlm
  clear hlm
  obtain ⟨S1, E1, hN1, hN2⟩ := number_both n
  obtain ⟨S2, E2, hT1, hT2⟩ := text_both s (by omega)
  obtain ⟨S3, E3, hR1, hR2⟩ := numbers_both l HLM.out
  have HN1 := Lib.hid hN1
  have HN2 := Lib.hid hN2
  have HT1 := Lib.hid hT1
  have HT2 := Lib.hid hT2
  have HR1 := Lib.hid hR1
  have HR2 := Lib.hid hR2
  clear hN1 hN2 hT1 hT2 hR1 hR2
  have q1 : (S1.toList == S1.toList) = true := by simp
  have q2 : (S2.toList == S2.toList) = true := by simp
  have q3 : (S3.toList == S3.toList) = true := by simp
  have q4 : (E1 == E1) = true := by simp
  have q5 : (E2 == E2) = true := by simp
  have q6 : (E3 == E3) = true := by simp
  have main : ∀ (d : decide ((100 : Int) < (l.length : Int)) = false ∨ (decide ((100 : Int) < (l.length : Int)) = true ∧ decide ((l.length : Int) ≤ 4000) = false)), Calls Try.prog 3 #[.int .i64 n, .string s, .slice A l.length c] w fun e w' => e = .returned (.bool true) ∧ Below w.heap.size w w' := by
    rintro (d1 | ⟨d1, d2⟩)
    all_goals
      go_enter Try.func3, Try.ntmps3
      go_wp2_with fail
      refine (own_any A c l w hx (by omega)).mono ?_
      rintro e w1 ⟨v, rfl, hown, hB1⟩
      obtain ⟨A1, c1, rfl⟩ := own_shape hown
      have hO := At.of_own hown
      have s1 := hB1.size
      have k1 := hB1
      go_wp2_with fail
      refine (HN1.out w1).mono ?_
      rintro e w2 ⟨rfl, hB2⟩
      have s2 := hB2.size
      go_wp2_with fail
      refine (HN2.out w2).mono ?_
      rintro e w3 ⟨rfl, hB3⟩
      have s3 := hB3.size
      go_wp2_with fail
      refine (HT1.out w3).mono ?_
      rintro e w4 ⟨rfl, hB4⟩
      have s4 := hB4.size
      go_wp2_with fail
      refine (HT2.out w4).mono ?_
      rintro e w5 ⟨rfl, hB5⟩
      have s5 := hB5.size
      have k15 : Below w1.heap.size w1 w5 := ((hB2.trans (hB3.mono s2)).trans (hB4.mono (by omega))).trans (hB5.mono (by omega))
      have k5 := k1.trans (k15.mono s1)
      go_wp2_with fail
      refine (HR1.out A c w5 (hx.below k5)).mono ?_
      rintro e w6 ⟨rfl, hB6⟩
      have s6 := hB6.size
      have k16 := k15.trans (hB6.mono (by omega))
      go_wp2_with fail
      refine (HR2.out A1 c1 w6 (hO.below k16)).mono ?_
      rintro e w7 ⟨rfl, hB7⟩
      have s7 := hB7.size
      have k17 := k16.trans (hB7.mono (by omega))
      go_wp2_with fail
      refine (wires_any w7).mono ?_
      rintro e w8 ⟨rfl, hB8⟩
      have s8 := hB8.size
      have k18 := k17.trans (hB8.mono (by omega))
      have k8 := k1.trans (k18.mono s1)
      go_wp2_with fail
      refine (ints_same A A1 l.length c c1 l w8 rfl (hx.below k8) (hO.below k18) (by omega)).mono ?_
      rintro e w9 ⟨rfl, hB9⟩
      go_wp2
      go_ret
      exact ⟨rfl, k8.trans (hB9.mono (by omega))⟩
  by_cases h3 : 100 < l.length
  · by_cases h4 : l.length ≤ 4000
    · clear main q1 q2 q3 q4 q5 q6
      go_enter Try.func3, Try.ntmps3
      go_wp2
      go_ret
      exact ⟨rfl, Below.refl _ _⟩
    · exact main (.inr ⟨by simp; omega, by simp; omega⟩)
  · exact main (.inl (by simp; omega))
end Go.Proofs.Ytbgklmekeafmeaa
