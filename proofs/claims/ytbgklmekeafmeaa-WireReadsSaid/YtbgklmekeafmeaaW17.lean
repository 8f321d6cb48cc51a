import Derived.Test.YtbgklmekeafmeaaW16
namespace Go.Proofs.Ytbgklmekeafmeaa
open Go.RowKit

theorem refReadNumber_any (s : ByteArray) (p : Int) (w : World) (hs : s.size ≤ 1000000000) (hp : i64 p) :
    Calls Try.prog 18 #[.string s, .int .i64 p] w fun e w' => RnPost s p w e w' := by
  obtain ⟨hp1, hp2⟩ := hp
  by_cases h1 : p < 0
  · go_enter Try.func18, Try.ntmps18
    go_wp2
    go_ret3
    refine ⟨.inr ⟨?_, rfl⟩, Below.refl _ _⟩
    rintro ⟨n, next, a, h, _⟩
    omega
  · by_cases h2 : (s.size : Int) < p
    · have h0 : 0 ≤ p := by omega
      clear h1
      go_enter Try.func18, Try.ntmps18
      go_wp2
      go_ret3
      refine ⟨.inr ⟨?_, rfl⟩, Below.refl _ _⟩
      rintro ⟨n, next, a, h, h', _⟩
      omega
    · obtain ⟨a, rfl⟩ := Int.eq_ofNat_of_zero_le (show 0 ≤ p by omega)
      exact refReadNat s a w hs (by omega)

/-- What a text's reading is, of the reading of its number. -/
theorem rtAt_yes {s : ByteArray} {p : Int} {n q : Nat} (h : RdAt s p n q) (h4 : n ≤ 4000) (h5 : q + n ≤ s.size) : RtAt s p (s.extract q (q + n)) (q + n) := by
  obtain ⟨a, rfl, ha, hr, rfl⟩ := h
  exact ⟨a, n, rfl, ha, ⟨hr, h4, by rw [List.length_drop, sb_length]; omega⟩, rfl, rfl⟩

theorem rtAt_no {s : ByteArray} {p : Int} {n q : Nat} (h : RdAt s p n q) (h4 : 4000 < n ∨ s.size < q + n) : ¬ ∃ t next, RtAt s p t next := by
  obtain ⟨a, rfl, ha, hr, rfl⟩ := h
  rintro ⟨t, next, b, m, hb, _, ⟨hm, hm4, hl⟩, _, _⟩
  obtain rfl : a = b := by omega
  have := rd_unique hm hr
  subst this
  rw [List.length_drop, sb_length] at hl
  omega

theorem rtAt_none {s : ByteArray} {p : Int} (h : ¬ ∃ n q, RdAt s p n q) : ¬ ∃ t next, RtAt s p t next := by
  rintro ⟨t, next, b, m, hb, hbs, ⟨hm, _, _⟩, _, _⟩
  exact h ⟨m, _, b, hb, hbs, hm, rfl⟩

theorem rdAt_le {s : ByteArray} {p : Int} {n q : Nat} (h : RdAt s p n q) : q ≤ s.size ∧ n ≤ 2147483647 := by
  obtain ⟨a, rfl, ha, hr, rfl⟩ := h
  have := rd_len hr
  rw [List.length_drop, sb_length] at this
  exact ⟨by omega, hr.1⟩

set_option maxHeartbeats 2000000 in
theorem refReadText_any (s : ByteArray) (p : Int) (w : World) (hs : s.size ≤ 1000000000) (hp : i64 p) :
    Calls Try.prog 20 #[.string s, .int .i64 p] w fun e w' => RtPost s p e ∧ Below w.heap.size w w' := by
  go_enter Try.func20, Try.ntmps20
  go_wp2_with fail
  refine (refReadNumber_any s p w hs hp).mono ?_
  rintro e w1 ⟨⟨n, q, h, rfl⟩ | ⟨h, rfl⟩, hB⟩
  · obtain ⟨hq, hn⟩ := rdAt_le h
    have H := Lib.hid h
    clear h
    by_cases h4 : n ≤ 4000
    · have d4 : decide ((4000 : Int) < (n : Int)) = false := by simp; omega
      by_cases h5 : q + n ≤ s.size
      · have h6 : (n : Int) ≤ (s.size : Int) - (q : Int) := by omega
        have d6 : decide ((s.size : Int) - (q : Int) < (n : Int)) = false := by simp; omega
        go_wp2
        go_ret3
        exact ⟨.inl ⟨_, q + n, rtAt_yes H.out h4 h5, rfl⟩, hB⟩
      · have h6 : (s.size : Int) - (q : Int) < (n : Int) := by omega
        have d6 : decide ((s.size : Int) - (q : Int) < (n : Int)) = true := by simp; omega
        have hN := Lib.hid (rtAt_no H.out (.inr (by omega)))
        clear h5
        go_wp2
        go_ret3
        exact ⟨.inr ⟨hN.out, rfl⟩, hB⟩
    · have d4 : decide ((4000 : Int) < (n : Int)) = true := by simp; omega
      have hN := Lib.hid (rtAt_no H.out (.inl (by omega)))
      clear h4
      go_wp2
      go_ret3
      exact ⟨.inr ⟨hN.out, rfl⟩, hB⟩
  · have hN := Lib.hid (rtAt_none h)
    clear h
    go_wp2
    go_ret3
    exact ⟨.inr ⟨hN.out, rfl⟩, hB⟩
end Go.Proofs.Ytbgklmekeafmeaa
