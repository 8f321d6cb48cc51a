import Derived.Test.YtbgklmekeafmeaaW5
namespace Go.Proofs.Ytbgklmekeafmeaa
open Go.RowKit

theorem digs_ne_nil (n : Nat) : digs n ≠ [] := by
  obtain ⟨l, b, h, _⟩ := digs_form n
  rw [h]
  simp

theorem rd_unique {bs : List Nat} {n m : Nat} (h1 : Rd bs n) (h2 : Rd bs m) : n = m := by
  obtain ⟨l, b, e, hl, hb, _, hv⟩ := digs_form n
  obtain ⟨t, ht⟩ := h1.2
  rw [e, List.append_assoc, List.singleton_append] at ht
  rw [← ht] at h2
  obtain ⟨_, h4, _⟩ := rd_of l b t hl hb h2
  rw [h4, ← e, hv]

theorem rdAt_unique {s : ByteArray} {p : Int} {n m x y : Nat} (h1 : RdAt s p n x) (h2 : RdAt s p m y) : n = m ∧ x = y := by
  obtain ⟨a, rfl, _, ha, rfl⟩ := h1
  obtain ⟨b, hb, _, hc, rfl⟩ := h2
  obtain rfl : a = b := by omega
  have := rd_unique ha hc
  subst this
  exact ⟨rfl, rfl⟩

theorem readNumber_yes (s : ByteArray) (p : Int) (n x : Nat) (w : World) (hs : s.size ≤ 1000000000) (hp : i64 p) (h : RdAt s p n x) :
    Calls Try.prog 17 #[.string s, .int .i64 p] w fun e w' => e = .returned (.tuple #[.int .i64 n, .int .i64 x, .bool true]) ∧ Below w.heap.size w w' := by
  refine (readNumber_any s p w hs hp).mono ?_
  rintro e w' ⟨⟨m, y, h2, rfl⟩ | ⟨h2, rfl⟩, hB⟩
  · obtain ⟨rfl, rfl⟩ := rdAt_unique h h2
    exact ⟨rfl, hB⟩
  · exact absurd ⟨n, x, h⟩ h2

theorem readNumber_no (s : ByteArray) (p : Int) (w : World) (hs : s.size ≤ 1000000000) (hp : i64 p) (h : ¬ ∃ n x, RdAt s p n x) :
    Calls Try.prog 17 #[.string s, .int .i64 p] w fun e w' => e = .returned (.tuple #[.int .i64 0, .int .i64 0, .bool false]) ∧ Below w.heap.size w w' := by
  refine (readNumber_any s p w hs hp).mono ?_
  rintro e w' ⟨⟨m, y, h2, rfl⟩ | ⟨h2, rfl⟩, hB⟩
  · exact absurd ⟨m, y, h2⟩ h
  · exact ⟨rfl, hB⟩

theorem digs_300 : digs 300 = [172, 2] := by rw [digs_big (by omega), digs_small (by omega)]

theorem number_ex (m : Nat) (hm : m ≤ 2147483647) (s : ByteArray) (h : bstr (digs m) = s) (w : World) :
    Calls Try.prog 9 #[.int .i64 m] w fun e w' => e = .returned (.tuple #[.string s, .int .i64 0]) ∧ Below w.heap.size w w' := by
  subst h
  exact number_ok m hm w

theorem text_ex (s t : ByteArray) (hs : s.size ≤ 4000) (w : World) (h : bstr (digs s.size) ++ s = t) :
    Calls Try.prog 11 #[.string s] w fun e w' => e = .returned (.tuple #[.string t, .int .i64 0]) ∧ Below w.heap.size w w' := by
  subst h
  exact text_ok s hs w

theorem numbers_ex (A : Option Addr) (n c : Nat) (l : List Int) (s : ByteArray) (w : World) (hx : At w A (ints l)) (hn : l.length = n) (hl : l.length ≤ 4000) (hv : ∀ x ∈ l, okNum x) (h : bstr (numsB l) = s) :
    Calls Try.prog 13 #[.slice A n c] w fun e w' => e = .returned (.tuple #[.string s, .int .i64 0]) ∧ Below w.heap.size w w' := by
  subst h hn
  refine (numbers_any A c l w hx hl).mono ?_
  rintro e w' ⟨⟨_, rfl⟩ | ⟨h, _⟩, hB⟩
  · exact ⟨rfl, hB⟩
  · exact absurd hv h

set_option maxHeartbeats 2000000 in
theorem wires_any (w : World) : Calls Try.prog 15 #[] w fun e w' => e = .returned (.bool true) ∧ Below w.heap.size w w' := by
  go_enter Try.func15, Try.ntmps15
  go_wp2_with fail
  refine (number_ex 300 (by omega) ⟨#[172, 2]⟩ (by rw [digs_300]; rfl) w).mono ?_
  rintro e w1 ⟨rfl, hB1⟩
  go_wp2_with fail
  refine (readNumber_yes ⟨#[172, 2, 9]⟩ 0 300 2 w1 (by decide) ⟨by omega, by omega⟩ ?r1).mono ?_
  case r1 => exact ⟨0, rfl, by decide, ⟨by omega, ⟨[9], by rw [digs_300]; rfl⟩⟩, by rw [digs_300]; rfl⟩
  rintro e w2 ⟨rfl, hB2⟩
  go_wp2_with fail
  refine (readNumber_no ⟨#[128, 0]⟩ 0 w2 (by decide) ⟨by omega, by omega⟩ ?r2).mono ?_
  case r2 =>
    rintro ⟨n, x, a, ha, _, hr, _⟩
    obtain rfl : a = 0 := by omega
    obtain ⟨_, _, h⟩ := rd_of [128] 0 [] (by simp) (by omega) (n := n) hr
    simp at h
  rintro e w3 ⟨rfl, hB3⟩
  go_wp2_with fail
  refine (number_bad (-1) (by omega) w3).mono ?_
  rintro e w4 ⟨rfl, rfl⟩
  go_wp2_with fail
  refine (text_ex ⟨#[97, 98]⟩ ⟨#[2, 97, 98]⟩ (by decide) w3 (by rw [show (⟨#[97, 98]⟩ : ByteArray).size = 2 from rfl, digs_small (by omega)]; rfl)).mono ?_
  rintro e w4 ⟨rfl, hB4⟩
  go_wp2_with fail
  refine (numbers_ex (some ⟨w4.heap.size, 0, none⟩) 2 2 [3, 300] ⟨#[2, 3, 172, 2]⟩ _ (At.lit w4 _ _) rfl (by decide) (by decide) ?r3).mono ?_
  case r3 =>
    have : numsB [3, 300] = [2, 3, 172, 2] := by
      unfold numsB rowB
      simp only [List.length_cons, List.length_nil, List.flatMap_cons, List.flatMap_nil, Nat.zero_add, Nat.reduceAdd]
      rw [digs_small (n := 2) (by omega), show ((3 : Int).toNat) = 3 from rfl, show ((300 : Int).toNat) = 300 from rfl, digs_small (n := 3) (by omega), digs_300]
      rfl
    rw [this]
    rfl
  rintro e w5 ⟨rfl, hB5⟩
  go_wp2
  go_ret
  have s1 := hB1.size
  have s2 := hB2.size
  have s3 := hB3.size
  have s4 := hB4.size
  refine ⟨rfl, ?_⟩
  have k3 := ((hB1.trans (hB2.mono (by omega))).trans (hB3.mono (by omega))).trans (hB4.mono (by omega))
  exact (k3.alloc (by omega) _).trans (hB5.mono (by simp; omega))
end Go.Proofs.Ytbgklmekeafmeaa
