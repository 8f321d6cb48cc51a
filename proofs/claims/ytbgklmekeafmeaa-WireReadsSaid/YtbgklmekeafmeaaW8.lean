import Derived.Test.YtbgklmekeafmeaaW7
namespace Go.Proofs.Ytbgklmekeafmeaa
open Go.RowKit

/-- A text's bytes come first of some: of how many letters it is. -/
def RtN (bs : List Nat) (n : Nat) : Prop := Rd bs n ∧ n ≤ 4000 ∧ (digs n).length + n ≤ bs.length

theorem rd_len {bs : List Nat} {n : Nat} (h : Rd bs n) : (digs n).length ≤ bs.length := by
  obtain ⟨t, ht⟩ := h.2
  rw [← ht, List.length_append]
  omega

def TextPost (g : Nat) (s : ByteArray) (a : Nat) (w : World) (e : Ending) (w' : World) : Prop :=
  ((∃ n, RtN ((sb s).drop a) n ∧ e = .returned (.tuple #[.string (s.extract (a + (digs n).length) (a + (digs n).length + n)), .bool true]) ∧ Row w' g 46 [.string s, .int .i64 ((a + (digs n).length + n : Nat) : Int)]) ∨
    ((¬ ∃ n, RtN ((sb s).drop a) n) ∧ e = .returned (.tuple #[.string (bstr []), .bool false]) ∧ ∃ x, Row w' g 46 [.string s, .int .i64 x])) ∧ w.grownBy w' (some g)

set_option maxHeartbeats 2000000 in
theorem text_r (g : Nat) (s : ByteArray) (a : Nat) (w : World) (hr : Row w g 46 [.string s, .int .i64 a]) (ha : a ≤ s.size) (hs : s.size ≤ 1000000000) :
    Calls Try.prog 28 #[.pointer (some ⟨g, 0, none⟩)] w fun e w' => TextPost g s a w e w' := by
  have hbl : ((sb s).drop a).length = s.size - a := by rw [List.length_drop, sb_length]
  have HBL := Lib.hid hbl
  clear hbl
  go_enter Try.func28, Try.ntmps28
  go_wp2_with fail
  refine (number_r g s a w hr ha hs).mono ?_
  rintro e w1 ⟨hcase, hg1⟩
  rcases hcase with ⟨n, hn, rfl, hrow⟩ | ⟨hno, ⟨x, rfl⟩, y, hrow⟩
  · have hlen := rd_len hn
    have HN := Lib.hid hn
    have HLEN := Lib.hid hlen
    clear hn hlen
    obtain ⟨q, hq⟩ : ∃ q, a + (digs n).length = q := ⟨_, rfl⟩
    have hqs : q ≤ s.size := by have := HLEN.out; have := HBL.out; omega
    have HQ := Lib.hid hq
    rw [hq] at hrow
    clear hq
    have hnm : n ≤ 2147483647 := HN.out.1
    have c0 : w1.cell? ⟨g, 0, none⟩ = some (.string s) := hrow.cell 0
    have c1 : w1.cell? ⟨g, 1, none⟩ = some (.int .i64 (q : Int)) := hrow.cell 1
    have f1 : w1.frozen? ⟨g, 1, none⟩ = false := hrow.free 1
    by_cases h4 : n ≤ 4000
    · have d4 : decide ((4000 : Int) < (n : Int)) = false := by simp; omega
      by_cases h5 : q + n ≤ s.size
      · have h6 : (n : Int) ≤ (s.size : Int) - (q : Int) := by omega
        have d6 : decide ((s.size : Int) - (q : Int) < (n : Int)) = false := by simp; omega
        go_wp2_with fail
        go_quiet (fail)
        go_wp2_with fail
        go_quiet (fail)
        go_wp2
        go_ret2
        refine ⟨.inl ⟨n, ⟨HN.out, h4, ?_⟩, ?_, ?_⟩, ?_⟩
        · have := HBL.out; have := HQ.out; omega
        · rw [HQ.out]; rfl
        · rw [HQ.out]
          exact (row_drewN hrow _).setCell 1 _
        · exact (grown_drewN hg1 _).trans (grownBy_setCell _ g 1 _)
      · have h6 : (s.size : Int) - (q : Int) < (n : Int) := by omega
        have h7 : Hid (¬ ∃ n, RtN ((sb s).drop a) n) := by
          rintro ⟨m, hm, _, hm3⟩
          have := rd_unique hm HN.out
          subst this
          have := HBL.out; have := HQ.out; omega
        go_wp2_with fail
        go_quiet (fail)
        go_wp2
        go_ret2
        exact ⟨.inr ⟨h7.out, rfl, _, row_drewN hrow _⟩, grown_drewN hg1 _⟩
    · have h6 : (4000 : Int) < (n : Int) := by omega
      have d6 : decide ((4000 : Int) < (n : Int)) = true := by simp; omega
      have h7 : Hid (¬ ∃ n, RtN ((sb s).drop a) n) := by
        rintro ⟨m, hm, hm2, _⟩
        have := rd_unique hm HN.out
        subst this
        omega
      clear h4
      go_wp2_with fail
      go_quiet (fail)
      go_wp2
      go_ret2
      exact ⟨.inr ⟨h7.out, rfl, _, row_drewN hrow _⟩, grown_drewN hg1 _⟩
  · have h7 : Hid (¬ ∃ n, RtN ((sb s).drop a) n) := by
      rintro ⟨m, hm, _⟩
      exact hno ⟨m, hm⟩
    clear hno
    go_wp2_with fail
    go_quiet (fail)
    go_wp2
    go_ret2
    exact ⟨.inr ⟨h7.out, rfl, _, row_drewN hrow _⟩, grown_drewN hg1 _⟩

/-- From the place 'p' on a text of n letters stands in s. -/
def RtAt (s : ByteArray) (p : Int) (t : ByteArray) (next : Nat) : Prop :=
  ∃ a n : Nat, p = a ∧ a ≤ s.size ∧ RtN ((sb s).drop a) n ∧ t = s.extract (a + (digs n).length) (a + (digs n).length + n) ∧ next = a + (digs n).length + n

def RtPost (s : ByteArray) (p : Int) (e : Ending) : Prop :=
  (∃ t next, RtAt s p t next ∧ e = .returned (.tuple #[.string t, .int .i64 (next : Nat), .bool true])) ∨
    ((¬ ∃ t next, RtAt s p t next) ∧ e = .returned (.tuple #[.string (bstr []), .int .i64 0, .bool false]))

set_option maxHeartbeats 1000000 in
theorem read_text (g : Nat) (s : ByteArray) (p : Int) (w : World) (hr : Row w g 46 [.string s, .int .i64 p]) (hs : s.size ≤ 1000000000) (hp : i64 p) :
    Calls Try.prog 27 #[.pointer (some ⟨g, 0, none⟩), .func (.func 28) #[.pointer (some ⟨g, 0, none⟩)] #[]] w fun e w' => RtPost s p e ∧ w.grownBy w' (some g) := by
  obtain ⟨hp1, hp2⟩ := hp
  have c0 : w.cell? ⟨g, 0, none⟩ = some (.string s) := hr.cell 0
  have c1 : w.cell? ⟨g, 1, none⟩ = some (.int .i64 p) := hr.cell 1
  have hg0 : w.grownBy w (some g) := World.grownBy.refl w _
  by_cases h1 : p < 0
  · go_enter Try.func27, Try.ntmps27
    go_wp2_with fail
    go_quiet (fail)
    go_wp2
    go_ret3
    refine ⟨.inr ⟨?_, rfl⟩, grown_drewN hg0 _⟩
    rintro ⟨t, next, a, n, h, _⟩
    omega
  · by_cases h2 : (s.size : Int) < p
    · have h0 : 0 ≤ p := by omega
      clear h1
      go_enter Try.func27, Try.ntmps27
      go_wp2_with fail
      go_quiet (fail)
      go_wp2
      go_ret3
      refine ⟨.inr ⟨?_, rfl⟩, grown_drewN hg0 _⟩
      rintro ⟨t, next, a, n, h, h', _⟩
      omega
    · have h0 : 0 ≤ p := by omega
      obtain ⟨a, rfl⟩ := Int.eq_ofNat_of_zero_le h0
      have ha : a ≤ s.size := by omega
      clear h1 h2
      go_enter Try.func27, Try.ntmps27
      go_wp2_with fail
      go_quiet (fail)
      go_wp2_with fail
      refine (text_r g s a _ (row_drewN hr _) ha hs).mono ?_
      rintro e w2 ⟨hcase, hg2⟩
      have hgg := (grown_drewN hg0 nq).trans hg2
      rcases hcase with ⟨n, hn, rfl, hrow2⟩ | ⟨hno, rfl, y, hrow2⟩
      · have d1 : w2.cell? ⟨g, 1, none⟩ = some (.int .i64 ((a + (digs n).length + n : Nat) : Int)) := hrow2.cell 1
        generalize hq : a + (digs n).length + n = q at d1
        generalize ht : s.extract (a + (digs n).length) q = t
        have HQ := Lib.hid hq
        have HT := Lib.hid ht
        clear hq ht c0 c1
        go_wp2_with fail
        go_quiet (fail)
        go_wp2
        go_ret3
        refine ⟨.inl ⟨t, q, ⟨a, n, rfl, ha, hn, ?_, HQ.out.symm⟩, rfl⟩, grown_drewN hgg _⟩
        rw [HQ.out, HT.out]
      · clear c0 c1
        go_wp2
        go_ret3
        refine ⟨.inr ⟨?_, rfl⟩, hgg⟩
        rintro ⟨t, next, b, n, h, _, h3, _⟩
        obtain rfl : a = b := by omega
        exact hno ⟨n, h3⟩

set_option maxHeartbeats 1000000 in
theorem readText_any (s : ByteArray) (p : Int) (w : World) (hs : s.size ≤ 1000000000) (hp : i64 p) :
    Calls Try.prog 19 #[.string s, .int .i64 p] w fun e w' => RtPost s p e ∧ Below w.heap.size w w' := by
  have hmf : ∀ (fn : Fn) (first cap : Array Value) (w : World), (Instr.makeFunc fn first cap).run Try.prog w = .ok (.func fn first cap) w := fun _ _ _ _ => rfl
  go_enter Try.func19, Try.ntmps19
  go_wp2_with fail
  refine (read_text w.heap.size s p _ ?hr hs hp).mono ?_
  case hr => exact Row.new w 46 #[.string s, .int .i64 p]
  rintro e w2 ⟨hcase, hg⟩
  have hB : Below w.heap.size w w2 := below_of_grown ((Below.refl _ _).alloc (Nat.le_refl _) _) hg (Nat.le_refl _) (by simp)
  rcases hcase with ⟨n, next, h, rfl⟩ | ⟨h, rfl⟩
  · go_wp2
    go_ret3
    exact ⟨.inl ⟨n, next, h, rfl⟩, hB⟩
  · go_wp2
    go_ret3
    exact ⟨.inr ⟨h, rfl⟩, hB⟩
end Go.Proofs.Ytbgklmekeafmeaa
