import Derived.Test.YtbgklmekeafmeaaW4
namespace Go.Proofs.Ytbgklmekeafmeaa
open Go.RowKit

/-- From the place 'at' on the bytes of n stand in s, and 'next' is the place behind them. -/
def RdAt (s : ByteArray) (p : Int) (n next : Nat) : Prop := ∃ a : Nat, p = a ∧ a ≤ s.size ∧ Rd ((sb s).drop a) n ∧ next = a + (digs n).length

def RnPost (s : ByteArray) (p : Int) (w : World) (e : Ending) (w' : World) : Prop :=
  ((∃ n next, RdAt s p n next ∧ e = .returned (.tuple #[.int .i64 (n : Nat), .int .i64 (next : Nat), .bool true])) ∨
    ((¬ ∃ n next, RdAt s p n next) ∧ e = .returned (.tuple #[.int .i64 0, .int .i64 0, .bool false]))) ∧ Below w.heap.size w w'

def R25Post (g : Nat) (s : ByteArray) (p : Int) (w : World) (e : Ending) (w' : World) : Prop :=
  ((∃ n next, RdAt s p n next ∧ e = .returned (.tuple #[.int .i64 (n : Nat), .int .i64 (next : Nat), .bool true])) ∨
    ((¬ ∃ n next, RdAt s p n next) ∧ e = .returned (.tuple #[.int .i64 0, .int .i64 0, .bool false]))) ∧ w.grownBy w' (some g)

theorem rdAt_nat {s : ByteArray} {a : Nat} (h : a ≤ s.size) (n next : Nat) : RdAt s a n next ↔ Rd ((sb s).drop a) n ∧ next = a + (digs n).length := by
  constructor
  · rintro ⟨b, h1, h2, h3, h4⟩
    obtain rfl : a = b := by omega
    exact ⟨h3, h4⟩
  · rintro ⟨h1, h2⟩
    exact ⟨a, rfl, h, h1, h2⟩

set_option maxHeartbeats 1000000 in
theorem read_int (g : Nat) (s : ByteArray) (p : Int) (w : World) (hr : Row w g 46 [.string s, .int .i64 p]) (hs : s.size ≤ 1000000000) (hp : i64 p) :
    Calls Try.prog 25 #[.pointer (some ⟨g, 0, none⟩), .func (.func 26) #[.pointer (some ⟨g, 0, none⟩)] #[]] w fun e w' => R25Post g s p w e w' := by
  obtain ⟨hp1, hp2⟩ := hp
  have c0 : w.cell? ⟨g, 0, none⟩ = some (.string s) := hr.cell 0
  have c1 : w.cell? ⟨g, 1, none⟩ = some (.int .i64 p) := hr.cell 1
  have hg0 : w.grownBy w (some g) := World.grownBy.refl w _
  by_cases h1 : p < 0
  · go_enter Try.func25, Try.ntmps25
    go_wp2_with fail
    go_quiet (fail)
    go_wp2
    go_ret3
    refine ⟨.inr ⟨?_, rfl⟩, grown_drewN hg0 _⟩
    rintro ⟨n, next, a, h, _⟩
    omega
  · by_cases h2 : (s.size : Int) < p
    · have h0 : 0 ≤ p := by omega
      clear h1
      go_enter Try.func25, Try.ntmps25
      go_wp2_with fail
      go_quiet (fail)
      go_wp2
      go_ret3
      refine ⟨.inr ⟨?_, rfl⟩, grown_drewN hg0 _⟩
      rintro ⟨n, next, a, h, h', _⟩
      omega
    · have h0 : 0 ≤ p := by omega
      obtain ⟨a, rfl⟩ := Int.eq_ofNat_of_zero_le h0
      have ha : a ≤ s.size := by omega
      clear h1 h2
      go_enter Try.func25, Try.ntmps25
      go_wp2_with fail
      go_quiet (fail)
      go_wp2_with fail
      refine (number_r g s a _ (row_drewN hr _) ha hs).mono ?_
      rintro e w2 ⟨hcase, hg2⟩
      have hgg := (grown_drewN hg0 nq).trans hg2
      rcases hcase with ⟨n, hn, rfl, hrow2⟩ | ⟨hno, ⟨x, rfl⟩, y, hrow2⟩
      · have d1 : w2.cell? ⟨g, 1, none⟩ = some (.int .i64 ((a + (digs n).length : Nat) : Int)) := hrow2.cell 1
        generalize hq : a + (digs n).length = q at d1
        have HQ := Lib.hid hq
        clear hq c0 c1
        go_wp2_with fail
        go_quiet (fail)
        go_wp2
        go_ret3
        exact ⟨.inl ⟨n, q, ⟨a, rfl, ha, hn, HQ.out.symm⟩, rfl⟩, grown_drewN hgg _⟩
      · clear c0 c1
        go_wp2
        go_ret3
        refine ⟨.inr ⟨?_, rfl⟩, hgg⟩
        rintro ⟨n, next, b, h, _, h3, _⟩
        obtain rfl : a = b := by omega
        exact hno ⟨n, h3⟩

set_option maxHeartbeats 1000000 in
theorem readNumber_any (s : ByteArray) (p : Int) (w : World) (hs : s.size ≤ 1000000000) (hp : i64 p) :
    Calls Try.prog 17 #[.string s, .int .i64 p] w fun e w' => RnPost s p w e w' := by
  have hmf : ∀ (fn : Fn) (first cap : Array Value) (w : World), (Instr.makeFunc fn first cap).run Try.prog w = .ok (.func fn first cap) w := fun _ _ _ _ => rfl
  go_enter Try.func17, Try.ntmps17
  go_wp2_with fail
  refine (read_int w.heap.size s p _ ?hr hs hp).mono ?_
  case hr => exact Row.new w 46 #[.string s, .int .i64 p]
  rintro e w2 ⟨hcase, hg⟩
  have hB : Below w.heap.size w w2 := below_of_grown ((Below.refl _ _).alloc (Nat.le_refl _) _) hg (Nat.le_refl _) (by simp)
  rcases hcase with ⟨n, next, h, rfl⟩ | ⟨h, rfl⟩
  · go_wp2
    go_ret3
    exact ⟨.inl ⟨n, next, h, rfl⟩, hB⟩
  · go_wp2
    go_ret3
    exact ⟨.inr ⟨h, rfl⟩, hB⟩
end Go.Proofs.Ytbgklmekeafmeaa
