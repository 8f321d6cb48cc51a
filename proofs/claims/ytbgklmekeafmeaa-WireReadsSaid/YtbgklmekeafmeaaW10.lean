import Derived.Test.YtbgklmekeafmeaaW9
namespace Go.Proofs.Ytbgklmekeafmeaa
open Go.RowKit

/-- From the place 'p' on a row's bytes stand in s. -/
def RlAt (s : ByteArray) (p : Int) (l : List Nat) (next : Nat) : Prop := ∃ a : Nat, p = a ∧ a ≤ s.size ∧ RdRow ((sb s).drop a) l ∧ next = a + (digs l.length ++ seqB l).length

def RlPost (s : ByteArray) (p : Int) (base : Nat) (e : Ending) (w' : World) : Prop :=
  (∃ l v next, RlAt s p l next ∧ w'.ownsRow base 3 1 v l.length (ints (nums l)) ∧ e = .returned (.tuple #[v, .int .i64 (next : Nat), .bool true])) ∨
    ((¬ ∃ l next, RlAt s p l next) ∧ e = .returned (.tuple #[.slice none 0 0, .int .i64 0, .bool false]))

set_option maxHeartbeats 1000000 in
theorem read_row (g : Nat) (s : ByteArray) (p : Int) (w : World) (hr : Row w g 46 [.string s, .int .i64 p]) (hs : s.size ≤ 1000000000) (hp : i64 p) :
    Calls Try.prog 29 #[.pointer (some ⟨g, 0, none⟩), .func (.func 30) #[.pointer (some ⟨g, 0, none⟩)] #[]] w fun e w' => RlPost s p w.heap.size e w' ∧ Below g w w' ∧ w.heap.size ≤ w'.heap.size := by
  obtain ⟨hp1, hp2⟩ := hp
  have hgl := hr.lt
  have c0 : w.cell? ⟨g, 0, none⟩ = some (.string s) := hr.cell 0
  have c1 : w.cell? ⟨g, 1, none⟩ = some (.int .i64 p) := hr.cell 1
  have hB0 : Below g w w := Below.refl g w
  by_cases h1 : p < 0
  · go_enter Try.func29, Try.ntmps29
    go_wp2_with fail
    go_quiet (fail)
    go_wp2
    go_ret3
    refine ⟨.inr ⟨?_, rfl⟩, below_drewN hB0 _, Nat.le_refl _⟩
    rintro ⟨l, next, a, h, _⟩
    omega
  · by_cases h2 : (s.size : Int) < p
    · have h0 : 0 ≤ p := by omega
      clear h1
      go_enter Try.func29, Try.ntmps29
      go_wp2_with fail
      go_quiet (fail)
      go_wp2
      go_ret3
      refine ⟨.inr ⟨?_, rfl⟩, below_drewN hB0 _, Nat.le_refl _⟩
      rintro ⟨l, next, a, h, h', _⟩
      omega
    · have h0 : 0 ≤ p := by omega
      obtain ⟨a, rfl⟩ := Int.eq_ofNat_of_zero_le h0
      have ha : a ≤ s.size := by omega
      clear h1 h2
      go_enter Try.func29, Try.ntmps29
      go_wp2_with fail
      go_quiet (fail)
      go_wp2_with fail
      refine (numbers_r g s a _ (row_drewN hr _) ha hs).mono ?_
      rintro e w2 ⟨hcase, hB2, hs2⟩
      have hB2' : Below g w w2 := (below_drewN hB0 nq).trans (hB2.mono (by show g ≤ min g w.heap.size; omega))
      have hs2' : w.heap.size ≤ w2.heap.size := hs2
      rcases hcase with ⟨l, v, hl, rfl, hown, hrow2⟩ | ⟨hno, rfl, y, hrow2⟩
      · have d1 : w2.cell? ⟨g, 1, none⟩ = some (.int .i64 ((a + (digs l.length ++ seqB l).length : Nat) : Int)) := hrow2.cell 1
        generalize hq : a + (digs l.length ++ seqB l).length = q at d1
        have HQ := Lib.hid hq
        obtain ⟨A, c, rfl⟩ := own_shape hown
        have HO : Hid (w2.ownsRow w.heap.size 3 1 (.slice A l.length c) l.length (ints (nums l))) := hown
        have HL := Lib.hid hl
        clear hq c0 c1 hown hl
        generalize hn : l.length = n at *
        have HN := Lib.hid hn
        clear hn
        go_wp2_with fail
        go_quiet (fail)
        go_wp2
        go_ret3
        refine ⟨.inl ⟨l, .slice A n c, q, ⟨a, rfl, ha, HL.out, ?_⟩, ?_, rfl⟩, below_drewN hB2' _, hs2'⟩
        · rw [HN.out]; exact HQ.out.symm
        · rw [HN.out]; exact HO.out
      · clear c0 c1
        go_wp2
        go_ret3
        refine ⟨.inr ⟨?_, rfl⟩, hB2', hs2'⟩
        rintro ⟨l, next, b, h, _, h3, _⟩
        obtain rfl : a = b := by omega
        exact hno ⟨l, h3⟩

set_option maxHeartbeats 1000000 in
theorem readNumbers_any (s : ByteArray) (p : Int) (w : World) (hs : s.size ≤ 1000000000) (hp : i64 p) :
    Calls Try.prog 21 #[.string s, .int .i64 p] w fun e w' => RlPost s p w.heap.size e w' ∧ Below w.heap.size w w' := by
  have hmf : ∀ (fn : Fn) (first cap : Array Value) (w : World), (Instr.makeFunc fn first cap).run Try.prog w = .ok (.func fn first cap) w := fun _ _ _ _ => rfl
  go_enter Try.func21, Try.ntmps21
  go_wp2_with fail
  refine (read_row w.heap.size s p _ ?hr hs hp).mono ?_
  case hr => exact Row.new w 46 #[.string s, .int .i64 p]
  rintro e w2 ⟨hcase, hB, _⟩
  have hB : Below w.heap.size w w2 := ((Below.refl _ _).alloc (Nat.le_refl _) _).trans hB
  rcases hcase with ⟨l, v, next, h, hown, rfl⟩ | ⟨h, rfl⟩
  · obtain ⟨A, c, rfl⟩ := own_shape hown
    have HL := Lib.hid h
    have HO := Lib.hid hown
    clear h hown
    generalize hn : l.length = n at *
    have HN := Lib.hid hn
    clear hn
    go_wp2
    go_ret3
    exact ⟨.inl ⟨l, _, next, HL.out, by rw [HN.out]; exact own_mono HO.out (by simp), rfl⟩, hB⟩
  · go_wp2
    go_ret3
    exact ⟨.inr ⟨h, rfl⟩, hB⟩
end Go.Proofs.Ytbgklmekeafmeaa
