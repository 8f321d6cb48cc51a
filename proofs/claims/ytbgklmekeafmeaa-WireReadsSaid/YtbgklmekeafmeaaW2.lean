import Derived.Test.YtbgklmekeafmeaaW1
import Derived.Laws.BytesArg
namespace Go.Proofs.Ytbgklmekeafmeaa
open Go.RowKit

/-- The string of some bytes. -/
def bstr (l : List Nat) : ByteArray := ⟨(List.map UInt8.ofNat l).toArray⟩

theorem lay_any (base n0 m : Nat) (hm : m ≤ 2147483647) (hn0 : n0 ≤ 1000000) (vb : Value) (xs : List Nat) (w : World) (hown : w.ownsRow base 5 1 vb n0 (u8s xs)) (hb : base ≤ w.heap.size) :
    Calls Try.prog 24 #[vb, .int .i64 m] w fun e W' => ∃ v, e = .returned v ∧ W'.ownsRow base 5 1 v (n0 + (digs m).length) (u8s (xs ++ digs m)) ∧ Below base w W' := by
  refine (callsIn_wide.1 (lay_in 3 (by omega) base n0 m hm hn0 vb xs w hown hb)).mono ?_
  rintro e w' ⟨v, h1, h2, h3⟩
  exact ⟨v, h1, by rw [u8s_append]; exact h2, h3⟩

theorem may_nat (n : Nat) (w : World) : Calls Try.prog 23 #[.int .i64 n] w fun e w' => e = .returned (.bool (decide (n ≤ 2147483647))) ∧ w = w' := by
  have h0 : (0 : Int) ≤ (n : Int) := by omega
  go_enter Try.func23, Try.ntmps23
  go_wp2
  go_ret
  exact ⟨by simp; omega, rfl⟩

theorem may_yes (n : Int) (w : World) (h0 : 0 ≤ n) (h1 : n ≤ 2147483647) : Calls Try.prog 23 #[.int .i64 n] w fun e w' => e = .returned (.bool true) ∧ w = w' := by
  go_enter Try.func23, Try.ntmps23
  go_wp2
  go_ret
  exact ⟨by simp, rfl⟩

theorem may_no (n : Int) (w : World) (h : n < 0 ∨ 2147483647 < n) : Calls Try.prog 23 #[.int .i64 n] w fun e w' => e = .returned (.bool false) ∧ w = w' := by
  by_cases h0 : n < 0
  · go_enter Try.func23, Try.ntmps23
    go_wp2
    go_ret
    exact ⟨by simp, rfl⟩
  · have h1 : 0 ≤ n := by omega
    have h2 : 2147483647 < n := by omega
    clear h h0
    go_enter Try.func23, Try.ntmps23
    go_wp2
    go_ret
    exact ⟨by simp; omega, rfl⟩

/-- string(b). -/
theorem conv_bytes (A : Option Addr) (n c : Nat) (l : List Nat) (w : World) (hA : At w A (u8s l)) (hl : l.length = n) :
    (convert 42 9 (.slice A n c)).run Try.prog w = .ok (.string (bstr l)) w := by
  rcases A with _ | a
  · have h0 : l = [] := by
      rcases l with _ | ⟨x, l⟩
      · rfl
      · obtain ⟨b, off, h, _⟩ := hA 0 (by simp)
        cases h
    subst h0
    exact run_convert_bytes_nil w 42 5 Try.underlying42 Try.underlying5 n c 9 Try.underlying9
  · have hload : (loadCells a n).run Try.prog w = .ok (List.map (Value.int .u8) (List.map (fun x : Nat => (x : Int)) l)).toArray w := by
      have := run_loadCells_list (P := Try.prog) w a (u8s l) (hA.cells rfl)
      rw [u8s_length, hl] at this
      rw [this]
      simp [u8s, Function.comp_def]
    rw [run_convert_bytes_string w 42 9 5 _ n c Try.underlying42 Try.underlying5 Try.underlying9, run_bytesToString w a n c _ hload, foldl_push_bytes]
    simp [bstr, ByteArray.empty, ByteArray.emptyWithCapacity, Function.comp_def]
    rfl

theorem bstr_size (l : List Nat) : (bstr l).size = l.length := by simp [bstr, ByteArray.size]

theorem number_ok (m : Nat) (hm : m ≤ 2147483647) (w : World) :
    Calls Try.prog 9 #[.int .i64 m] w fun e w' => e = .returned (.tuple #[.string (bstr (digs m)), .int .i64 0]) ∧ Below w.heap.size w w' := by
  go_enter Try.func9, Try.ntmps9
  go_wp2_with fail
  refine (may_yes m w (by omega) (by omega)).mono ?_
  rintro e w1 ⟨rfl, rfl⟩
  go_wp2_with fail
  refine (lay_any w.heap.size 0 m hm (by omega) _ [] w (World.ownsRow_nil _ _ _ _) (Nat.le_refl _)).mono ?_
  rintro e w1 ⟨v, rfl, hown, hB⟩
  rw [Nat.zero_add, List.nil_append] at hown
  obtain ⟨A, c, rfl⟩ := own_shape hown
  have hcv := conv_bytes A (digs m).length c (digs m) w1 (At.of_own hown) rfl
  go_wp2
  go_ret2
  exact ⟨rfl, hB⟩

theorem number_bad (n : Int) (h : n < 0 ∨ 2147483647 < n) (w : World) :
    Calls Try.prog 9 #[.int .i64 n] w fun e w' => e = .returned (.tuple #[.string (bstr []), .int .i64 1]) ∧ w = w' := by
  go_enter Try.func9, Try.ntmps9
  go_wp2_with fail
  refine (may_no n w h).mono ?_
  rintro e w1 ⟨rfl, rfl⟩
  go_wp2
  go_ret2
  exact ⟨rfl, rfl⟩

theorem text_ok (s : ByteArray) (hs : s.size ≤ 4000) (w : World) :
    Calls Try.prog 11 #[.string s] w fun e w' => e = .returned (.tuple #[.string (bstr (digs s.size) ++ s), .int .i64 0]) ∧ Below w.heap.size w w' := by
  go_enter Try.func11, Try.ntmps11
  go_wp2_with fail
  refine (lay_any w.heap.size 0 s.size (by omega) (by omega) _ [] w (World.ownsRow_nil _ _ _ _) (Nat.le_refl _)).mono ?_
  rintro e w1 ⟨v, rfl, hown, hB⟩
  rw [Nat.zero_add, List.nil_append] at hown
  obtain ⟨A, c, rfl⟩ := own_shape hown
  have hcv := conv_bytes A (digs s.size).length c (digs s.size) w1 (At.of_own hown) rfl
  have hdl := digs_length s.size (by omega)
  have hbs := bstr_size (digs s.size)
  have hadd := run_string_add_sum (P := Try.prog) w1 (bstr (digs s.size)) s (by omega)
  clear hbs
  go_wp2
  go_ret2
  exact ⟨rfl, hB⟩

theorem text_bad (s : ByteArray) (hs : 4000 < s.size) (hm : s.size ≤ 9223372036854775807) (w : World) :
    Calls Try.prog 11 #[.string s] w fun e w' => e = .returned (.tuple #[.string (bstr []), .int .i64 2]) ∧ w = w' := by
  go_enter Try.func11, Try.ntmps11
  go_wp2
  go_ret2
  exact ⟨rfl, rfl⟩
end Go.Proofs.Ytbgklmekeafmeaa
