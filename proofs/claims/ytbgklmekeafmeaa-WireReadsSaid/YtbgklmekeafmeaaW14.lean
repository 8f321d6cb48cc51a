import Derived.Test.YtbgklmekeafmeaaW13
namespace Go.Proofs.Ytbgklmekeafmeaa
open Go.RowKit

theorem refNumber_bad (n : Int) (h : n < 0 ∨ 2147483647 < n) (w : World) :
    Calls Try.prog 10 #[.int .i64 n] w fun e w' => e = .returned (.tuple #[.string (bstr []), .int .i64 1]) ∧ Below w.heap.size w w' := by
  rcases Classical.em (n < 0) with h1 | h1
  · clear h
    go_enter Try.func10, Try.ntmps10
    go_wp2
    go_ret2
    exact ⟨rfl, Below.refl _ _⟩
  · have h2 : 2147483647 < n := by omega
    clear h
    go_enter Try.func10, Try.ntmps10
    go_wp2
    go_ret2
    exact ⟨rfl, Below.refl _ _⟩

theorem refText_ok (s : ByteArray) (hs : s.size ≤ 4000) (w : World) :
    Calls Try.prog 12 #[.string s] w fun e w' => e = .returned (.tuple #[.string (bstr (digs s.size) ++ s), .int .i64 0]) ∧ Below w.heap.size w w' := by
  go_enter Try.func12, Try.ntmps12
  go_wp2_with fail
  refine (refNumber_ok s.size (by omega) w).mono ?_
  rintro e w1 ⟨rfl, hB⟩
  have hdl := digs_length s.size (by omega)
  have hbs := bstr_size (digs s.size)
  have hadd := run_string_add_sum (P := Try.prog) w1 (bstr (digs s.size)) s (by omega)
  clear hbs
  go_wp2
  go_ret2
  exact ⟨rfl, hB⟩

theorem refText_bad (s : ByteArray) (hs : 4000 < s.size) (hm : s.size ≤ 9223372036854775807) (w : World) :
    Calls Try.prog 12 #[.string s] w fun e w' => e = .returned (.tuple #[.string (bstr []), .int .i64 2]) ∧ Below w.heap.size w w' := by
  go_enter Try.func12, Try.ntmps12
  go_wp2
  go_ret2
  exact ⟨rfl, Below.refl _ _⟩

theorem bstr_app (a b : List Nat) : bstr (a ++ b) = bstr a ++ bstr b := by
  simp [bstr]
  rfl

theorem refNumbers_any (A : Option Addr) (c : Nat) (l : List Int) (w : World) (hx : At w A (ints l)) (hl : l.length ≤ 4000) :
    Calls Try.prog 14 #[.slice A l.length c] w fun e w' => (((∀ x ∈ l, okNum x) ∧ e = .returned (.tuple #[.string (bstr (numsB l)), .int .i64 0])) ∨
      (¬ (∀ x ∈ l, okNum x) ∧ e = .returned (.tuple #[.string (bstr []), .int .i64 1]))) ∧ Below w.heap.size w w' := by
  go_enter Try.func14, Try.ntmps14
  go_wp2_with fail
  refine (refNumber_ok l.length (by omega) w).mono ?_
  rintro e w1 ⟨rfl, hB⟩
  go_wp2
  go_loopw [4, 6] (fun v i wr => ∃ k : Nat, k ≤ l.length ∧ i = .int .i64 k ∧ Hid (∀ x ∈ l.take k, okNum x) ∧ v = .string (bstr (digs l.length ++ rowB (l.take k))) ∧ Below w.heap.size w wr) (fun _ i _ => l.length - (intOf i).toNat)
  case atStart => exact ⟨0, by omega, rfl, (by intro x hx; simp at hx : ∀ x ∈ l.take 0, okNum x), by simp [rowB], hB⟩
  case round =>
    obtain ⟨k, hk, rfl, HV, rfl, hB⟩ := hrel
    have hsz := hB.size
    by_cases hlt : k < l.length
    · obtain ⟨b, off, rfl, hb1, hc1⟩ := (hx.below hB).int hlt
      by_cases hv : okNum l[k]
      · have hlen := rowB_length (l.take k) HV.out
        have hdl := digs_length l.length (by omega)
        have hb2 : (digs l.length ++ rowB (l.take k)).length ≤ 1000000 := by
          rw [List.length_append]
          have : (l.take k).length ≤ k := List.length_take_le _ _
          omega
        obtain ⟨m, hm⟩ := Int.eq_ofNat_of_zero_le hv.1
        have hm2 : m ≤ 2147483647 := by have := hv.2; omega
        rw [hm] at hc1
        have HM := Lib.hid hm
        have hdm := digs_length m hm2
        clear hm hv hlen hdl
        generalize hX : digs l.length ++ rowB (l.take k) = X at *
        have HX := Lib.hid hX
        clear hX
        go_wp2_with fail
        refine (refNumber_ok m hm2 wr).mono ?_
        rintro e w2 ⟨rfl, hB2⟩
        have hadd := run_string_add_sum (P := Try.prog) w2 (bstr X) (bstr (digs m)) (by rw [bstr_size, bstr_size]; omega)
        go_wp2
        go_roundw
        case rel =>
          refine ⟨k + 1, by omega, by go_num, ?_, ?_, hB.trans (hB2.mono hsz)⟩
          · intro x hx
            rw [List.take_succ_eq_append_getElem hlt] at hx
            rcases List.mem_append.1 hx with h | h
            · exact HV.out x h
            · simp at h; subst h
              rw [HM.out]; exact ⟨by omega, by omega⟩
          · rw [List.take_succ_eq_append_getElem hlt, rowB_snoc, HM.out, Int.toNat_natCast, ← List.append_assoc, HX.out, bstr_app]
        case measure => simp [intOf]; omega
      · have HN : Hid (¬ ∀ x ∈ l, okNum x) := fun h => hv (h _ (List.getElem_mem hlt))
        have hv2 : l[k] < 0 ∨ 2147483647 < l[k] := by unfold okNum at hv; omega
        clear hv
        go_wp2_with fail
        refine (refNumber_bad l[k] hv2 wr).mono ?_
        rintro e w2 ⟨rfl, hB2⟩
        clear hv2
        go_wp2
        go_ret2
        exact ⟨.inr ⟨HN.out, rfl⟩, hB.trans (hB2.mono hsz)⟩
    · have hkk : k = l.length := by omega
      subst hkk
      rw [List.take_length]
      have HV2 : Hid (∀ x ∈ l, okNum x) := by have := HV.out; rwa [List.take_length] at this
      clear HV
      go_wp2
      go_ret2
      exact ⟨.inl ⟨HV2.out, rfl⟩, hB⟩

theorem refNumbers_long (A : Option Addr) (n c : Nat) (hn : 4000 < n) (hm : n ≤ 9223372036854775807) (w : World) :
    Calls Try.prog 14 #[.slice A n c] w fun e w' => e = .returned (.tuple #[.string (bstr []), .int .i64 2]) ∧ Below w.heap.size w w' := by
  go_enter Try.func14, Try.ntmps14
  go_wp2
  go_ret2
  exact ⟨rfl, Below.refl _ _⟩
end Go.Proofs.Ytbgklmekeafmeaa
