import Derived.Test.YtbgklmekeafmeaaW2
namespace Go.Proofs.Ytbgklmekeafmeaa
open Go.RowKit

def okNum (x : Int) : Prop := 0 ≤ x ∧ x ≤ 2147483647
instance (x : Int) : Decidable (okNum x) := by unfold okNum; infer_instance

def rowB (l : List Int) : List Nat := l.flatMap (fun x => digs x.toNat)
def numsB (l : List Int) : List Nat := digs l.length ++ rowB l

theorem rowB_snoc (l : List Int) (x : Int) : rowB (l ++ [x]) = rowB l ++ digs x.toNat := by simp [rowB]

theorem rowB_length (l : List Int) (h : ∀ x ∈ l, okNum x) : (rowB l).length ≤ 5 * l.length := by
  induction l with
  | nil => simp [rowB]
  | cons x l ih =>
    have h1 := ih (fun y hy => h y (List.mem_cons_of_mem _ hy))
    have h2 := h x List.mem_cons_self
    have h3 := digs_length x.toNat (by have := h2.2; omega)
    simp only [rowB, List.flatMap_cons, List.length_append, List.length_cons] at h1 ⊢
    omega

set_option maxHeartbeats 1000000 in
theorem numbers_any (A : Option Addr) (c : Nat) (l : List Int) (w : World) (hx : At w A (ints l)) (hl : l.length ≤ 4000) :
    Calls Try.prog 13 #[.slice A l.length c] w fun e w' => (((∀ x ∈ l, okNum x) ∧ e = .returned (.tuple #[.string (bstr (numsB l)), .int .i64 0])) ∨
      (¬ (∀ x ∈ l, okNum x) ∧ e = .returned (.tuple #[.string (bstr []), .int .i64 1]))) ∧ Below w.heap.size w w' := by
  go_enter Try.func13, Try.ntmps13
  go_wp2_with fail
  refine (lay_any w.heap.size 0 l.length (by omega) (by omega) _ [] w (World.ownsRow_nil _ _ _ _) (Nat.le_refl _)).mono ?_
  rintro e w1 ⟨v, rfl, hown, hB⟩
  rw [Nat.zero_add, List.nil_append] at hown
  go_wp2
  go_loopw [4, 15] (fun v i wr => ∃ k : Nat, k ≤ l.length ∧ i = .int .i64 k ∧ Hid (∀ x ∈ l.take k, okNum x) ∧ wr.ownsRow w.heap.size 5 1 v (digs l.length ++ rowB (l.take k)).length (u8s (digs l.length ++ rowB (l.take k))) ∧ Below w.heap.size w wr) (fun _ i _ => l.length - (intOf i).toNat)
  case atStart => exact ⟨0, by omega, rfl, (by intro x hx; simp at hx : ∀ x ∈ l.take 0, okNum x), by simpa [rowB] using hown, hB⟩
  case round =>
    obtain ⟨k, hk, rfl, HV, hown, hB⟩ := hrel
    have hsz := hB.size
    by_cases hlt : k < l.length
    · obtain ⟨b, off, rfl, hb1, hc1⟩ := (hx.below hB).int hlt
      by_cases hv : okNum l[k]
      · have hlen := rowB_length (l.take k) HV.out
        have hdl := digs_length l.length (by omega)
        have hb2 : (digs l.length ++ rowB (l.take k)).length ≤ 1000000 := by
          rw [List.length_append]
          have : (l.take k).length ≤ k := List.length_take_le _ _
          omega
        obtain ⟨m, hm⟩ := Int.eq_ofNat_of_zero_le hv.1
        have hm2 : m ≤ 2147483647 := by have := hv.2; omega
        rw [hm] at hc1
        have HM := Lib.hid hm
        clear hm hv hlen hdl
        go_wp2_with fail
        refine (may_yes m wr (by omega) (by omega)).mono ?_
        rintro e w2 ⟨rfl, rfl⟩
        go_wp2_with fail
        refine (lay_any w.heap.size _ m hm2 hb2 _ _ wr hown hsz).mono ?_
        rintro e w2 ⟨v2, rfl, hown2, hB2⟩
        go_wp2
        go_roundw
        case rel =>
          refine ⟨k + 1, by omega, by go_num, ?_, ?_, hB.trans hB2⟩
          · intro x hx
            rw [List.take_succ_eq_append_getElem hlt] at hx
            rcases List.mem_append.1 hx with h | h
            · exact HV.out x h
            · simp at h; subst h
              rw [HM.out]; exact ⟨by omega, by omega⟩
          · rw [List.take_succ_eq_append_getElem hlt, rowB_snoc, HM.out, Int.toNat_natCast, ← List.append_assoc]
            rw [List.length_append]
            exact hown2
        case measure => simp [intOf]; omega
      · have HN : Hid (¬ ∀ x ∈ l, okNum x) := fun h => hv (h _ (List.getElem_mem hlt))
        have hv2 : l[k] < 0 ∨ 2147483647 < l[k] := by unfold okNum at hv; omega
        clear hv
        go_wp2_with fail
        refine (may_no l[k] wr hv2).mono ?_
        rintro e w2 ⟨rfl, rfl⟩
        clear hv2
        go_wp2
        go_ret2
        exact ⟨.inr ⟨HN.out, rfl⟩, hB⟩
    · have hkk : k = l.length := by omega
      subst hkk
      rw [List.take_length] at hown
      have HV2 : Hid (∀ x ∈ l, okNum x) := by have := HV.out; rwa [List.take_length] at this
      obtain ⟨A2, c2, rfl⟩ := own_shape hown
      have hcv := conv_bytes A2 (digs l.length ++ rowB l).length c2 (digs l.length ++ rowB l) wr (At.of_own hown) rfl
      generalize (digs l.length ++ rowB l).length = nn at *
      go_wp2
      go_ret2
      exact ⟨.inl ⟨HV2.out, rfl⟩, hB⟩

theorem numbers_long (A : Option Addr) (c n : Nat) (w : World) (hl : 4000 < n) (hn : n ≤ 9223372036854775807) :
    Calls Try.prog 13 #[.slice A n c] w fun e w' => e = .returned (.tuple #[.string (bstr []), .int .i64 2]) ∧ w = w' := by
  go_enter Try.func13, Try.ntmps13
  go_wp2
  go_ret2
  exact ⟨rfl, rfl⟩
end Go.Proofs.Ytbgklmekeafmeaa
