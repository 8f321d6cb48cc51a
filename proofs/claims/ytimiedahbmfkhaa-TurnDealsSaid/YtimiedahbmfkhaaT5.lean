import Derived.Test.YtimiedahbmfkhaaT4
namespace Go.Proofs.Ytimiedahbmfkhaa
open Go.RowKit

theorem info_bool : (Try.prog.info? 4).map (fun i => (i.zero, i.size, i.bytes)) = some (some (.bool false), 1, 1) := by kernel_rfl

theorem cons_erase_perm {α : Type} (xs : List α) (i : Nat) (h : i < xs.length) : (xs[i] :: xs.eraseIdx i).Perm xs := by
  rw [List.eraseIdx_eq_take_drop_succ]
  refine List.perm_middle.symm.trans ?_
  rw [List.getElem_cons_drop h, List.take_append_drop]

theorem orderedL_perm {α : Type} (xs : List α) (ps : List Int) : (orderedL xs ps).Perm xs := by
  induction ps generalizing xs with
  | nil => simp [orderedL]
  | cons p ps ih =>
    rcases Nat.eq_zero_or_pos xs.length with h | h
    · have : xs = [] := List.eq_nil_of_length_eq_zero h
      subst this
      simp [orderedL_nil]
    · have := pickAt_lt p h
      rw [orderedL_cons xs p ps this]
      exact ((ih _).cons _).trans (cons_erase_perm xs _ this)

def seenRow (n : Nat) (l : List Int) : List Value := List.map (fun i : Nat => Value.bool (decide ((i : Int) ∈ l))) (List.range n)

theorem seenRow_get (n : Nat) (l : List Int) (i : Nat) (h : i < n) : (seenRow n l)[i]? = some (.bool (decide ((i : Int) ∈ l))) := by
  simp [seenRow, h]

theorem seenRow_snoc (n : Nat) (l : List Int) (m : Nat) : (seenRow n l).set m (.bool true) = seenRow n (l ++ [(m : Int)]) := by
  apply List.ext_getElem?
  intro i
  by_cases hi : i < n
  · rw [seenRow_get _ _ _ hi]
    by_cases hm : m = i
    · subst hm
      rw [List.getElem?_set_self (by simpa [seenRow] using hi)]
      simp
    · rw [List.getElem?_set_ne hm, seenRow_get _ _ _ hi]
      have : ((i : Int) = (m : Int)) ↔ False := ⟨fun h => hm (by omega), False.elim⟩
      simp [this]
  · have h1 : (seenRow n (l ++ [(m : Int)])).length = n := by simp [seenRow]
    have h2 : ((seenRow n l).set m (.bool true)).length = n := by simp [seenRow]
    rw [List.getElem?_eq_none (by omega), List.getElem?_eq_none (by omega)]

theorem seenRow_nil (n : Nat) : (madeCells (Value.bool false).cells (n * 1)).toList = seenRow n [] := by
  have : (Value.bool false).cells = #[.bool false] := rfl
  rw [this, toList_madeCells_one, Nat.mul_one]
  apply List.ext_getElem?
  intro i
  by_cases hi : i < n
  · rw [seenRow_get _ _ _ hi]; simp [hi]
  · have : (seenRow n []).length = n := by simp [seenRow]
    rw [List.getElem?_eq_none (by simp; omega), List.getElem?_eq_none (by omega)]

set_option maxHeartbeats 1000000 in
theorem is_perm (A : Option Addr) (c n : Nat) (l : List Int) (w : World) (hx : At w A (ints l)) (hl : l.length = n) (hn : n ≤ 1000000) (hnd : l.Nodup) (hin : ∀ x ∈ l, 0 ≤ x ∧ x < (n : Int)) :
    Calls Try.prog 22 #[.slice A n c, .int .i64 n] w fun e w' => e = .returned (.bool true) ∧ Below w.heap.size w w' := by
  have hb : ((n : Int) != (n : Int)) = false := by simp
  go_enter Try.func22, Try.ntmps22
  go_wp2_with (at_make; refine wpList_mk rfl _ _ 51 rfl 4 (.bool false) 1 1 Try.underlying51 info_bool n rfl rfl (by omega) (by simp only [maxLen]; omega) ?_; intro w1 H1 hg1 Hs1)
  have hB1 : Below w.heap.size w w1 := (Below.refl _ _).grown hg1 (Nat.le_refl _) (by simp)
  go_loopw [16] (fun i wr => ∃ k : Nat, k ≤ n ∧ i = .int .i64 k ∧ Hid (Row wr w.heap.size 4 (seenRow n (l.take k))) ∧ Below w.heap.size w wr) (fun i _ => n - (intOf i).toNat)
  case atStart => exact ⟨0, Nat.zero_le _, rfl, by rw [List.take_zero, ← seenRow_nil]; exact H1.out, hB1⟩
  case round =>
    obtain ⟨k, hk, rfl, HR, hB⟩ := hrel
    by_cases hlt : k < n
    · have hkl : k < l.length := by omega
      have hmem := hin l[k] (List.getElem_mem hkl)
      obtain ⟨m, hm⟩ := Int.eq_ofNat_of_zero_le hmem.1
      obtain ⟨b, off, rfl, hb1, hc1⟩ := (hx.below hB).int hkl
      rw [hm] at hc1
      have hmn : m < n := by have := hmem.2; omega
      have hnot : ¬ (m : Int) ∈ l.take k := by
        intro h
        obtain ⟨j, hj, he⟩ := List.getElem_of_mem h
        have hjk : j < k := by simp at hj; omega
        rw [List.getElem_take] at he
        exact List.pairwise_iff_getElem.1 hnd j k (by omega) hkl hjk (by rw [he, hm])
      have hcs : wr.cell? ⟨w.heap.size, m, none⟩ = some (.bool false) := by
        rw [HR.out.cell, seenRow_get _ _ _ hmn]
        simp [hnot]
      have hfs : wr.frozen? ⟨w.heap.size, m, none⟩ = false := HR.out.free m
      have HM := Lib.hid hm
      have hm0 : 0 ≤ (m : Int) := by omega
      have hm1 : (m : Int) < (n : Int) := by omega
      clear hm hmem hnot
      go_wp2
      go_roundw
      case rel =>
        refine ⟨k + 1, by omega, by go_num, ?_, hB.setCell (p := ⟨w.heap.size, m, none⟩) (Nat.le_refl _) _⟩
        have := HR.out.setCell m (.bool true)
        rw [seenRow_snoc] at this
        rw [List.take_succ_eq_append_getElem hkl, HM.out]
        exact this
      case measure => simp [intOf]; omega
    · go_wp2
      go_ret
      exact ⟨rfl, hB⟩

theorem upto_nodup (n : Nat) : (upto n).Nodup := by
  unfold upto
  refine List.pairwise_map.2 ?_
  refine List.Pairwise.imp ?_ List.nodup_range
  intro a b h
  omega

theorem upto_mem (n : Nat) (x : Int) : x ∈ upto n ↔ 0 ≤ x ∧ x < (n : Int) := by
  unfold upto
  simp only [List.mem_map, List.mem_range]
  constructor
  · rintro ⟨a, ha, rfl⟩; omega
  · rintro ⟨h1, h2⟩; exact ⟨x.toNat, by omega, by omega⟩

set_option maxHeartbeats 2000000 in
theorem whole_walk (n : Int) (A : Option Addr) (len c : Nat) (ps : List Int) (w : World) (hn : i64 n) (hl : ps.length = len) (hp : At w A (ints ps)) (hpw : ∀ p ∈ ps, i64 p) (hpm : len ≤ 9223372036854775807) :
    Calls Try.prog 4 #[.int .i64 n, .slice A len c] w fun e w' => e = .returned (.bool true) ∧ Below w.heap.size w w' := by
  subst hl
  obtain ⟨hn1, hn2⟩ := hn
  by_cases h1 : 100 < n
  · go_enter Try.func4, Try.ntmps4
    go_wp2
    go_ret
    exact ⟨rfl, Below.refl _ _⟩
  by_cases h2 : 150 < ps.length
  · go_enter Try.func4, Try.ntmps4
    go_wp2
    go_ret
    exact ⟨rfl, Below.refl _ _⟩
  have h3 : n ≤ 100 := by omega
  have h4 : ps.length ≤ 150 := by omega
  clear h1 h2
  by_cases h5 : n < 0
  · have hne : ((1 : Int) != 0) = true := by decide
    go_enter Try.func4, Try.ntmps4
    go_wp2_with fail
    refine (order_bad n _ w (.inl h5)).mono ?_
    rintro e w1 ⟨rfl, rfl⟩
    go_wp2_with fail
    refine (order_bad n _ w (.inl h5)).mono ?_
    rintro e w1 ⟨rfl, rfl⟩
    go_wp2_with fail
    refine (turns_any w).mono ?_
    rintro e w1 ⟨rfl, hB⟩
    go_wp2
    go_ret
    exact ⟨rfl, hB⟩
  · have h6 : 0 ≤ n := by omega
    obtain ⟨m, rfl⟩ := Int.eq_ofNat_of_zero_le h6
    clear h5 h6
    have hpB : ∀ a, A = some a → 0 < ps.length → a.block < w.heap.size := by simpa using hp.lt
    go_enter Try.func4, Try.ntmps4
    go_wp2_with fail
    refine (order_ex m A c ps.length ps (orderedL (upto m) ps) w (by omega) rfl hp hpm hpw hpB rfl).mono ?_
    rintro e w1 ⟨A1, c1, rfl, a1, hB1, _⟩
    have s1 := hB1.size
    go_wp2_with fail
    refine (order_ex m none 0 0 [] (upto m) w1 (by omega) rfl (At.nil _ _) (by decide) (by decide) (by intro a h; cases h) (by simp [orderedL])).mono ?_
    rintro e w2 ⟨A2, c2, rfl, a2, hB2, _⟩
    have s2 := hB2.size
    have hB02 := hB1.trans (hB2.mono s1)
    have Hul := Lib.hid (upto_length m)
    go_wp2
    go_loop [9] (fun i => ∃ k : Nat, k ≤ m ∧ i = .int .i64 k) (fun i => m - (intOf i).toNat)
    case atStart => exact ⟨0, Nat.zero_le _, rfl⟩
    case round =>
      obtain ⟨k, hk, rfl⟩ := hrel
      by_cases hlt : k < m
      · obtain ⟨b, off, rfl, hb1, hc1⟩ := a2.int (k := k) (by rw [Hul.out]; exact hlt)
        have hv : (upto m)[k]'(by rw [Hul.out]; exact hlt) = (k : Int) := by simp [upto]
        rw [hv] at hc1
        have hkk : ((k : Int) != (k : Int)) = false := by simp
        go_wp2
        go_round
        case rel => exact ⟨k + 1, by omega, by go_num⟩
        case measure => simp [intOf]; omega
      · have hkm : k = m := by omega
        subst hkm
        have hkk : ((k : Int) == (k : Int)) = true := by simp
        go_wp2_with fail
        refine (turns_any w2).mono ?_
        rintro e w3 ⟨rfl, hB3⟩
        have s3 := hB3.size
        have hper := orderedL_perm (upto k) ps
        go_wp2_with fail
        refine (is_perm A1 c1 k (orderedL (upto k) ps) w3 ((a1.below hB2).below hB3) (by rw [orderedL_length, upto_length]) (by omega) (hper.nodup_iff.2 (upto_nodup k)) (fun x hx => (upto_mem k x).1 (hper.mem_iff.1 hx))).mono ?_
        rintro e w4 ⟨rfl, hB4⟩
        go_wp2
        go_ret
        exact ⟨rfl, (hB02.trans (hB3.mono (by omega))).trans (hB4.mono (by omega))⟩
end Go.Proofs.Ytimiedahbmfkhaa
