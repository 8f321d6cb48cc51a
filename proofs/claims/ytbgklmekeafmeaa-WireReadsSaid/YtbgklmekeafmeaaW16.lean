import Derived.Test.YtbgklmekeafmeaaW15
namespace Go.Proofs.Ytbgklmekeafmeaa
open Go.RowKit

theorem refNumber_okI (n : Int) (m : Nat) (h : n = m) (hm : m ≤ 2147483647) (w : World) :
    Calls Try.prog 10 #[.int .i64 n] w fun e w' => e = .returned (.tuple #[.string (bstr (digs m)), .int .i64 0]) ∧ Below w.heap.size w w' := by
  subst h
  exact refNumber_ok m hm w

theorem num_hit {s : ByteArray} {a p M : Nat} (hap : a ≤ p) (hps : p < s.size) (hT : M ≤ 2147483647) (heq : bstr (digs M) = s.extract a (p + 1)) :
    Rd ((sb s).drop a) M ∧ p + 1 = a + (digs M).length := by
  have h := congrArg sb heq
  rw [sb_bstr _ (digs_lt _), sb_extract] at h
  refine ⟨⟨hT, by rw [h]; exact List.take_prefix _ _⟩, ?_⟩
  have h2 := congrArg List.length h
  rw [List.length_take, List.length_drop, sb_length] at h2
  omega

theorem num_miss {s : ByteArray} {at_ i p N W b m : Nat} (hp : p = at_ + i) (hps : p < s.size) (hN : N = val (((sb s).drop at_).take i)) (hW : W = 128 ^ i)
    (hL : ∀ x ∈ ((sb s).drop at_).take i, 128 ≤ x) (hb : s[p].toNat = b) (hm : m = b % 128 * W) (hb1 : b < 128)
    (hT : 2147483647 < N + m ∨ bstr (digs (N + m)) ≠ s.extract at_ (p + 1)) : ¬ ∃ n, Rd ((sb s).drop at_) n := by
  have hl : i < ((sb s).drop at_).length := by rw [List.length_drop, sb_length]; omega
  have hg : ((sb s).drop at_)[i] = b := by
    rw [List.getElem_drop]
    subst hp
    rw [sb_get s _ hps, hb]
  have hs := split_at hl hg
  have hlen : (((sb s).drop at_).take i).length = i := by rw [List.length_take]; omega
  have hval : N + m = val (((sb s).drop at_).take i ++ [b]) := by rw [val_snoc, hlen, ← hN, hm, hW]
  rintro ⟨n, hn⟩
  have hn2 := hn
  rw [hs] at hn2
  obtain ⟨h1, h2, _⟩ := rd_of _ b _ hL hb1 hn2
  rw [← hval] at h2
  rcases hT with h | h
  · have := hn.1
    omega
  · apply h
    apply sb_inj
    rw [sb_bstr _ (digs_lt _), sb_extract, ← h2, h1, show p + 1 - at_ = i + 1 by omega, List.take_succ_eq_append_getElem hl, hg]

theorem num_over {s : ByteArray} {at_ i p : Nat} (hp : p = at_ + i) (hL : ∀ x ∈ ((sb s).drop at_).take i, 128 ≤ x) (h : s.size ≤ p ∨ i = 5) (hps : p ≤ s.size) : ¬ ∃ n, Rd ((sb s).drop at_) n := by
  rintro ⟨n, hn⟩
  have hbl : ((sb s).drop at_).length = s.size - at_ := by rw [List.length_drop, sb_length]
  rcases h with h | h
  · rw [List.take_of_length_le (by omega)] at hL
    exact rd_none_all _ hL n hn
  · subst h
    rw [← List.take_append_drop 5 ((sb s).drop at_)] at hn
    exact rd_none_five _ _ hL (by rw [List.length_take]; omega) n hn

theorem rn_yes {s : ByteArray} {a M x : Nat} {w w' : World} (ha : a ≤ s.size) (h : Rd ((sb s).drop a) M ∧ x = a + (digs M).length) (hB : Below w.heap.size w w') :
    RnPost s a w (.returned (.tuple #[.int .i64 (M : Nat), .int .i64 (x : Nat), .bool true])) w' := ⟨.inl ⟨M, x, (rdAt_nat ha M x).2 h, rfl⟩, hB⟩

theorem rn_no {s : ByteArray} {a : Nat} {w w' : World} (ha : a ≤ s.size) (h : ¬ ∃ n, Rd ((sb s).drop a) n) (hB : Below w.heap.size w w') :
    RnPost s a w (.returned (.tuple #[.int .i64 0, .int .i64 0, .bool false])) w' := by
  refine ⟨.inr ⟨?_, rfl⟩, hB⟩
  rintro ⟨n, x, hx⟩
  exact h ⟨n, ((rdAt_nat ha n x).1 hx).1⟩

set_option maxHeartbeats 4000000 in
set_option maxRecDepth 100000 in
theorem refReadNat (s : ByteArray) (a : Nat) (w : World) (hs : s.size ≤ 1000000000) (ha : a ≤ s.size) :
    Calls Try.prog 18 #[.string s, .int .i64 a] w fun e w' => RnPost s a w e w' := by
  go_enter Try.func18, Try.ntmps18
  go_wp2
  go_loopw [7, 8, 9] (fun n wt iv wr => ∃ i p N W : Nat, n = .int .i64 N ∧ wt = .int .i64 W ∧ iv = .int .i64 p ∧ i ≤ 5 ∧ p ≤ s.size ∧ a ≤ p ∧ Hid (p = a + i) ∧ Hid (N = val (((sb s).drop a).take i)) ∧ Hid (W = 128 ^ i) ∧ Hid (∀ x ∈ ((sb s).drop a).take i, 128 ≤ x) ∧
      Below w.heap.size w wr) (fun _ _ iv _ => s.size - (intOf iv).toNat)
  case atStart => exact ⟨0, a, 0, 1, rfl, rfl, rfl, by omega, ha, Nat.le_refl _, rfl, rfl, rfl, (by intro x hx; simp at hx : ∀ x ∈ ((sb s).drop a).take 0, 128 ≤ x), Below.refl _ _⟩
  case round =>
    obtain ⟨i, p, N, W, rfl, rfl, rfl, hi, hps, hap, HP, HN, HW, HL, hB⟩ := hrel
    have hbl : ((sb s).drop a).length = s.size - a := by rw [List.length_drop, sb_length]
    have HBL := Lib.hid hbl
    have hsz := hB.size
    clear hbl
    by_cases h5 : i < 5
    · have hW : W ≤ 268435456 := by rw [HW.out]; exact pow128 i h5
      have hW0 : 0 < W := by rw [HW.out]; exact Nat.pow_pos (by omega)
      have hNlt : N < W := by
        rw [HN.out, HW.out]
        have := val_lt (((sb s).drop a).take i)
        rw [List.length_take, HBL.out] at this
        refine Nat.lt_of_lt_of_le this (Nat.pow_le_pow_right (by omega) ?_)
        omega
      have d5 : decide ((p : Int) < (a : Int) + 5) = true := by have := HP.out; simp; omega
      by_cases hend : p < s.size
      · obtain ⟨b, hb⟩ : ∃ b, s[p].toNat = b := ⟨_, rfl⟩
        have hb256 : b < 256 := by rw [← hb]; exact UInt8.toNat_lt _
        obtain ⟨m, hm⟩ : ∃ m, m = b % 128 * W := ⟨_, rfl⟩
        have hm1 : m ≤ 127 * 268435456 := by rw [hm]; exact Nat.mul_le_mul (by omega) hW
        have hprod : (W : Int) * ((b : Int) % 128) = (m : Int) := by rw [hm, Int.natCast_mul, Int.mul_comm]; rfl
        have HM := Lib.hid hm
        have HB := Lib.hid hb
        clear hm
        by_cases hb1 : b < 128
        · by_cases hT : N + m ≤ 2147483647
          · have HNO : Hid (bstr (digs (N + m)) ≠ s.extract a (p + 1) → ¬ ∃ n, Rd ((sb s).drop a) n) := fun h => num_miss HP.out hend HN.out HW.out HL.out HB.out HM.out hb1 (.inr h)
            go_wp2_with fail
            refine (refNumber_okI _ (N + m) (by omega) hT wr).mono ?_
            rintro e w2 ⟨rfl, hB2⟩
            obtain ⟨X, hX⟩ : ∃ X, bstr (digs (N + m)) = X := ⟨_, rfl⟩
            rw [hX] at HNO ⊢
            have HX := Lib.hid hX
            clear hX
            obtain ⟨Y, hY⟩ : ∃ Y, s.extract a (p + 1) = Y := ⟨_, rfl⟩
            rw [hY] at HNO
            by_cases he : X = Y
            · have q : (X.toList == (s.extract a (p + 1)).toList) = true := by rw [hY, he]; simp
              have HY : Hid (bstr (digs (N + m)) = s.extract a (p + 1)) := by show _ = _; rw [HX.out, he, hY]
              clear he hY HNO
              go_wp2
              go_ret3
              exact rn_yes (x := p + 1) ha (num_hit hap hend hT HY.out) (hB.trans (hB2.mono hsz))
            · have q : (X.toList == (s.extract a (p + 1)).toList) = false := by
                rw [hY]
                exact toList_beq _ _ _ (iff_of_false he (by simp))
              have HY := Lib.hid (HNO.out he)
              clear he hY HNO
              go_wp2
              go_ret3
              exact rn_no ha HY.out (hB.trans (hB2.mono hsz))
          · have HNO := Lib.hid (num_miss HP.out hend HN.out HW.out HL.out HB.out HM.out hb1 (.inl (show 2147483647 < N + m by omega)))
            go_wp2_with fail
            refine (refNumber_bad _ (.inr (by omega)) wr).mono ?_
            rintro e w2 ⟨rfl, hB2⟩
            go_wp2
            go_ret3
            exact rn_no ha HNO.out (hB.trans (hB2.mono hsz))
        · have hli : i < ((sb s).drop a).length := by rw [HBL.out]; have := HP.out; omega
          have hgi : ((sb s).drop a)[i] = b := by
            rw [List.getElem_drop, ← HB.out]
            have := HP.out
            subst this
            rw [sb_get s _ hend]
          have hlen : (((sb s).drop a).take i).length = i := by rw [List.length_take]; omega
          have HT : Hid (((sb s).drop a).take (i + 1) = ((sb s).drop a).take i ++ [b]) := by show _ = _; rw [List.take_succ_eq_append_getElem hli, hgi]
          have HLEN := Lib.hid hlen
          clear hgi hlen hli
          go_wp2_with fail
          refine ⟨⟨i + 1, p + 1, N + m, 128 * W, by go_num, by go_num, by go_num, by omega, by omega, by omega, ?_, ?_, ?_, ?_, hB⟩, by simp [intOf]; omega⟩
          · show _ = _
            rw [HP.out, Nat.add_assoc]
          · show _ = _
            rw [HT.out, val_snoc, HLEN.out, ← HN.out, ← HW.out, HM.out]
          · show _ = _
            rw [HW.out, Nat.pow_succ, Nat.mul_comm]
          · rw [HT.out]
            intro x hx
            rcases List.mem_append.1 hx with h | h
            · exact HL.out x h
            · simp at h; omega
      · have HNO := Lib.hid (num_over HP.out HL.out (.inl (by omega)) hps)
        go_wp2_with fail
        go_ret3
        exact rn_no ha HNO.out hB
    · have hi5 : i = 5 := by omega
      have HNO := Lib.hid (num_over HP.out HL.out (.inr hi5) hps)
      have d5 : decide ((p : Int) < (a : Int) + 5) = false := by have := HP.out; simp; omega
      by_cases hend : p < s.size
      · go_wp2_with fail
        go_ret3
        exact rn_no ha HNO.out hB
      · go_wp2_with fail
        go_ret3
        exact rn_no ha HNO.out hB
end Go.Proofs.Ytbgklmekeafmeaa
