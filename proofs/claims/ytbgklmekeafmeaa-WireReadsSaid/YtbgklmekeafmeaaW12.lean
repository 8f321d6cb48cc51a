import Derived.Test.YtbgklmekeafmeaaW11
namespace Go.Proofs.Ytbgklmekeafmeaa
open Go.RowKit

theorem drop_ahead (x y z : ByteArray) : (sb (x ++ y ++ z)).drop x.size = sb y ++ sb z := by
  rw [sb_append, sb_append, List.append_assoc, ← sb_length, List.drop_left]

theorem size_app (x y : ByteArray) : (x ++ y).size = x.size + y.size := by
  rw [← sb_length, sb_append, List.length_append, sb_length, sb_length]

theorem back_number {x y z : ByteArray} {n : Nat} (hn : n ≤ 2147483647) (hy : bstr (digs n) = y) : RdAt (x ++ y ++ z) x.size n (x.size + y.size) := by
  subst hy
  refine ⟨x.size, rfl, by rw [size_app, size_app]; omega, ⟨hn, ?_⟩, by rw [bstr_size]⟩
  rw [drop_ahead, sb_bstr _ (digs_lt n)]
  exact List.prefix_append _ _

theorem rtN_unique {bs : List Nat} {n m : Nat} (h1 : RtN bs n) (h2 : RtN bs m) : n = m := rd_unique h1.1 h2.1

theorem readText_yes (s t : ByteArray) (p : Int) (x : Nat) (w : World) (hs : s.size ≤ 1000000000) (hp : i64 p) (h : RtAt s p t x) :
    Calls Try.prog 19 #[.string s, .int .i64 p] w fun e w' => e = .returned (.tuple #[.string t, .int .i64 x, .bool true]) ∧ Below w.heap.size w w' := by
  refine (readText_any s p w hs hp).mono ?_
  rintro e w' ⟨⟨u, y, h2, rfl⟩ | ⟨h2, rfl⟩, hB⟩
  · obtain ⟨a, n, ha, _, hn, rfl, rfl⟩ := h
    obtain ⟨b, m, hb, _, hm, rfl, rfl⟩ := h2
    obtain rfl : a = b := by omega
    have := rtN_unique hn hm
    subst this
    exact ⟨rfl, hB⟩
  · exact absurd ⟨t, x, h⟩ h2

theorem back_text {x y z s : ByteArray} (hs : s.size ≤ 4000) (hy : bstr (digs s.size) ++ s = y) : RtAt (x ++ y ++ z) x.size s (x.size + y.size) := by
  subst hy
  refine ⟨x.size, s.size, rfl, by rw [size_app, size_app]; omega, ⟨⟨by omega, ?_⟩, hs, ?_⟩, ?_, ?_⟩
  · rw [drop_ahead, sb_append, sb_bstr _ (digs_lt _), List.append_assoc]
    exact List.prefix_append _ _
  · rw [drop_ahead, sb_append, sb_bstr _ (digs_lt _)]
    simp only [List.length_append, sb_length]
    omega
  · apply sb_inj
    rw [sb_extract, Nat.add_sub_cancel_left, ← List.drop_drop, drop_ahead, sb_append, sb_bstr _ (digs_lt _), List.append_assoc, List.drop_left, ← sb_length s, List.take_left]
  · rw [size_app, bstr_size]
    omega

theorem readNumbers_yes (s : ByteArray) (p : Int) (l : List Nat) (x n : Nat) (w : World) (hs : s.size ≤ 1000000000) (hp : i64 p) (h : RlAt s p l x) (hn : l.length = n) :
    Calls Try.prog 21 #[.string s, .int .i64 p] w fun e w' => ∃ A c, e = .returned (.tuple #[.slice A n c, .int .i64 x, .bool true]) ∧ At w' A (ints (nums l)) ∧ Below w.heap.size w w' := by
  subst hn
  refine (readNumbers_any s p w hs hp).mono ?_
  rintro e w' ⟨⟨m, v, y, h2, hown, rfl⟩ | ⟨h2, rfl⟩, hB⟩
  · obtain ⟨a, ha, _, hn, rfl⟩ := h
    obtain ⟨b, hb, _, hm, rfl⟩ := h2
    obtain rfl : a = b := by omega
    have := rdRow_unique hn hm
    subst this
    obtain ⟨A, c, rfl⟩ := own_shape hown
    exact ⟨A, c, rfl, At.of_own hown, hB⟩
  · exact absurd ⟨l, x, h⟩ h2

theorem nums_toNat (l : List Int) (h : ∀ x ∈ l, okNum x) : nums (List.map Int.toNat l) = l := by
  unfold nums
  rw [List.map_map]
  have : ∀ x ∈ l, ((fun n : Nat => (n : Int)) ∘ Int.toNat) x = x := fun x hx => by have := (h x hx).1; simp only [Function.comp]; omega
  rw [List.map_congr_left this, List.map_id']

theorem back_row {x y z : ByteArray} {l : List Int} (h : ∀ x ∈ l, okNum x) (hl : l.length ≤ 4000) (hy : bstr (numsB l) = y) : RlAt (x ++ y ++ z) x.size (List.map Int.toNat l) (x.size + y.size) := by
  subst hy
  have e1 : seqB (List.map Int.toNat l) = rowB l := by rw [← rowB_nums, nums_toNat l h]
  have e2 : numsB l = digs (List.map Int.toNat l).length ++ seqB (List.map Int.toNat l) := by rw [e1, List.length_map]; rfl
  have hall : ∀ y ∈ numsB l, y < 256 := by
    rw [e2]
    intro y hy
    rcases List.mem_append.1 hy with h | h
    · exact digs_lt _ y h
    · simp only [seqB, List.mem_flatMap] at h
      obtain ⟨z, _, hz⟩ := h
      exact digs_lt _ y hz
  refine ⟨x.size, rfl, by rw [size_app, size_app]; omega, ⟨by simpa using hl, ?_, ?_⟩, by rw [bstr_size, e2]⟩
  · intro y hy
    simp only [List.mem_map] at hy
    obtain ⟨z, hz, rfl⟩ := hy
    have := (h z hz).2
    omega
  · rw [drop_ahead, sb_bstr _ hall, e2]
    exact List.prefix_append _ _

theorem number_bad2 (n : Int) (h : n < 0 ∨ 2147483647 < n) (w : World) :
    Calls Try.prog 9 #[.int .i64 n] w fun e w' => e = .returned (.tuple #[.string (bstr []), .int .i64 1]) ∧ Below w.heap.size w w' := by
  refine (number_bad n h w).mono ?_
  rintro e w' ⟨h, hw⟩
  subst hw
  exact ⟨h, Below.refl _ _⟩

theorem readNumber_some (s : ByteArray) (p : Int) (w : World) (hs : s.size ≤ 1000000000) (hp : i64 p) :
    Calls Try.prog 17 #[.string s, .int .i64 p] w fun e w' => ∃ x y b, e = .returned (.tuple #[.int .i64 x, .int .i64 y, .bool b]) ∧ Below w.heap.size w w' := by
  refine (readNumber_any s p w hs hp).mono ?_
  rintro e w' ⟨⟨m, y, h2, rfl⟩ | ⟨h2, rfl⟩, hB⟩
  · exact ⟨_, _, _, rfl, hB⟩
  · exact ⟨_, _, _, rfl, hB⟩

theorem readNumbers_some (s : ByteArray) (p : Int) (w : World) (hs : s.size ≤ 1000000000) (hp : i64 p) :
    Calls Try.prog 21 #[.string s, .int .i64 p] w fun e w' => ∃ A n c y b, e = .returned (.tuple #[.slice A n c, .int .i64 y, .bool b]) ∧ Below w.heap.size w w' := by
  refine (readNumbers_any s p w hs hp).mono ?_
  rintro e w' ⟨⟨m, v, y, h2, hown, rfl⟩ | ⟨h2, rfl⟩, hB⟩
  · obtain ⟨A, c, rfl⟩ := own_shape hown
    exact ⟨_, _, _, _, _, rfl, hB⟩
  · exact ⟨_, _, _, _, _, rfl, hB⟩

set_option maxHeartbeats 8000000 in
set_option maxRecDepth 100000 in
theorem back_walk (n : Int) (s : ByteArray) (A : Option Addr) (len c : Nat) (l : List Int) (ah be : ByteArray) (w : World) (hn : i64 n) (hs : s.size ≤ maxLen) (hl : l.length = len) (hx : At w A (ints l)) (hlm : len ≤ 9223372036854775807)
    (hah : ah.size ≤ maxLen) (hbe : be.size ≤ maxLen) :
    Calls Try.prog 5 #[.int .i64 n, .string s, .slice A len c, .string ah, .string be] w fun e w' => e = .returned (.bool true) ∧ Below w.heap.size w w' := by
  subst hl
  unfold maxLen at hs hah hbe
  obtain ⟨hn1, hn2⟩ := hn
  by_cases h1 : 500 < s.size
  · go_enter Try.func5, Try.ntmps5
    go_wp2
    go_ret
    exact ⟨rfl, Below.refl _ _⟩
  have gh1 : s.size ≤ 500 := by omega
  clear h1
  by_cases h2 : 100 < l.length
  · go_enter Try.func5, Try.ntmps5
    go_wp2
    go_ret
    exact ⟨rfl, Below.refl _ _⟩
  have gh2 : l.length ≤ 100 := by omega
  clear h2
  by_cases h3 : 100 < ah.size
  · go_enter Try.func5, Try.ntmps5
    go_wp2
    go_ret
    exact ⟨rfl, Below.refl _ _⟩
  have gh3 : ah.size ≤ 100 := by omega
  clear h3
  by_cases h4 : 100 < be.size
  · go_enter Try.func5, Try.ntmps5
    go_wp2
    go_ret
    exact ⟨rfl, Below.refl _ _⟩
  have gh4 : be.size ≤ 100 := by omega
  clear h4
  go_enter Try.func5, Try.ntmps5
  go_wp2_with fail
  by_cases hok : okNum n
  · obtain ⟨m, rfl⟩ := Int.eq_ofNat_of_zero_le hok.1
    have hm : m ≤ 2147483647 := by have := hok.2; omega
    clear hok
    refine (number_ok m hm w).mono ?_
    rintro e w1 ⟨rfl, hB1⟩
    have t1 := hB1.size
    have hbn := fun X (h : bstr (digs m) = X) => back_number (x := ah) (z := be) hm h
    have hXs : (bstr (digs m)).size ≤ 5 := by rw [bstr_size]; exact digs_length m hm
    obtain ⟨X, hX⟩ : ∃ X, bstr (digs m) = X := ⟨_, rfl⟩
    have hb2 := hbn X hX
    rw [hX] at hXs ⊢
    have HB2 := Lib.hid hb2
    clear hbn hX hb2
    have e1 := run_string_add_sum (P := Try.prog) w1 ah X (by omega)
    have e2 := run_string_add_sum (P := Try.prog) w1 (ah ++ X) be (by rw [size_app]; omega)
    have hS : (ah ++ X ++ be).size ≤ 1000000000 := by rw [size_app, size_app]; omega
    go_wp2_with fail
    refine (readNumber_yes _ _ m (ah.size + X.size) w1 hS ⟨by omega, by omega⟩ HB2.out).mono ?_
    rintro e w2 ⟨rfl, hB2⟩
    clear e1 e2 hS
    have t2 := hB2.size
    have q1 : ((m : Int) != (m : Int)) = false := by simp
    have q2 : (((ah.size : Int) + (X.size : Int)) != ((ah.size : Int) + (X.size : Int))) = false := by simp
    have q3 : decide (0 ≤ (m : Int)) = true := by simp
    have q4 : decide ((m : Int) ≤ 2147483647) = true := by simp; omega
    go_wp2_with fail
    refine (text_ok s (by omega) w2).mono ?_
    rintro e w3 ⟨rfl, hB3⟩
    have t3 := hB3.size
    have hbt := fun Y (h : bstr (digs s.size) ++ s = Y) => back_text (x := ah) (z := be) (show s.size ≤ 4000 by omega) h
    have hYs : (bstr (digs s.size) ++ s).size ≤ 1000 := by rw [size_app, bstr_size]; have := digs_length s.size (by omega); omega
    obtain ⟨Y, hY⟩ : ∃ Y, bstr (digs s.size) ++ s = Y := ⟨_, rfl⟩
    have hb3 := hbt Y hY
    rw [hY] at hYs ⊢
    have HB3 := Lib.hid hb3
    clear hbt hY hb3
    have e1 := run_string_add_sum (P := Try.prog) w3 ah Y (by omega)
    have e2 := run_string_add_sum (P := Try.prog) w3 (ah ++ Y) be (by rw [size_app]; omega)
    have hS : (ah ++ Y ++ be).size ≤ 1000000000 := by rw [size_app, size_app]; omega
    go_wp2_with fail
    refine (readText_yes _ s _ (ah.size + Y.size) w3 hS ⟨by omega, by omega⟩ HB3.out).mono ?_
    rintro e w4 ⟨rfl, hB4⟩
    clear e1 e2 hS
    have t4 := hB4.size
    have q5 : (s.toList == s.toList) = true := by simp
    have q6 : (((ah.size : Int) + (Y.size : Int)) != ((ah.size : Int) + (Y.size : Int))) = false := by simp
    have k4 := ((hB1.trans (hB2.mono t1)).trans (hB3.mono (by omega))).trans (hB4.mono (by omega))
    have hx4 := hx.below k4
    go_wp2_with fail
    refine (numbers_any A c l w4 hx4 (by omega)).mono ?_
    rintro e w5 ⟨hcase, hB5⟩
    have t5 := hB5.size
    have k5 := k4.trans (hB5.mono (by omega))
    have hx5 := hx.below k5
    clear hB1 hB2 hB3 hB4 hB5 k4 hx4
    rcases hcase with ⟨hv, rfl⟩ | ⟨hv, rfl⟩
    · have hbr := fun Z (h : bstr (numsB l) = Z) => back_row (x := ah) (z := be) hv (by omega) h
      have hZs : (bstr (numsB l)).size ≤ 1000 := by
        rw [bstr_size]
        unfold numsB
        rw [List.length_append]
        have := rowB_length l hv
        have := digs_length l.length (by omega)
        omega
      have HNT := Lib.hid (nums_toNat l hv)
      obtain ⟨Z, hZ⟩ : ∃ Z, bstr (numsB l) = Z := ⟨_, rfl⟩
      have hb4 := hbr Z hZ
      rw [hZ] at hZs ⊢
      have HB4 := Lib.hid hb4
      clear hbr hZ hb4 hv
      have e1 := run_string_add_sum (P := Try.prog) w5 ah Z (by omega)
      have e2 := run_string_add_sum (P := Try.prog) w5 (ah ++ Z) be (by rw [size_app]; omega)
      have hS : (ah ++ Z ++ be).size ≤ 1000000000 := by rw [size_app, size_app]; omega
      go_wp2_with fail
      refine (readNumbers_yes _ _ _ (ah.size + Z.size) l.length w5 hS ⟨by omega, by omega⟩ HB4.out (by simp)).mono ?_
      rintro e w6 ⟨A6, c6, rfl, hA6, hB6⟩
      clear e1 e2 hS
      have t6 := hB6.size
      rw [HNT.out] at hA6
      go_wp2_with fail
      refine (wires_any w6).mono ?_
      rintro e w7 ⟨rfl, hB7⟩
      have t7 := hB7.size
      have q7 : (((ah.size : Int) + (Z.size : Int)) == ((ah.size : Int) + (Z.size : Int))) = true := by simp
      go_wp2_with fail
      refine (ints_same A6 A l.length c6 c l w7 rfl (hA6.below hB7) ((hx5.below hB6).below hB7) (by omega)).mono ?_
      rintro e w8 ⟨rfl, hB8⟩
      go_wp2
      go_ret
      exact ⟨rfl, ((k5.trans (hB6.mono (by omega))).trans (hB7.mono (by omega))).trans (hB8.mono (by omega))⟩
    · clear hv
      have hZs : (bstr []).size ≤ 5 := by rw [bstr_size]; simp
      generalize bstr [] = Z at *
      have e1 := run_string_add_sum (P := Try.prog) w5 ah Z (by omega)
      have e2 := run_string_add_sum (P := Try.prog) w5 (ah ++ Z) be (by rw [size_app]; omega)
      have hS : (ah ++ Z ++ be).size ≤ 1000000000 := by rw [size_app, size_app]; omega
      go_wp2_with fail
      refine (readNumbers_some _ _ w5 hS ⟨by omega, by omega⟩).mono ?_
      rintro e w6 ⟨A6, n6, c6, y6, b6, rfl, hB6⟩
      clear e1 e2 hS
      have t6 := hB6.size
      go_wp2_with fail
      refine (wires_any w6).mono ?_
      rintro e w7 ⟨rfl, hB7⟩
      go_wp2
      go_ret
      exact ⟨rfl, (k5.trans (hB6.mono (by omega))).trans (hB7.mono (by omega))⟩
  · have HOKN := Lib.hid hok
    clear hok
    by_cases hneg : n < 0
    · clear HOKN
      refine (number_bad2 n (by omega) w).mono ?_
      rintro e w1 ⟨rfl, hB1⟩
      have t1 := hB1.size
      have hXs : (bstr []).size ≤ 5 := by rw [bstr_size]; simp
      generalize bstr [] = X at *
      have e1 := run_string_add_sum (P := Try.prog) w1 ah X (by omega)
      have e2 := run_string_add_sum (P := Try.prog) w1 (ah ++ X) be (by rw [size_app]; omega)
      have hS : (ah ++ X ++ be).size ≤ 1000000000 := by rw [size_app, size_app]; omega
      go_wp2_with fail
      refine (readNumber_some _ _ w1 hS ⟨by omega, by omega⟩).mono ?_
      rintro e w2 ⟨x, y, b, rfl, hB2⟩
      clear e1 e2 hS
      have t2 := hB2.size
      go_wp2_with fail
      refine (text_ok s (by omega) w2).mono ?_
      rintro e w3 ⟨rfl, hB3⟩
      have t3 := hB3.size
      have hbt := fun Y (h : bstr (digs s.size) ++ s = Y) => back_text (x := ah) (z := be) (show s.size ≤ 4000 by omega) h
      have hYs : (bstr (digs s.size) ++ s).size ≤ 1000 := by rw [size_app, bstr_size]; have := digs_length s.size (by omega); omega
      obtain ⟨Y, hY⟩ : ∃ Y, bstr (digs s.size) ++ s = Y := ⟨_, rfl⟩
      have hb3 := hbt Y hY
      rw [hY] at hYs ⊢
      have HB3 := Lib.hid hb3
      clear hbt hY hb3
      have e1 := run_string_add_sum (P := Try.prog) w3 ah Y (by omega)
      have e2 := run_string_add_sum (P := Try.prog) w3 (ah ++ Y) be (by rw [size_app]; omega)
      have hS : (ah ++ Y ++ be).size ≤ 1000000000 := by rw [size_app, size_app]; omega
      go_wp2_with fail
      refine (readText_yes _ s _ (ah.size + Y.size) w3 hS ⟨by omega, by omega⟩ HB3.out).mono ?_
      rintro e w4 ⟨rfl, hB4⟩
      clear e1 e2 hS
      have t4 := hB4.size
      have q5 : (s.toList == s.toList) = true := by simp
      have q6 : (((ah.size : Int) + (Y.size : Int)) != ((ah.size : Int) + (Y.size : Int))) = false := by simp
      have k4 := ((hB1.trans (hB2.mono t1)).trans (hB3.mono (by omega))).trans (hB4.mono (by omega))
      have hx4 := hx.below k4
      go_wp2_with fail
      refine (numbers_any A c l w4 hx4 (by omega)).mono ?_
      rintro e w5 ⟨hcase, hB5⟩
      have t5 := hB5.size
      have k5 := k4.trans (hB5.mono (by omega))
      have hx5 := hx.below k5
      clear hB1 hB2 hB3 hB4 hB5 k4 hx4
      rcases hcase with ⟨hv, rfl⟩ | ⟨hv, rfl⟩
      · have hbr := fun Z (h : bstr (numsB l) = Z) => back_row (x := ah) (z := be) hv (by omega) h
        have hZs : (bstr (numsB l)).size ≤ 1000 := by
          rw [bstr_size]
          unfold numsB
          rw [List.length_append]
          have := rowB_length l hv
          have := digs_length l.length (by omega)
          omega
        have HNT := Lib.hid (nums_toNat l hv)
        obtain ⟨Z, hZ⟩ : ∃ Z, bstr (numsB l) = Z := ⟨_, rfl⟩
        have hb4 := hbr Z hZ
        rw [hZ] at hZs ⊢
        have HB4 := Lib.hid hb4
        clear hbr hZ hb4 hv
        have e1 := run_string_add_sum (P := Try.prog) w5 ah Z (by omega)
        have e2 := run_string_add_sum (P := Try.prog) w5 (ah ++ Z) be (by rw [size_app]; omega)
        have hS : (ah ++ Z ++ be).size ≤ 1000000000 := by rw [size_app, size_app]; omega
        go_wp2_with fail
        refine (readNumbers_yes _ _ _ (ah.size + Z.size) l.length w5 hS ⟨by omega, by omega⟩ HB4.out (by simp)).mono ?_
        rintro e w6 ⟨A6, c6, rfl, hA6, hB6⟩
        clear e1 e2 hS
        have t6 := hB6.size
        rw [HNT.out] at hA6
        go_wp2_with fail
        refine (wires_any w6).mono ?_
        rintro e w7 ⟨rfl, hB7⟩
        have t7 := hB7.size
        have q7 : (((ah.size : Int) + (Z.size : Int)) == ((ah.size : Int) + (Z.size : Int))) = true := by simp
        go_wp2_with fail
        refine (ints_same A6 A l.length c6 c l w7 rfl (hA6.below hB7) ((hx5.below hB6).below hB7) (by omega)).mono ?_
        rintro e w8 ⟨rfl, hB8⟩
        go_wp2
        go_ret
        exact ⟨rfl, ((k5.trans (hB6.mono (by omega))).trans (hB7.mono (by omega))).trans (hB8.mono (by omega))⟩
      · clear hv
        have hZs : (bstr []).size ≤ 5 := by rw [bstr_size]; simp
        generalize bstr [] = Z at *
        have e1 := run_string_add_sum (P := Try.prog) w5 ah Z (by omega)
        have e2 := run_string_add_sum (P := Try.prog) w5 (ah ++ Z) be (by rw [size_app]; omega)
        have hS : (ah ++ Z ++ be).size ≤ 1000000000 := by rw [size_app, size_app]; omega
        go_wp2_with fail
        refine (readNumbers_some _ _ w5 hS ⟨by omega, by omega⟩).mono ?_
        rintro e w6 ⟨A6, n6, c6, y6, b6, rfl, hB6⟩
        clear e1 e2 hS
        have t6 := hB6.size
        go_wp2_with fail
        refine (wires_any w6).mono ?_
        rintro e w7 ⟨rfl, hB7⟩
        go_wp2
        go_ret
        exact ⟨rfl, (k5.trans (hB6.mono (by omega))).trans (hB7.mono (by omega))⟩
    · have hpos : 0 ≤ n := by omega
      have hbig : 2147483647 < n := by
        have := HOKN.out
        unfold okNum at this
        omega
      clear hneg
      have q4 : decide (n ≤ 2147483647) = false := by simp; omega
      clear HOKN
      refine (number_bad2 n (by omega) w).mono ?_
      rintro e w1 ⟨rfl, hB1⟩
      have t1 := hB1.size
      have hXs : (bstr []).size ≤ 5 := by rw [bstr_size]; simp
      generalize bstr [] = X at *
      have e1 := run_string_add_sum (P := Try.prog) w1 ah X (by omega)
      have e2 := run_string_add_sum (P := Try.prog) w1 (ah ++ X) be (by rw [size_app]; omega)
      have hS : (ah ++ X ++ be).size ≤ 1000000000 := by rw [size_app, size_app]; omega
      go_wp2_with fail
      refine (readNumber_some _ _ w1 hS ⟨by omega, by omega⟩).mono ?_
      rintro e w2 ⟨x, y, b, rfl, hB2⟩
      clear e1 e2 hS
      have t2 := hB2.size
      go_wp2_with fail
      refine (text_ok s (by omega) w2).mono ?_
      rintro e w3 ⟨rfl, hB3⟩
      have t3 := hB3.size
      have hbt := fun Y (h : bstr (digs s.size) ++ s = Y) => back_text (x := ah) (z := be) (show s.size ≤ 4000 by omega) h
      have hYs : (bstr (digs s.size) ++ s).size ≤ 1000 := by rw [size_app, bstr_size]; have := digs_length s.size (by omega); omega
      obtain ⟨Y, hY⟩ : ∃ Y, bstr (digs s.size) ++ s = Y := ⟨_, rfl⟩
      have hb3 := hbt Y hY
      rw [hY] at hYs ⊢
      have HB3 := Lib.hid hb3
      clear hbt hY hb3
      have e1 := run_string_add_sum (P := Try.prog) w3 ah Y (by omega)
      have e2 := run_string_add_sum (P := Try.prog) w3 (ah ++ Y) be (by rw [size_app]; omega)
      have hS : (ah ++ Y ++ be).size ≤ 1000000000 := by rw [size_app, size_app]; omega
      go_wp2_with fail
      refine (readText_yes _ s _ (ah.size + Y.size) w3 hS ⟨by omega, by omega⟩ HB3.out).mono ?_
      rintro e w4 ⟨rfl, hB4⟩
      clear e1 e2 hS
      have t4 := hB4.size
      have q5 : (s.toList == s.toList) = true := by simp
      have q6 : (((ah.size : Int) + (Y.size : Int)) != ((ah.size : Int) + (Y.size : Int))) = false := by simp
      have k4 := ((hB1.trans (hB2.mono t1)).trans (hB3.mono (by omega))).trans (hB4.mono (by omega))
      have hx4 := hx.below k4
      go_wp2_with fail
      refine (numbers_any A c l w4 hx4 (by omega)).mono ?_
      rintro e w5 ⟨hcase, hB5⟩
      have t5 := hB5.size
      have k5 := k4.trans (hB5.mono (by omega))
      have hx5 := hx.below k5
      clear hB1 hB2 hB3 hB4 hB5 k4 hx4
      rcases hcase with ⟨hv, rfl⟩ | ⟨hv, rfl⟩
      · have hbr := fun Z (h : bstr (numsB l) = Z) => back_row (x := ah) (z := be) hv (by omega) h
        have hZs : (bstr (numsB l)).size ≤ 1000 := by
          rw [bstr_size]
          unfold numsB
          rw [List.length_append]
          have := rowB_length l hv
          have := digs_length l.length (by omega)
          omega
        have HNT := Lib.hid (nums_toNat l hv)
        obtain ⟨Z, hZ⟩ : ∃ Z, bstr (numsB l) = Z := ⟨_, rfl⟩
        have hb4 := hbr Z hZ
        rw [hZ] at hZs ⊢
        have HB4 := Lib.hid hb4
        clear hbr hZ hb4 hv
        have e1 := run_string_add_sum (P := Try.prog) w5 ah Z (by omega)
        have e2 := run_string_add_sum (P := Try.prog) w5 (ah ++ Z) be (by rw [size_app]; omega)
        have hS : (ah ++ Z ++ be).size ≤ 1000000000 := by rw [size_app, size_app]; omega
        go_wp2_with fail
        refine (readNumbers_yes _ _ _ (ah.size + Z.size) l.length w5 hS ⟨by omega, by omega⟩ HB4.out (by simp)).mono ?_
        rintro e w6 ⟨A6, c6, rfl, hA6, hB6⟩
        clear e1 e2 hS
        have t6 := hB6.size
        rw [HNT.out] at hA6
        go_wp2_with fail
        refine (wires_any w6).mono ?_
        rintro e w7 ⟨rfl, hB7⟩
        have t7 := hB7.size
        have q7 : (((ah.size : Int) + (Z.size : Int)) == ((ah.size : Int) + (Z.size : Int))) = true := by simp
        go_wp2_with fail
        refine (ints_same A6 A l.length c6 c l w7 rfl (hA6.below hB7) ((hx5.below hB6).below hB7) (by omega)).mono ?_
        rintro e w8 ⟨rfl, hB8⟩
        go_wp2
        go_ret
        exact ⟨rfl, ((k5.trans (hB6.mono (by omega))).trans (hB7.mono (by omega))).trans (hB8.mono (by omega))⟩
      · clear hv
        have hZs : (bstr []).size ≤ 5 := by rw [bstr_size]; simp
        generalize bstr [] = Z at *
        have e1 := run_string_add_sum (P := Try.prog) w5 ah Z (by omega)
        have e2 := run_string_add_sum (P := Try.prog) w5 (ah ++ Z) be (by rw [size_app]; omega)
        have hS : (ah ++ Z ++ be).size ≤ 1000000000 := by rw [size_app, size_app]; omega
        go_wp2_with fail
        refine (readNumbers_some _ _ w5 hS ⟨by omega, by omega⟩).mono ?_
        rintro e w6 ⟨A6, n6, c6, y6, b6, rfl, hB6⟩
        clear e1 e2 hS
        have t6 := hB6.size
        go_wp2_with fail
        refine (wires_any w6).mono ?_
        rintro e w7 ⟨rfl, hB7⟩
        go_wp2
        go_ret
        exact ⟨rfl, (k5.trans (hB6.mono (by omega))).trans (hB7.mono (by omega))⟩
end Go.Proofs.Ytbgklmekeafmeaa
