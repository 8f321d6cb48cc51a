import Derived.Test.YtbgklmekeafmeaaW10
namespace Go.Proofs.Ytbgklmekeafmeaa
open Go.RowKit

theorem digs_pos (n : Nat) : 0 < (digs n).length := List.length_pos_iff.2 (digs_ne_nil n)

theorem extract_of {s : ByteArray} {a k : Nat} {bs : List Nat} (h : bs <+: (sb s).drop a) (hk : k = bs.length) : sb (s.extract a (a + k)) = bs := by
  rw [sb_extract, Nat.add_sub_cancel_left, hk]
  exact (List.prefix_iff_eq_take.1 h).symm

theorem rdAt_facts {s : ByteArray} {a n x : Nat} (h : RdAt s a n x) : n ≤ 2147483647 ∧ a < x ∧ x ≤ s.size ∧ (∀ X, bstr (digs n) = X → (X.toList == (s.extract a x).toList) = true) := by
  obtain ⟨b, hb, hbs, hr, rfl⟩ := h
  obtain rfl : a = b := by omega
  have h1 := rd_len hr
  rw [List.length_drop, sb_length] at h1
  have h2 := digs_pos n
  refine ⟨hr.1, by omega, by omega, ?_⟩
  rintro X rfl
  refine toList_beq _ _ _ (iff_of_true ?_ rfl)
  apply sb_inj
  rw [sb_bstr _ (digs_lt n), extract_of hr.2 rfl]

theorem size_extract {s : ByteArray} {i n : Nat} (h : i + n ≤ s.size) : (s.extract i (i + n)).size = n := by
  rw [← sb_length, sb_extract, List.length_take, List.length_drop, sb_length]
  omega

theorem rtAt_facts {s t : ByteArray} {a x : Nat} (h : RtAt s a t x) : t.size ≤ 4000 ∧ a < x ∧ x ≤ s.size ∧ (∀ X, bstr (digs t.size) ++ t = X → (X.toList == (s.extract a x).toList) = true) := by
  obtain ⟨b, n, hb, hbs, ⟨hr, hn, hl⟩, rfl, rfl⟩ := h
  obtain rfl : a = b := by omega
  have h2 := digs_pos n
  rw [List.length_drop, sb_length] at hl
  have hsz : (s.extract (a + (digs n).length) (a + (digs n).length + n)).size = n := size_extract (by omega)
  refine ⟨by rw [hsz]; exact hn, by omega, by omega, ?_⟩
  rintro X rfl
  refine toList_beq _ _ _ (iff_of_true ?_ rfl)
  rw [hsz]
  apply sb_inj
  rw [sb_append, sb_bstr _ (digs_lt n), sb_extract, sb_extract, Nat.add_sub_cancel_left]
  have e : a + (digs n).length + n - a = (digs n).length + n := by omega
  rw [e, List.take_add, ← List.prefix_iff_eq_take.1 hr.2, List.drop_drop]

theorem rowB_nums (l : List Nat) : rowB (nums l) = seqB l := by
  unfold rowB nums seqB
  induction l with
  | nil => rfl
  | cons x l ih => simp only [List.map_cons, List.flatMap_cons, Int.toNat_natCast] at ih ⊢; rw [ih]

theorem rlAt_facts {s : ByteArray} {a x : Nat} {l : List Nat} (h : RlAt s a l x) : l.length ≤ 4000 ∧ (∀ y ∈ nums l, okNum y) ∧ a < x ∧ x ≤ s.size ∧ (∀ X, bstr (numsB (nums l)) = X → (X.toList == (s.extract a x).toList) = true) := by
  obtain ⟨b, hb, hbs, ⟨hl, hm, hp⟩, rfl⟩ := h
  obtain rfl : a = b := by omega
  have h2 := digs_pos l.length
  have h1 := hp.length_le
  rw [List.length_drop, sb_length] at h1
  rw [List.length_append] at h1 ⊢
  refine ⟨hl, ?_, by omega, by omega, ?_⟩
  · intro y hy
    simp only [nums, List.mem_map] at hy
    obtain ⟨z, hz, rfl⟩ := hy
    have := hm z hz
    exact ⟨by omega, by omega⟩
  rintro X rfl
  refine toList_beq _ _ _ (iff_of_true ?_ rfl)
  apply sb_inj
  have hall : ∀ y ∈ digs l.length ++ seqB l, y < 256 := by
    intro y hy
    rcases List.mem_append.1 hy with h | h
    · exact digs_lt _ y h
    · simp only [seqB, List.mem_flatMap] at h
      obtain ⟨z, _, hz⟩ := h
      exact digs_lt _ y hz
  have e : numsB (nums l) = digs l.length ++ seqB l := by unfold numsB; rw [rowB_nums, nums_length]
  rw [e, sb_bstr _ hall, ← List.length_append, extract_of hp rfl]

set_option maxHeartbeats 8000000 in
theorem same_walk (s : ByteArray) (p : Int) (hs : s.size ≤ maxLen) (hp : i64 p) (w : World) :
    Calls Try.prog 6 #[.string s, .int .i64 p] w fun e w' => e = .returned (.bool true) ∧ Below w.heap.size w w' := by
  unfold maxLen at hs
  have hp0 := hp
  obtain ⟨hp1, hp2⟩ := hp
  by_cases h1 : 1000 < s.size
  · have HP := Lib.hid hp0
    clear hp0
    go_enter Try.func6, Try.ntmps6
    go_wp2_with fail
    refine (wires_any w).mono ?_
    rintro e w1 ⟨rfl, hB⟩
    go_wp2
    go_ret
    exact ⟨rfl, hB⟩
  have h2 : s.size ≤ 1000 := by omega
  clear h1
  have HP := Lib.hid hp0
  clear hp0
  by_cases h3 : p < 0
  · go_enter Try.func6, Try.ntmps6
    go_wp2_with fail
    refine (wires_any w).mono ?_
    rintro e w1 ⟨rfl, hB⟩
    go_wp2
    go_ret
    exact ⟨rfl, hB⟩
  by_cases h4 : (s.size : Int) < p
  · have h5 : 0 ≤ p := by omega
    clear h3
    go_enter Try.func6, Try.ntmps6
    go_wp2_with fail
    refine (wires_any w).mono ?_
    rintro e w1 ⟨rfl, hB⟩
    go_wp2
    go_ret
    exact ⟨rfl, hB⟩
  obtain ⟨a, rfl⟩ := Int.eq_ofNat_of_zero_le (show 0 ≤ p by omega)
  have ha : a ≤ s.size := by omega
  clear h3 h4 hs
  go_enter Try.func6, Try.ntmps6
  go_wp2_with fail
  refine (readNumber_any s a w (by omega) HP.out).mono ?_
  rintro e w1 ⟨hcase, hB1⟩
  have t1 := hB1.size
  rcases hcase with ⟨n, x, hx, rfl⟩ | ⟨_, rfl⟩
  · obtain ⟨x1, x2, x3, x4⟩ := rdAt_facts hx
    have HX4 := Lib.hid (x4 _ rfl)
    clear hx x4
    go_wp2_with fail
    refine (number_ok n x1 w1).mono ?_
    rintro e w2 ⟨rfl, hB2⟩
    have t2 := hB2.size
    have x5 := HX4.out
    generalize bstr (digs n) = X at *
    clear HX4
    go_wp2_with fail
    refine (readText_any s a w2 (by omega) HP.out).mono ?_
    rintro e w3 ⟨hcase, hB3⟩
    have t3 := hB3.size
    rcases hcase with ⟨t, y, hy, rfl⟩ | ⟨_, rfl⟩
    · obtain ⟨y1, y2, y3, y4⟩ := rtAt_facts hy
      have HY4 := Lib.hid (y4 _ rfl)
      clear hy y4
      go_wp2_with fail
      refine (text_ok t y1 w3).mono ?_
      rintro e w4 ⟨rfl, hB4⟩
      have t4 := hB4.size
      have y5 := HY4.out
      generalize bstr (digs t.size) ++ t = Y at *
      clear HY4
      go_wp2_with fail
      refine (readNumbers_any s a w4 (by omega) HP.out).mono ?_
      rintro e w5 ⟨hcase, hB5⟩
      have t5 := hB5.size
      have k4 := ((hB1.trans (hB2.mono t1)).trans (hB3.mono (by omega))).trans (hB4.mono (by omega))
      have k5 := k4.trans (hB5.mono (by omega))
      clear hB1 hB2 hB3 hB4 k4
      rcases hcase with ⟨l, v, z, hz, hown, rfl⟩ | ⟨_, rfl⟩
      · obtain ⟨z1, z2, z3, z4, z5⟩ := rlAt_facts hz
        obtain ⟨A, c, rfl⟩ := own_shape hown
        have HAt := Lib.hid (At.of_own hown)
        have HZ2 := Lib.hid z2
        have HZ5 := Lib.hid (z5 _ rfl)
        have HL : Hid ((nums l).length = l.length) := nums_length l
        clear hz hown z2 z5
        generalize hn : l.length = ln at *
        clear hn
        go_wp2_with fail
        refine (numbers_ex A ln c (nums l) (bstr (numsB (nums l))) w5 HAt.out HL.out (by rw [HL.out]; exact z1) HZ2.out rfl).mono ?_
        rintro e w6 ⟨rfl, hB6⟩
        have z6 := HZ5.out
        generalize bstr (numsB (nums l)) = Z at z6
        go_wp2_with fail
        refine (wires_any w6).mono ?_
        rintro e w7 ⟨rfl, hB7⟩
        have t6 := hB6.size
        go_wp2
        go_ret
        exact ⟨rfl, (k5.trans (hB6.mono (by omega))).trans (hB7.mono (by omega))⟩
      · go_wp2_with fail
        refine (numbers_ex none 0 0 [] (bstr (numsB [])) w5 (At.nil _ _) rfl (by decide) (by decide) rfl).mono ?_
        rintro e w6 ⟨rfl, hB6⟩
        generalize bstr (numsB []) = Z
        go_wp2_with fail
        refine (wires_any w6).mono ?_
        rintro e w7 ⟨rfl, hB7⟩
        have t6 := hB6.size
        go_wp2
        go_ret
        exact ⟨rfl, (k5.trans (hB6.mono (by omega))).trans (hB7.mono (by omega))⟩
    · go_wp2_with fail
      refine (text_ex (bstr []) (bstr (digs 0) ++ bstr []) (by decide) w3 rfl).mono ?_
      rintro e w4 ⟨rfl, hB4⟩
      have t4 := hB4.size
      generalize bstr (digs 0) ++ bstr [] = Y at *
      go_wp2_with fail
      refine (readNumbers_any s a w4 (by omega) HP.out).mono ?_
      rintro e w5 ⟨hcase, hB5⟩
      have t5 := hB5.size
      have k4 := ((hB1.trans (hB2.mono t1)).trans (hB3.mono (by omega))).trans (hB4.mono (by omega))
      have k5 := k4.trans (hB5.mono (by omega))
      clear hB1 hB2 hB3 hB4 k4
      rcases hcase with ⟨l, v, z, hz, hown, rfl⟩ | ⟨_, rfl⟩
      · obtain ⟨z1, z2, z3, z4, z5⟩ := rlAt_facts hz
        obtain ⟨A, c, rfl⟩ := own_shape hown
        have HAt := Lib.hid (At.of_own hown)
        have HZ2 := Lib.hid z2
        have HZ5 := Lib.hid (z5 _ rfl)
        have HL : Hid ((nums l).length = l.length) := nums_length l
        clear hz hown z2 z5
        generalize hn : l.length = ln at *
        clear hn
        go_wp2_with fail
        refine (numbers_ex A ln c (nums l) (bstr (numsB (nums l))) w5 HAt.out HL.out (by rw [HL.out]; exact z1) HZ2.out rfl).mono ?_
        rintro e w6 ⟨rfl, hB6⟩
        have z6 := HZ5.out
        generalize bstr (numsB (nums l)) = Z at z6
        go_wp2_with fail
        refine (wires_any w6).mono ?_
        rintro e w7 ⟨rfl, hB7⟩
        have t6 := hB6.size
        go_wp2
        go_ret
        exact ⟨rfl, (k5.trans (hB6.mono (by omega))).trans (hB7.mono (by omega))⟩
      · go_wp2_with fail
        refine (numbers_ex none 0 0 [] (bstr (numsB [])) w5 (At.nil _ _) rfl (by decide) (by decide) rfl).mono ?_
        rintro e w6 ⟨rfl, hB6⟩
        generalize bstr (numsB []) = Z
        go_wp2_with fail
        refine (wires_any w6).mono ?_
        rintro e w7 ⟨rfl, hB7⟩
        have t6 := hB6.size
        go_wp2
        go_ret
        exact ⟨rfl, (k5.trans (hB6.mono (by omega))).trans (hB7.mono (by omega))⟩
  · go_wp2_with fail
    refine (number_ok 0 (by omega) w1).mono ?_
    rintro e w2 ⟨rfl, hB2⟩
    have t2 := hB2.size
    generalize bstr (digs 0) = X at *
    go_wp2_with fail
    refine (readText_any s a w2 (by omega) HP.out).mono ?_
    rintro e w3 ⟨hcase, hB3⟩
    have t3 := hB3.size
    rcases hcase with ⟨t, y, hy, rfl⟩ | ⟨_, rfl⟩
    · obtain ⟨y1, y2, y3, y4⟩ := rtAt_facts hy
      have HY4 := Lib.hid (y4 _ rfl)
      clear hy y4
      go_wp2_with fail
      refine (text_ok t y1 w3).mono ?_
      rintro e w4 ⟨rfl, hB4⟩
      have t4 := hB4.size
      have y5 := HY4.out
      generalize bstr (digs t.size) ++ t = Y at *
      clear HY4
      go_wp2_with fail
      refine (readNumbers_any s a w4 (by omega) HP.out).mono ?_
      rintro e w5 ⟨hcase, hB5⟩
      have t5 := hB5.size
      have k4 := ((hB1.trans (hB2.mono t1)).trans (hB3.mono (by omega))).trans (hB4.mono (by omega))
      have k5 := k4.trans (hB5.mono (by omega))
      clear hB1 hB2 hB3 hB4 k4
      rcases hcase with ⟨l, v, z, hz, hown, rfl⟩ | ⟨_, rfl⟩
      · obtain ⟨z1, z2, z3, z4, z5⟩ := rlAt_facts hz
        obtain ⟨A, c, rfl⟩ := own_shape hown
        have HAt := Lib.hid (At.of_own hown)
        have HZ2 := Lib.hid z2
        have HZ5 := Lib.hid (z5 _ rfl)
        have HL : Hid ((nums l).length = l.length) := nums_length l
        clear hz hown z2 z5
        generalize hn : l.length = ln at *
        clear hn
        go_wp2_with fail
        refine (numbers_ex A ln c (nums l) (bstr (numsB (nums l))) w5 HAt.out HL.out (by rw [HL.out]; exact z1) HZ2.out rfl).mono ?_
        rintro e w6 ⟨rfl, hB6⟩
        have z6 := HZ5.out
        generalize bstr (numsB (nums l)) = Z at z6
        go_wp2_with fail
        refine (wires_any w6).mono ?_
        rintro e w7 ⟨rfl, hB7⟩
        have t6 := hB6.size
        go_wp2
        go_ret
        exact ⟨rfl, (k5.trans (hB6.mono (by omega))).trans (hB7.mono (by omega))⟩
      · go_wp2_with fail
        refine (numbers_ex none 0 0 [] (bstr (numsB [])) w5 (At.nil _ _) rfl (by decide) (by decide) rfl).mono ?_
        rintro e w6 ⟨rfl, hB6⟩
        generalize bstr (numsB []) = Z
        go_wp2_with fail
        refine (wires_any w6).mono ?_
        rintro e w7 ⟨rfl, hB7⟩
        have t6 := hB6.size
        go_wp2
        go_ret
        exact ⟨rfl, (k5.trans (hB6.mono (by omega))).trans (hB7.mono (by omega))⟩
    · go_wp2_with fail
      refine (text_ex (bstr []) (bstr (digs 0) ++ bstr []) (by decide) w3 rfl).mono ?_
      rintro e w4 ⟨rfl, hB4⟩
      have t4 := hB4.size
      generalize bstr (digs 0) ++ bstr [] = Y at *
      go_wp2_with fail
      refine (readNumbers_any s a w4 (by omega) HP.out).mono ?_
      rintro e w5 ⟨hcase, hB5⟩
      have t5 := hB5.size
      have k4 := ((hB1.trans (hB2.mono t1)).trans (hB3.mono (by omega))).trans (hB4.mono (by omega))
      have k5 := k4.trans (hB5.mono (by omega))
      clear hB1 hB2 hB3 hB4 k4
      rcases hcase with ⟨l, v, z, hz, hown, rfl⟩ | ⟨_, rfl⟩
      · obtain ⟨z1, z2, z3, z4, z5⟩ := rlAt_facts hz
        obtain ⟨A, c, rfl⟩ := own_shape hown
        have HAt := Lib.hid (At.of_own hown)
        have HZ2 := Lib.hid z2
        have HZ5 := Lib.hid (z5 _ rfl)
        have HL : Hid ((nums l).length = l.length) := nums_length l
        clear hz hown z2 z5
        generalize hn : l.length = ln at *
        clear hn
        go_wp2_with fail
        refine (numbers_ex A ln c (nums l) (bstr (numsB (nums l))) w5 HAt.out HL.out (by rw [HL.out]; exact z1) HZ2.out rfl).mono ?_
        rintro e w6 ⟨rfl, hB6⟩
        have z6 := HZ5.out
        generalize bstr (numsB (nums l)) = Z at z6
        go_wp2_with fail
        refine (wires_any w6).mono ?_
        rintro e w7 ⟨rfl, hB7⟩
        have t6 := hB6.size
        go_wp2
        go_ret
        exact ⟨rfl, (k5.trans (hB6.mono (by omega))).trans (hB7.mono (by omega))⟩
      · go_wp2_with fail
        refine (numbers_ex none 0 0 [] (bstr (numsB [])) w5 (At.nil _ _) rfl (by decide) (by decide) rfl).mono ?_
        rintro e w6 ⟨rfl, hB6⟩
        generalize bstr (numsB []) = Z
        go_wp2_with fail
        refine (wires_any w6).mono ?_
        rintro e w7 ⟨rfl, hB7⟩
        have t6 := hB6.size
        go_wp2
        go_ret
        exact ⟨rfl, (k5.trans (hB6.mono (by omega))).trans (hB7.mono (by omega))⟩
end Go.Proofs.Ytbgklmekeafmeaa
