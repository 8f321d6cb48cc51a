import Derived.Test.YtbgklmekeafmeaaW6
namespace Go.Proofs.Ytbgklmekeafmeaa
open Go.RowKit

theorem digs_lt (n : Nat) : ∀ x ∈ digs n, x < 256 := by
  induction n using Nat.strongRecOn with
  | ind n ih =>
    rcases Nat.lt_or_ge n 128 with h | h
    · rw [digs_small h]; intro x hx; simp at hx; omega
    · rw [digs_big h]
      intro x hx
      rcases List.mem_cons.1 hx with rfl | hx
      · omega
      · exact ih _ (by omega) x hx

theorem sb_bstr (l : List Nat) (h : ∀ x ∈ l, x < 256) : sb (bstr l) = l := by
  unfold sb bstr
  simp only [List.map_map]
  have : ∀ x ∈ l, (UInt8.toNat ∘ UInt8.ofNat) x = x := by
    intro x hx
    have := h x hx
    simp only [Function.comp, UInt8.toNat_ofNat']
    omega
  rw [List.map_congr_left this]
  simp

theorem sb_append (a b : ByteArray) : sb (a ++ b) = sb a ++ sb b := by
  simp [sb]

theorem sb_inj {a b : ByteArray} (h : sb a = sb b) : a = b := by
  unfold sb at h
  have h2 : a.data.toList = b.data.toList := by
    have hi : ∀ x y : UInt8, x.toNat = y.toNat → x = y := fun x y => UInt8.toNat_inj.1
    exact (List.map_inj_right hi).1 h
  have h3 : a.data = b.data := Array.toList_inj.1 h2
  cases a; cases b; simp at h3; rw [h3]

theorem toList_beq (a b : ByteArray) (q : Bool) (h : a = b ↔ q = true) : (a.toList == b.toList) = q := by
  rw [Bool.eq_iff_iff, ← h, beq_iff_eq, ByteArray.toList_eq, ByteArray.toList_eq]
  constructor
  · intro h; exact sb_inj (by unfold sb; rw [h])
  · intro h; rw [h]

theorem sb_extract (a : ByteArray) (i j : Nat) : sb (a.extract i j) = ((sb a).drop i).take (j - i) := by
  simp [sb, List.map_take, List.map_drop]

theorem pref_beq (X Y : ByteArray) (q : Bool) (h : X.size ≤ Y.size) (hq : sb X <+: sb Y ↔ q = true) : ((Y.extract 0 X.size).toList == X.toList) = q := by
  refine toList_beq _ _ _ (Iff.trans ?_ hq)
  constructor
  · intro he
    have := congrArg sb he
    rw [sb_extract, List.drop_zero, Nat.sub_zero] at this
    rw [← this]
    exact List.take_prefix _ _
  · intro hp
    refine sb_inj ?_
    rw [sb_extract, List.drop_zero, Nat.sub_zero, ← sb_length]
    exact (List.prefix_iff_eq_take.1 hp).symm

theorem digs_pref {n m : Nat} : digs n <+: digs m ↔ n = m := by
  constructor
  · rintro ⟨t, ht⟩
    obtain ⟨l, b, e, hl, hb, _, hv⟩ := digs_form n
    obtain ⟨l', b', e', hl', hb', _, hv'⟩ := digs_form m
    have h1 : b ∈ digs n := by rw [e]; simp
    rcases List.eq_nil_or_concat t with rfl | ⟨t', c, rfl⟩
    · rw [← hv, ← hv', ← ht, List.append_nil]
    · exfalso
      rw [e, e', List.concat_eq_append, ← List.append_assoc] at ht
      have := (List.append_inj' ht rfl).1
      have h2 := hl' b (by rw [← this]; simp)
      omega
  · rintro rfl; exact List.prefix_refl _

theorem text_pref {s t : ByteArray} (hs : s.size ≤ 2147483647) (ht : t.size ≤ 2147483647) : sb (bstr (digs s.size) ++ s) <+: sb (bstr (digs t.size) ++ t) ↔ s = t := by
  rw [sb_append, sb_append, sb_bstr _ (digs_lt _), sb_bstr _ (digs_lt _)]
  constructor
  · intro h
    have h1 : Rd (digs t.size ++ sb t) s.size := ⟨hs, (List.prefix_append _ _).trans h⟩
    have h2 : Rd (digs t.size ++ sb t) t.size := ⟨ht, List.prefix_append _ _⟩
    have h3 := rd_unique h1 h2
    rw [h3] at h
    have h4 := (List.prefix_append_right_inj (digs t.size)).1 h
    exact sb_inj (h4.eq_of_length (by rw [sb_length, sb_length, h3]))
  · rintro rfl; exact List.prefix_refl _

def NumCase (n : Int) (a : ByteArray) (e : Int) : Prop := (e = 0 ∧ okNum n ∧ a = bstr (digs n.toNat)) ∨ (e = 1 ∧ ¬ okNum n ∧ a = bstr [])

theorem number_any (n : Int) (w : World) : Calls Try.prog 9 #[.int .i64 n] w fun e w' => ∃ a x, NumCase n a x ∧ e = .returned (.tuple #[.string a, .int .i64 x]) ∧ Below w.heap.size w w' := by
  by_cases h : okNum n
  · obtain ⟨m, rfl⟩ := Int.eq_ofNat_of_zero_le h.1
    refine (number_ok m (by have := h.2; omega) w).mono ?_
    rintro e w' ⟨rfl, hB⟩
    exact ⟨_, _, .inl ⟨rfl, h, by simp⟩, rfl, hB⟩
  · refine (number_bad n (by unfold okNum at h; omega) w).mono ?_
    rintro e w' ⟨rfl, rfl⟩
    exact ⟨_, _, .inr ⟨rfl, h, rfl⟩, rfl, Below.refl _ _⟩

set_option maxHeartbeats 4000000 in
theorem front_walk (n m : Int) (s t : ByteArray) (hn : i64 n) (hm : i64 m) (hs : s.size ≤ maxLen) (ht : t.size ≤ maxLen) (w : World) :
    Calls Try.prog 7 #[.int .i64 n, .int .i64 m, .string s, .string t] w fun e w' => e = .returned (.bool true) ∧ Below w.heap.size w w' := by
  unfold maxLen at hs ht
  by_cases h1 : 500 < s.size
  · go_enter Try.func7, Try.ntmps7
    go_wp2
    go_ret
    exact ⟨rfl, Below.refl _ _⟩
  by_cases h2 : 500 < t.size
  · go_enter Try.func7, Try.ntmps7
    go_wp2
    go_ret
    exact ⟨rfl, Below.refl _ _⟩
  have h3 : s.size ≤ 500 := by omega
  have h4 : t.size ≤ 500 := by omega
  clear h1 h2
  go_enter Try.func7, Try.ntmps7
  go_wp2_with fail
  refine (number_any n w).mono ?_
  rintro e w1 ⟨a, x, hx, rfl, hB1⟩
  have s1 := hB1.size
  have HX := Lib.hid hx
  clear hx
  go_wp2_with fail
  refine (number_any m w1).mono ?_
  rintro e w2 ⟨b, y, hy, rfl, hB2⟩
  have s2 := hB2.size
  have HY := Lib.hid hy
  clear hy
  go_wp2_with fail
  refine (text_ok s (by omega) w2).mono ?_
  rintro e w3 ⟨rfl, hB3⟩
  have s3 := hB3.size
  have htp := text_pref (s := s) (t := t) (by omega) (by omega)
  generalize bstr (digs s.size) ++ s = C at *
  go_wp2_with fail
  refine (text_ok t (by omega) w3).mono ?_
  rintro e w4 ⟨rfl, hB4⟩
  have s4 := hB4.size
  generalize bstr (digs t.size) ++ t = D at *
  have hB := ((hB1.trans (hB2.mono s1)).trans (hB3.mono (by omega))).trans (hB4.mono (by omega))
  have sall : w.heap.size ≤ w4.heap.size := by omega
  clear hB1 hB2 hB3 hB4 s1 s2 s3 s4
  have F1 : Hid (C.size ≤ D.size → ∃ q, ((D.extract 0 C.size).toList == C.toList) = q ∧ (s.toList == t.toList) = q) := by
    intro hle
    refine ⟨decide (s = t), pref_beq C D _ hle (by rw [htp]; simp), toList_beq _ _ _ (by simp)⟩
  clear htp
  have F2 : Hid (x = 0 → y = 0 → a.size ≤ b.size → ((b.extract 0 a.size).toList == a.toList) = (n == m)) := by
    intro hx0 hy0 hle
    rcases HX.out with ⟨_, hn1, rfl⟩ | ⟨h, _⟩
    · rcases HY.out with ⟨_, hm1, rfl⟩ | ⟨h, _⟩
      · refine pref_beq _ _ _ hle ?_
        rw [sb_bstr _ (digs_lt _), sb_bstr _ (digs_lt _), digs_pref, beq_iff_eq]
        obtain ⟨i, rfl⟩ := Int.eq_ofNat_of_zero_le hn1.1
        obtain ⟨j, rfl⟩ := Int.eq_ofNat_of_zero_le hm1.1
        simp
        omega
      · omega
    · omega
  have F3 : Hid ((x = 0 ∨ x = 1) ∧ (y = 0 ∨ y = 1)) := by
    refine ⟨?_, ?_⟩
    · rcases HX.out with h | h
      · exact .inl h.1
      · exact .inr h.1
    · rcases HY.out with h | h
      · exact .inl h.1
      · exact .inr h.1
  have F4 : Hid (a.size ≤ 1000 ∧ b.size ≤ 1000) := by
    have : ∀ (n : Int) (a : ByteArray) (x : Int), NumCase n a x → a.size ≤ 1000 := by
      rintro n a x (⟨_, h, rfl⟩ | ⟨_, _, rfl⟩)
      · rw [bstr_size]
        have := digs_length n.toNat (by have := h.2; omega)
        omega
      · rw [bstr_size]; simp
    exact ⟨this _ _ _ HX.out, this _ _ _ HY.out⟩
  clear HX HY
  have hab := F4.out
  obtain ⟨ha1000, hb1000⟩ := hab
  obtain ⟨hx01, hy01⟩ := F3.out
  by_cases hCD : C.size ≤ D.size
  · obtain ⟨q, q1, q2⟩ := F1.out hCD
    have hqq : (q != q) = false := by simp
    clear F1
    rcases hx01 with rfl | rfl
    · rcases hy01 with rfl | rfl
      · by_cases hab : a.size ≤ b.size
        · have f2 := F2.out rfl rfl hab
          obtain ⟨r, hr⟩ : ∃ r, (n == m) = r := ⟨_, rfl⟩
          rw [hr] at f2
          have hrr : (r == r) = true := by simp
          go_wp2_with fail
          refine (wires_any w4).mono ?_
          rintro e w5 ⟨rfl, hB5⟩
          go_wp2
          go_ret
          exact ⟨rfl, hB.trans (hB5.mono sall)⟩
        · have hab2 : b.size < a.size := by omega
          clear hab
          go_wp2_with fail
          refine (wires_any w4).mono ?_
          rintro e w5 ⟨rfl, hB5⟩
          go_wp2
          go_ret
          exact ⟨rfl, hB.trans (hB5.mono sall)⟩
      · clear F2
        go_wp2_with fail
        refine (wires_any w4).mono ?_
        rintro e w5 ⟨rfl, hB5⟩
        go_wp2
        go_ret
        exact ⟨rfl, hB.trans (hB5.mono sall)⟩
    · clear F2
      go_wp2_with fail
      refine (wires_any w4).mono ?_
      rintro e w5 ⟨rfl, hB5⟩
      go_wp2
      go_ret
      exact ⟨rfl, hB.trans (hB5.mono sall)⟩
  · have hDC : D.size < C.size := by omega
    clear hCD F1
    rcases hx01 with rfl | rfl
    · rcases hy01 with rfl | rfl
      · by_cases hab : a.size ≤ b.size
        · have f2 := F2.out rfl rfl hab
          obtain ⟨r, hr⟩ : ∃ r, (n == m) = r := ⟨_, rfl⟩
          rw [hr] at f2
          have hrr : (r == r) = true := by simp
          go_wp2_with fail
          refine (wires_any w4).mono ?_
          rintro e w5 ⟨rfl, hB5⟩
          go_wp2
          go_ret
          exact ⟨rfl, hB.trans (hB5.mono sall)⟩
        · have hab2 : b.size < a.size := by omega
          clear hab
          go_wp2_with fail
          refine (wires_any w4).mono ?_
          rintro e w5 ⟨rfl, hB5⟩
          go_wp2
          go_ret
          exact ⟨rfl, hB.trans (hB5.mono sall)⟩
      · clear F2
        go_wp2_with fail
        refine (wires_any w4).mono ?_
        rintro e w5 ⟨rfl, hB5⟩
        go_wp2
        go_ret
        exact ⟨rfl, hB.trans (hB5.mono sall)⟩
    · clear F2
      go_wp2_with fail
      refine (wires_any w4).mono ?_
      rintro e w5 ⟨rfl, hB5⟩
      go_wp2
      go_ret
      exact ⟨rfl, hB.trans (hB5.mono sall)⟩
end Go.Proofs.Ytbgklmekeafmeaa
