import Derived.Test.YtbgklmekeafmeaaW3
namespace Go.Proofs.Ytbgklmekeafmeaa
open Go.RowKit

/-- A string's bytes. -/
def sb (s : ByteArray) : List Nat := List.map UInt8.toNat s.data.toList
theorem sb_length (s : ByteArray) : (sb s).length = s.size := by
  unfold sb
  rw [List.length_map, Array.length_toList]
  rfl
theorem sb_lt (s : ByteArray) : ∀ x ∈ sb s, x < 256 := by
  intro x hx
  simp only [sb, List.mem_map] at hx
  obtain ⟨y, _, rfl⟩ := hx
  exact UInt8.toNat_lt y
theorem sb_get (s : ByteArray) (i : Nat) (h : i < s.size) : (sb s)[i]'(by rw [sb_length]; exact h) = s[i].toNat := by
  simp only [sb, List.getElem_map]
  rfl

/-- What digits are worth, the lowest one first. -/
def val : List Nat → Nat
  | [] => 0
  | c :: l => c % 128 + 128 * val l

theorem val_snoc (l : List Nat) (c : Nat) : val (l ++ [c]) = val l + c % 128 * 128 ^ l.length := by
  induction l with
  | nil => simp [val]
  | cons x l ih =>
    simp only [List.cons_append, val, ih, List.length_cons, Nat.pow_succ, Nat.mul_add]
    rw [Nat.add_assoc]
    congr 2
    rw [Nat.mul_comm 128, Nat.mul_assoc]

theorem val_lt (l : List Nat) : val l < 128 ^ l.length := by
  induction l with
  | nil => simp [val]
  | cons x l ih =>
    simp only [val, List.length_cons, Nat.pow_succ]
    have := Nat.mod_lt x (show 0 < 128 by omega)
    omega

/-- A number's bytes are some from 128 on, and one below it, not 0 but alone; they are worth the number. -/
theorem digs_form (n : Nat) : ∃ l b, digs n = l ++ [b] ∧ (∀ x ∈ l, 128 ≤ x) ∧ b < 128 ∧ (l = [] ∨ 0 < b) ∧ val (digs n) = n := by
  induction n using Nat.strongRecOn with
  | ind n ih =>
    rcases Nat.lt_or_ge n 128 with h | h
    · exact ⟨[], n, digs_small h, by simp, h, .inl rfl, by rw [digs_small h]; simp [val]; omega⟩
    · obtain ⟨l, b, h1, h2, h3, h4, h5⟩ := ih (n / 128) (by omega)
      refine ⟨(n % 128 + 128) :: l, b, by rw [digs_big h, h1]; rfl, ?_, h3, ?_, ?_⟩
      · intro x hx
        rcases List.mem_cons.1 hx with rfl | hx
        · omega
        · exact h2 x hx
      · right
        rcases h4 with rfl | h4
        · rw [h1] at h5
          simp [val] at h5
          omega
        · exact h4
      · rw [digs_big h]
        simp only [val, h5]
        omega

/-- And such bytes are the number's that they are worth. -/
theorem digs_val (l : List Nat) (b : Nat) (hl : ∀ x ∈ l, 128 ≤ x ∧ x < 256) (hb : b < 128) (h0 : l = [] ∨ 0 < b) : digs (val (l ++ [b])) = l ++ [b] := by
  induction l with
  | nil => simp only [List.nil_append, val]; rw [show b % 128 + 128 * 0 = b by omega, digs_small hb]
  | cons c l ih =>
    have hbp : 0 < b := by rcases h0 with h | h; cases h; exact h
    have hc := hl c List.mem_cons_self
    have ih' := ih (fun x hx => hl x (List.mem_cons_of_mem _ hx)) (.inr hbp)
    have hpos : 0 < val (l ++ [b]) := by
      rw [val_snoc, Nat.mod_eq_of_lt hb]
      have := Nat.mul_pos hbp (Nat.pow_pos (n := l.length) (show 0 < 128 by omega))
      omega
    simp only [List.cons_append, val]
    rw [digs_big (by omega)]
    rw [show (c % 128 + 128 * val (l ++ [b])) % 128 + 128 = c by omega, show (c % 128 + 128 * val (l ++ [b])) / 128 = val (l ++ [b]) by omega, ih']

/-- Of some bytes those of n come first. -/
def Rd (bs : List Nat) (n : Nat) : Prop := n ≤ 2147483647 ∧ digs n <+: bs

/-- Bytes from 128 on, and one below it: whose they are, if they are anyone's. -/
theorem rd_of (l : List Nat) (b : Nat) (rest : List Nat) (hl : ∀ x ∈ l, 128 ≤ x) (hb : b < 128) {n : Nat} (h : Rd (l ++ b :: rest) n) : digs n = l ++ [b] ∧ n = val (l ++ [b]) ∧ (l = [] ∨ 0 < b) := by
  obtain ⟨l', b', h1, h2, h3, h4, h5⟩ := digs_form n
  obtain ⟨t, ht⟩ := h.2
  have key : ∀ (l l' : List Nat) (b b' : Nat) (rest t : List Nat), (∀ x ∈ l, 128 ≤ x) → (∀ x ∈ l', 128 ≤ x) → b < 128 → b' < 128 → l' ++ b' :: t = l ++ b :: rest → l' = l ∧ b' = b := by
    intro l
    induction l with
    | nil =>
      intro l' b b' rest t _ hl' hb hb' he
      cases l' with
      | nil => simp at he; exact ⟨rfl, he.1⟩
      | cons x l' => simp at he; have := hl' x List.mem_cons_self; omega
    | cons y l ih =>
      intro l' b b' rest t hl hl' hb hb' he
      cases l' with
      | nil => simp at he; have := hl y List.mem_cons_self; omega
      | cons x l' =>
        simp at he
        obtain ⟨h6, h7⟩ := ih l' b b' rest t (fun z hz => hl z (List.mem_cons_of_mem _ hz)) (fun z hz => hl' z (List.mem_cons_of_mem _ hz)) hb hb' he.2
        exact ⟨by rw [he.1, h6], h7⟩
  rw [h1, List.append_assoc] at ht
  obtain ⟨rfl, rfl⟩ := key l l' b b' rest t hl h2 hb h3 ht
  exact ⟨h1, by rw [← h1, h5], h4⟩

/-- Where all bytes are from 128 on, or the first five, there is none. -/
theorem rd_none_all (l : List Nat) (hl : ∀ x ∈ l, 128 ≤ x) (n : Nat) : ¬ Rd l n := by
  rintro ⟨_, t, ht⟩
  obtain ⟨l', b', h1, _, h3, _, _⟩ := digs_form n
  have : b' ∈ l := by rw [← ht, h1]; simp
  have := hl b' this
  omega

theorem rd_none_five (l rest : List Nat) (hl : ∀ x ∈ l, 128 ≤ x) (h5 : l.length = 5) (n : Nat) : ¬ Rd (l ++ rest) n := by
  rintro ⟨hm, hp⟩
  have hlen := digs_length n hm
  have hp2 : digs n <+: l := List.prefix_of_prefix_length_le hp (List.prefix_append l rest) (by omega)
  exact rd_none_all l hl n ⟨hm, hp2⟩

theorem pow128 (i : Nat) (h : i < 5) : 128 ^ i ≤ 268435456 := by
  rcases i with _ | _ | _ | _ | _ | i
  · decide
  · decide
  · decide
  · decide
  · decide
  · omega

/-- What the reader's number tells, and where the reader stands behind it. -/
def NumPost (g : Nat) (s : ByteArray) (at_ : Nat) (w : World) (e : Ending) (w' : World) : Prop :=
  ((∃ n, Rd ((sb s).drop at_) n ∧ e = .returned (.tuple #[.int .i64 n, .bool true]) ∧ Row w' g 46 [.string s, .int .i64 ((at_ + (digs n).length : Nat) : Int)]) ∨
    ((¬ ∃ n, Rd ((sb s).drop at_) n) ∧ (∃ x, e = .returned (.tuple #[.int .i64 x, .bool false])) ∧ ∃ x, Row w' g 46 [.string s, .int .i64 x])) ∧ w.grownBy w' (some g)

theorem row_drewN {w : World} {g : Nat} {e : TypeId} {cur : List Value} (h : Row w g e cur) (n : Nat) : Row (w.drewN n) g e cur := h
theorem grown_drewN {a w : World} {r : Option Nat} (h : a.grownBy w r) (n : Nat) : a.grownBy (w.drewN n) r := ⟨h.os, h.tape, h.output, h.size, h.block⟩

theorem split_at {bs : List Nat} {i b : Nat} (h : i < bs.length) (hb : bs[i] = b) : bs = bs.take i ++ b :: bs.drop (i + 1) := by
  rw [← hb, List.getElem_cons_drop h, List.take_append_drop]

theorem num_yes {g : Nat} {s : ByteArray} {at_ i p N W b m : Nat} {w w' : World} (hw : w.grownBy w' (some g)) (hrow : Row w' g 46 [.string s, .int .i64 ((p + 1 : Nat) : Int)])
    (hp : p = at_ + i) (hps : p < s.size) (hN : N = val (((sb s).drop at_).take i)) (hW : W = 128 ^ i) (hL : ∀ x ∈ ((sb s).drop at_).take i, 128 ≤ x) (hb : s[p].toNat = b) (hm : m = b % 128 * W) (hb1 : b < 128)
    (hT : N + m ≤ 2147483647) (h0 : 0 < b ∨ W = 1) : NumPost g s at_ w (.returned (.tuple #[.int .i64 ((N + m : Nat) : Int), .bool true])) w' := by
  have hl : i < ((sb s).drop at_).length := by rw [List.length_drop, sb_length]; omega
  have hg : ((sb s).drop at_)[i] = b := by
    rw [List.getElem_drop]
    subst hp
    rw [sb_get s _ hps, hb]
  have hs := split_at hl hg
  have hlen : (((sb s).drop at_).take i).length = i := by rw [List.length_take]; omega
  have hval : N + m = val (((sb s).drop at_).take i ++ [b]) := by rw [val_snoc, hlen, ← hN, hm, hW]
  have h0' : ((sb s).drop at_).take i = [] ∨ 0 < b := by
    rcases h0 with h | h
    · exact .inr h
    · left
      have : i = 0 := by
        rcases Nat.eq_zero_or_pos i with h1 | h1
        · exact h1
        · exfalso
          have h2 : 128 ^ 1 ≤ 128 ^ i := Nat.pow_le_pow_right (by omega) h1
          omega
      subst this
      rfl
  have hd : digs (N + m) = ((sb s).drop at_).take i ++ [b] := by
    rw [hval]
    refine digs_val _ b (fun x hx => ⟨hL x hx, ?_⟩) hb1 h0'
    exact sb_lt s x (List.mem_of_mem_drop (List.mem_of_mem_take hx))
  refine ⟨.inl ⟨N + m, ⟨hT, ?_⟩, rfl, ?_⟩, hw⟩
  · rw [hd]
    exact ⟨((sb s).drop at_).drop (i + 1), by rw [List.append_assoc, List.singleton_append]; exact hs.symm⟩
  · rw [hd, List.length_append, hlen, List.length_singleton, ← Nat.add_assoc, ← hp]
    exact hrow

theorem num_no {g : Nat} {s : ByteArray} {at_ i p N W b m : Nat} {w w' : World} {x y : Int} (hw : w.grownBy w' (some g)) (hrow : Row w' g 46 [.string s, .int .i64 y])
    (hp : p = at_ + i) (hps : p < s.size) (hN : N = val (((sb s).drop at_).take i)) (hW : W = 128 ^ i) (hL : ∀ x ∈ ((sb s).drop at_).take i, 128 ≤ x) (hb : s[p].toNat = b) (hm : m = b % 128 * W) (hb1 : b < 128)
    (hT : 2147483647 < N + m ∨ (b = 0 ∧ W ≠ 1)) : NumPost g s at_ w (.returned (.tuple #[.int .i64 x, .bool false])) w' := by
  have hl : i < ((sb s).drop at_).length := by rw [List.length_drop, sb_length]; omega
  have hg : ((sb s).drop at_)[i] = b := by
    rw [List.getElem_drop]
    subst hp
    rw [sb_get s _ hps, hb]
  have hs := split_at hl hg
  have hlen : (((sb s).drop at_).take i).length = i := by rw [List.length_take]; omega
  have hval : N + m = val (((sb s).drop at_).take i ++ [b]) := by rw [val_snoc, hlen, ← hN, hm, hW]
  refine ⟨.inr ⟨?_, ⟨x, rfl⟩, y, hrow⟩, hw⟩
  rintro ⟨n, hn⟩
  have hn2 := hn
  rw [hs] at hn2
  obtain ⟨_, h2, h3⟩ := rd_of _ b _ hL hb1 hn2
  rw [← hval] at h2
  rcases hT with h | ⟨h, h'⟩
  · have := hn.1
    omega
  · rcases h3 with h3 | h3
    · have : i = 0 := by rw [h3] at hlen; simpa using hlen.symm
      subst this
      simp at hW
      omega
    · omega

theorem num_end {g : Nat} {s : ByteArray} {at_ i p : Nat} {w w' : World} {x y : Int} (hw : w.grownBy w' (some g)) (hrow : Row w' g 46 [.string s, .int .i64 y])
    (hp : p = at_ + i) (hL : ∀ x ∈ ((sb s).drop at_).take i, 128 ≤ x) (h : s.size ≤ p ∨ i = 5) (hps : p ≤ s.size) : NumPost g s at_ w (.returned (.tuple #[.int .i64 x, .bool false])) w' := by
  refine ⟨.inr ⟨?_, ⟨x, rfl⟩, y, hrow⟩, hw⟩
  rintro ⟨n, hn⟩
  have hbl : ((sb s).drop at_).length = s.size - at_ := by rw [List.length_drop, sb_length]
  rcases h with h | h
  · rw [List.take_of_length_le (by omega)] at hL
    exact rd_none_all _ hL n hn
  · subst h
    rw [← List.take_append_drop 5 ((sb s).drop at_)] at hn
    exact rd_none_five _ _ hL (by rw [List.length_take]; omega) n hn

set_option maxRecDepth 100000 in
set_option maxHeartbeats 2000000 in
theorem number_r (g : Nat) (s : ByteArray) (at_ : Nat) (w : World) (hr : Row w g 46 [.string s, .int .i64 at_]) (hat : at_ ≤ s.size) (hs : s.size ≤ 1000000000) :
    Calls Try.prog 26 #[.pointer (some ⟨g, 0, none⟩)] w fun e w' => NumPost g s at_ w e w' := by
  have c0 : w.cell? ⟨g, 0, none⟩ = some (.string s) := hr.cell 0
  have c1 : w.cell? ⟨g, 1, none⟩ = some (.int .i64 at_) := hr.cell 1
  have hg0 : w.grownBy w (some g) := World.grownBy.refl w _
  go_enter Try.func26, Try.ntmps26
  go_wp2
  go_loopw [4, 5] (fun n wt wr => ∃ i p N W : Nat, n = .int .i64 N ∧ wt = .int .i64 W ∧ i ≤ 5 ∧ p ≤ s.size ∧ Hid (p = at_ + i) ∧ Hid (N = val (((sb s).drop at_).take i)) ∧ Hid (W = 128 ^ i) ∧ Hid (∀ x ∈ ((sb s).drop at_).take i, 128 ≤ x) ∧
      Row wr g 46 [.string s, .int .i64 (p : Int)] ∧ w.grownBy wr (some g)) (fun _ wt _ => 128 ^ 6 - (intOf wt).toNat)
  case atStart => exact ⟨0, at_, 0, 1, rfl, rfl, by omega, hat, rfl, rfl, rfl, (by intro x hx; simp at hx : ∀ x ∈ ((sb s).drop at_).take 0, 128 ≤ x), hr, hg0⟩
  case round =>
    obtain ⟨i, p, N, W, rfl, rfl, hi, hps, HP, HN, HW, HL, hrow, hgr⟩ := hrel
    clear c0 c1
    have c0 : wr.cell? ⟨g, 0, none⟩ = some (.string s) := hrow.cell 0
    have c1 : wr.cell? ⟨g, 1, none⟩ = some (.int .i64 (p : Int)) := hrow.cell 1
    have f1 : wr.frozen? ⟨g, 1, none⟩ = false := hrow.free 1
    have hbl : ((sb s).drop at_).length = s.size - at_ := by rw [List.length_drop, sb_length]
    have HBL := Lib.hid hbl
    clear hbl
    by_cases h5 : i < 5
    · have hW : W ≤ 268435456 := by rw [HW.out]; exact pow128 i h5
      have hW0 : 0 < W := by rw [HW.out]; exact Nat.pow_pos (by omega)
      have hNlt : N < W := by
        rw [HN.out, HW.out]
        have := val_lt (((sb s).drop at_).take i)
        rw [List.length_take, HBL.out, Nat.min_eq_left (by have := HP.out; omega)] at this
        exact this
      by_cases hend : p < s.size
      · have hW2 : (W : Int) ≤ 2147483647 := by omega
        obtain ⟨b, hb⟩ : ∃ b, s[p].toNat = b := ⟨_, rfl⟩
        have hb256 : b < 256 := by rw [← hb]; exact UInt8.toNat_lt _
        obtain ⟨m, hm⟩ : ∃ m, m = b % 128 * W := ⟨_, rfl⟩
        have hm1 : m ≤ 127 * 268435456 := by rw [hm]; exact Nat.mul_le_mul (by omega) hW
        have hprod : ((b : Int) % 128) * (W : Int) = (m : Int) := by rw [hm, Int.natCast_mul]; rfl
        have HM := Lib.hid hm
        have HB := Lib.hid hb
        clear hm
        have HR : Hid (∀ k, Row ((wr.drewN k).setCell ⟨g, 1, none⟩ (.int .i64 ((p : Int) + 1))) g 46 [.string s, .int .i64 ((p + 1 : Nat) : Int)]) := fun k => (row_drewN hrow k).setCell 1 _
        have HG : Hid (∀ k, w.grownBy ((wr.drewN k).setCell ⟨g, 1, none⟩ (.int .i64 ((p : Int) + 1))) (some g)) := fun k => (grown_drewN hgr k).trans (grownBy_setCell _ g 1 _)
        by_cases hb1 : b < 128
        · by_cases hT : N + m ≤ 2147483647
          · by_cases hb0 : 0 < b
            · go_wp2_with fail
              go_quiet (fail)
              go_wp2_with fail
              go_quiet (fail)
              go_wp2_with fail
              refine (may_yes _ _ (by omega) (by omega)).mono ?_
              rintro e w2 ⟨rfl, rfl⟩
              go_wp2
              go_ret2
              exact num_yes (HG.out _) (HR.out _) HP.out hend HN.out HW.out HL.out HB.out HM.out hb1 hT (.inl hb0)
            · have hbz : b = 0 := by omega
              by_cases hw1 : W = 1
              · have HZ := Lib.hid hbz
                have HW1 := Lib.hid hw1
                have hwb : ((W : Int) == 1) = true := by rw [beq_iff_eq]; omega
                have hb00 : (b : Int) ≤ 0 := by omega
                clear hbz hw1 hb0
                go_wp2_with fail
                go_quiet (fail)
                go_wp2_with fail
                go_quiet (fail)
                go_wp2_with fail
                refine (may_yes _ _ (by omega) (by omega)).mono ?_
                rintro e w2 ⟨rfl, rfl⟩
                go_wp2
                go_ret2
                exact num_yes (HG.out _) (HR.out _) HP.out hend HN.out HW.out HL.out HB.out HM.out hb1 hT (.inr HW1.out)
              · have HZ := Lib.hid hbz
                have HW1 : Hid (W ≠ 1) := hw1
                have hwb : ((W : Int) == 1) = false := by rw [beq_eq_false_iff_ne]; omega
                have hb00 : (b : Int) ≤ 0 := by omega
                clear hbz hw1 hb0
                go_wp2_with fail
                go_quiet (fail)
                go_wp2_with fail
                go_quiet (fail)
                go_wp2_with fail
                refine (may_yes _ _ (by omega) (by omega)).mono ?_
                rintro e w2 ⟨rfl, rfl⟩
                go_wp2
                go_ret2
                exact num_no (HG.out _) (HR.out _) HP.out hend HN.out HW.out HL.out HB.out HM.out hb1 (.inr ⟨HZ.out, HW1.out⟩)
          · have hT2 : 2147483647 < N + m := by omega
            clear hT
            go_wp2_with fail
            go_quiet (fail)
            go_wp2_with fail
            go_quiet (fail)
            go_wp2_with fail
            refine (may_no _ _ (.inr (by omega))).mono ?_
            rintro e w2 ⟨rfl, rfl⟩
            go_wp2
            go_ret2
            exact num_no (HG.out _) (HR.out _) HP.out hend HN.out HW.out HL.out HB.out HM.out hb1 (.inl hT2)
        · go_wp2_with fail
          go_quiet (fail)
          go_wp2_with fail
          go_quiet (fail)
          go_wp2
          go_roundw
          case rel =>
            have hli : i < ((sb s).drop at_).length := by rw [HBL.out]; have := HP.out; omega
            have hgi : ((sb s).drop at_)[i] = b := by
              rw [List.getElem_drop, ← HB.out]
              have := HP.out
              subst this
              rw [sb_get s _ hend]
            have hlen : (((sb s).drop at_).take i).length = i := by rw [List.length_take]; omega
            refine ⟨i + 1, p + 1, N + m, W * 128, by go_num, by go_num, by omega, by omega, ?_, ?_, ?_, ?_, HR.out _, HG.out _⟩
            · show _ = _
              rw [HP.out, Nat.add_assoc]
            · show _ = _
              rw [List.take_succ_eq_append_getElem hli, hgi, val_snoc, hlen, ← HN.out, ← HW.out, HM.out]
            · show _ = _
              rw [HW.out, Nat.pow_succ]
            · intro x hx
              rw [List.take_succ_eq_append_getElem hli, hgi] at hx
              rcases List.mem_append.1 hx with h | h
              · exact HL.out x h
              · simp at h; omega
          case measure => simp [intOf]; omega
      · have hps2 : s.size ≤ p := by omega
        have hps3 : ¬ ((p : Int) < (s.size : Int)) := by omega
        have hps4 : decide ((p : Int) < (s.size : Int)) = false := by simpa using hps2
        go_wp2_with fail
        go_quiet (fail)
        go_wp2
        go_ret2
        exact num_end (grown_drewN hgr _) (row_drewN hrow _) HP.out HL.out (.inl hps2) hps
    · have hi5 : i = 5 := by omega
      have HI := Lib.hid hi5
      have hW : W = 34359738368 := by rw [HW.out, hi5]
      clear hi5
      by_cases hend : p < s.size
      · have hW2 : 2147483647 < (W : Int) := by omega
        have HWW := Lib.hid hW
        clear hW
        go_wp2_with fail
        go_quiet (fail)
        go_wp2
        go_ret2
        exact num_end (grown_drewN hgr _) (row_drewN hrow _) HP.out HL.out (.inr HI.out) hps
      · have hps2 : s.size ≤ p := by omega
        have hps4 : decide ((p : Int) < (s.size : Int)) = false := by simpa using hps2
        have HWW := Lib.hid hW
        clear hW
        go_wp2_with fail
        go_quiet (fail)
        go_wp2
        go_ret2
        exact num_end (grown_drewN hgr _) (row_drewN hrow _) HP.out HL.out (.inl hps2) hps
end Go.Proofs.Ytbgklmekeafmeaa
