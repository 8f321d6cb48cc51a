import Derived.Test.YtbgklmekeafmeaaW8
namespace Go.Proofs.Ytbgklmekeafmeaa
open Go.RowKit

/-- The bytes of some numbers, one behind the other. -/
def seqB (l : List Nat) : List Nat := l.flatMap digs
theorem seqB_snoc (l : List Nat) (n : Nat) : seqB (l ++ [n]) = seqB l ++ digs n := by simp [seqB]
theorem seqB_cons (n : Nat) (l : List Nat) : seqB (n :: l) = digs n ++ seqB l := by simp [seqB]

def nums (l : List Nat) : List Int := List.map (fun n : Nat => (n : Int)) l
@[simp] theorem nums_length (l : List Nat) : (nums l).length = l.length := by simp [nums]

theorem prefix_drop {a b c : List Nat} (h : a ++ b <+: c) : b <+: c.drop a.length := by
  obtain ⟨t, ht⟩ := h
  exact ⟨t, by rw [← ht, List.append_assoc, List.drop_left]⟩

theorem prefix_join {a b c : List Nat} (h : a <+: c) (h2 : b <+: c.drop a.length) : a ++ b <+: c := by
  obtain ⟨t, ht⟩ := h
  rw [← ht, List.drop_left] at h2
  obtain ⟨u, hu⟩ := h2
  exact ⟨u, by rw [← ht, ← hu, List.append_assoc]⟩

/-- Rows of numbers are told apart by their bytes. -/
theorem seq_take : ∀ (pre l : List Nat) (bs : List Nat), (∀ x ∈ pre, x ≤ 2147483647) → (∀ x ∈ l, x ≤ 2147483647) → seqB pre <+: bs → seqB l <+: bs → pre.length ≤ l.length → pre = l.take pre.length
  | [], _, _, _, _, _, _, _ => by simp
  | x :: pre, [], _, _, _, _, _, h => by simp at h
  | x :: pre, y :: l, bs, h1, h2, h3, h4, h5 => by
    rw [seqB_cons] at h3 h4
    have hx : Rd bs x := ⟨h1 x List.mem_cons_self, (List.prefix_append _ _).trans h3⟩
    have hy : Rd bs y := ⟨h2 y List.mem_cons_self, (List.prefix_append _ _).trans h4⟩
    have := rd_unique hx hy
    subst this
    have := seq_take pre l (bs.drop (digs x).length) (fun z hz => h1 z (List.mem_cons_of_mem _ hz)) (fun z hz => h2 z (List.mem_cons_of_mem _ hz)) (prefix_drop h3) (prefix_drop h4) (by simpa using h5)
    rw [List.length_cons, List.take_succ_cons, ← this]

/-- Of some bytes those of a row come first. -/
def RdRow (bs : List Nat) (l : List Nat) : Prop := l.length ≤ 4000 ∧ (∀ x ∈ l, x ≤ 2147483647) ∧ digs l.length ++ seqB l <+: bs

theorem rdRow_unique {bs l m : List Nat} (h1 : RdRow bs l) (h2 : RdRow bs m) : l = m := by
  have ha : Rd bs l.length := ⟨by have := h1.1; omega, (List.prefix_append _ _).trans h1.2.2⟩
  have hb : Rd bs m.length := ⟨by have := h2.1; omega, (List.prefix_append _ _).trans h2.2.2⟩
  have he := rd_unique ha hb
  have h3 := prefix_drop h1.2.2
  have h4 := prefix_drop h2.2.2
  rw [← he] at h4
  have := seq_take l m _ h1.2.1 h2.2.1 h3 h4 (by omega)
  rw [this, he, List.take_length]

def RowPost (g : Nat) (s : ByteArray) (a base : Nat) (w : World) (e : Ending) (w' : World) : Prop :=
  ((∃ l v, RdRow ((sb s).drop a) l ∧ e = .returned (.tuple #[v, .bool true]) ∧ w'.ownsRow base 3 1 v l.length (ints (nums l)) ∧ Row w' g 46 [.string s, .int .i64 ((a + (digs l.length ++ seqB l).length : Nat) : Int)]) ∨
    ((¬ ∃ l, RdRow ((sb s).drop a) l) ∧ e = .returned (.tuple #[.slice none 0 0, .bool false]) ∧ ∃ x, Row w' g 46 [.string s, .int .i64 x])) ∧ Below (min g base) w w' ∧ w.heap.size ≤ w'.heap.size

theorem below_of_grown' {B : Nat} {a w w' : World} {g : Nat} (h : Below B a w) (hg : w.grownBy w' (some g)) (hB : B ≤ g) (hs : B ≤ w.heap.size) : Below B a w' := below_of_grown h hg hB hs

set_option maxHeartbeats 4000000 in
theorem numbers_r (g : Nat) (s : ByteArray) (a : Nat) (w : World) (hr : Row w g 46 [.string s, .int .i64 a]) (ha : a ≤ s.size) (hs : s.size ≤ 1000000000) :
    Calls Try.prog 30 #[.pointer (some ⟨g, 0, none⟩)] w fun e w' => RowPost g s a w.heap.size w e w' := by
  have hbl : ((sb s).drop a).length = s.size - a := by rw [List.length_drop, sb_length]
  have HBL := Lib.hid hbl
  have hgl := hr.lt
  clear hbl
  have hmin : min g w.heap.size = g := by omega
  have HMIN := Lib.hid hmin
  clear hmin
  go_enter Try.func30, Try.ntmps30
  go_wp2_with fail
  refine (number_r g s a w hr ha hs).mono ?_
  rintro e w1 ⟨hcase, hg1⟩
  have s1 := hg1.size
  have hB1 : Below g w w1 := below_of_grown (Below.refl _ _) hg1 (Nat.le_refl _) (by omega)
  rcases hcase with ⟨n, hn, rfl, hrow⟩ | ⟨hno, ⟨x, rfl⟩, y, hrow⟩
  · have HN := Lib.hid hn
    have hnm : n ≤ 2147483647 := hn.1
    clear hn
    by_cases h4 : n ≤ 4000
    · have d4 : decide ((4000 : Int) < (n : Int)) = false := by simp; omega
      obtain ⟨i0, hi0, hz0, hz1, hz2⟩ := info_parts info_int
      go_wp2_with (at_make; refine wpList_make_own _ rfl _ _ 22 rfl (w.heap.size) 3 i0 (.int .i64 0) 1 Try.underlying22 hi0 hz0 hz1 _ _ _ n rfl rfl rfl (by rw [hz2]; omega) (by simp only [maxLen]; omega) s1 ?_; intro w2 hown2 hg2)
      have s2 := hg2.size
      have hrow2 := hrow.grown hg2 (by simp)
      have hB2 : Below g w w2 := hB1.grown hg2 (by omega) (by simp)
      clear hz0 hz1 hz2 hi0
      go_loopw [6] (fun v wr => ∃ (pre : List Nat) (q : Nat), pre.length ≤ n ∧ Hid (∀ x ∈ pre, x ≤ 2147483647) ∧ Hid (digs n ++ seqB pre <+: (sb s).drop a) ∧ Hid (q = a + (digs n ++ seqB pre).length) ∧ q ≤ s.size ∧
        wr.ownsRow w.heap.size 3 1 v pre.length (ints (nums pre)) ∧ Row wr g 46 [.string s, .int .i64 (q : Int)] ∧ Below g w wr ∧ w.heap.size ≤ wr.heap.size) (fun v _ => n - (match v with | .slice _ k _ => k | _ => 0))
      case atStart =>
        have hln := rd_len HN.out
        refine ⟨[], a + (digs n).length, Nat.zero_le _, by intro x hx; simp at hx, ?_, ?_, ?_, hown2, hrow2, hB2, by omega⟩
        · show _ <+: _
          rw [show seqB [] = [] from rfl, List.append_nil]
          exact HN.out.2
        · show _ = _
          rw [show seqB [] = [] from rfl, List.append_nil]
        · have := HBL.out
          omega
      case round =>
        obtain ⟨pre, q, hpl, HV, HP, HQ, hqs, hown, hrowr, hB, hsz⟩ := hrel
        obtain ⟨A, c, rfl⟩ := own_shape hown
        obtain ⟨k, hk⟩ : ∃ k, pre.length = k := ⟨_, rfl⟩
        have HK := Lib.hid hk
        have hown0 := Lib.hid hown
        rw [hk] at hown hpl
        rw [hk]
        clear hk
        by_cases hlt : k < n
        · go_wp2_with fail
          refine (number_r g s q wr hrowr hqs hs).mono ?_
          rintro e w3 ⟨hcase, hg3⟩
          have s3 := hg3.size
          have hown3 := hown.kept hg3 (.inr (own_ne hown hgl))
          have hB3 := below_of_grown hB hg3 (Nat.le_refl _) (by omega)
          rcases hcase with ⟨m, hm, rfl, hrow3⟩ | ⟨hno, ⟨x, rfl⟩, y, hrow3⟩
          · have HM := Lib.hid hm
            have hm2 : m ≤ 2147483647 := hm.1
            have hmlen := rd_len hm
            rw [List.length_drop, sb_length] at hmlen
            clear hm
            go_wp2_with (at_builtin; (refine wpList_app _ rfl (.tmp 33) (.tmp 35) 22 rfl w.heap.size 3 (.int .i64 0) 1 8 Try.underlying22 info_int rfl (by decide) (.slice A k c) k (ints (nums pre)) rfl (hown3.alloc _) (some ⟨w3.heap.size, 0, none⟩) 1 1 [.int .i64 m] rfl rfl (At.one _ _ _) (by simp [Value.oneCell']) (by simp only [maxLen]; omega) (by omega) (by simp; omega) ?_); intro v5 w5 hown5 hg5 hv5; obtain ⟨g5, cap5, rfl⟩ := ownsRow_succ hown5)
            go_roundw
            case rel =>
              have hnbl : (some g : Option Nat) ≠ Value.ownBlock (.slice A k c) := fun e => own_ne hown3 hgl e.symm
              refine ⟨pre ++ [m], q + (digs m).length, by simp; have := HK.out; omega, ?_, ?_, ?_, by omega, ?_, (hrow3.alloc _).grown hg5 hnbl, ?_, ?_⟩
              · intro x hx
                rcases List.mem_append.1 hx with h | h
                · exact HV.out x h
                · simp at h; omega
              · show _ <+: _
                rw [seqB_snoc, ← List.append_assoc]
                refine prefix_join HP.out ?_
                have := HM.out.2
                rw [List.drop_drop, ← HQ.out]
                exact this
              · show _ = _
                rw [HQ.out, seqB_snoc]
                simp only [List.length_append]
                omega
              · rw [List.length_append, HK.out]
                have : ints (nums (pre ++ [m])) = ints (nums pre) ++ [.int .i64 m] := by simp [ints, nums]
                rw [this]
                exact hown5
              · exact (hB3.alloc (by omega) _).grown hg5 (by simp; omega) (by intro b hb; have := (hown3.lt b hb).1; omega)
              · have := hg5.size
                simp only [World.size_alloc] at this
                omega
            case measure => simp; omega
          · have HNO : Hid (¬ ∃ l, RdRow ((sb s).drop a) l) := by
              rintro ⟨l, hl1, hl2, hl3⟩
              have e1 : n = l.length := rd_unique HN.out ⟨by omega, (List.prefix_append _ _).trans hl3⟩
              subst e1
              have h5 := seq_take pre l _ HV.out hl2 (prefix_drop HP.out) (prefix_drop hl3) (by rw [HK.out]; omega)
              rw [HK.out] at h5
              apply hno
              refine ⟨l[k], hl2 _ (List.getElem_mem hlt), ?_⟩
              have h6 : seqB l = seqB pre ++ (digs l[k] ++ seqB (l.drop (k + 1))) := by
                rw [h5, ← seqB_cons, List.getElem_cons_drop hlt]
                unfold seqB
                rw [← List.flatMap_append, List.take_append_drop]
              rw [h6, ← List.append_assoc] at hl3
              have h7 := prefix_drop hl3
              rw [List.drop_drop, ← HQ.out] at h7
              exact (List.prefix_append _ _).trans h7
            clear hno
            go_wp2
            go_ret2
            exact ⟨.inr ⟨HNO.out, rfl, _, hrow3⟩, by rw [HMIN.out]; exact hB3, by omega⟩
        · have hkn : k = n := by omega
          subst hkn
          go_wp2
          go_ret2
          refine ⟨.inl ⟨pre, _, ⟨by rw [HK.out]; exact h4, HV.out, by rw [HK.out]; exact HP.out⟩, rfl, by rw [HK.out]; exact hown, ?_⟩, by rw [HMIN.out]; exact hB, hsz⟩
          rw [HK.out, ← HQ.out]
          exact hrowr
    · have h6 : (4000 : Int) < (n : Int) := by omega
      have HNO : Hid (¬ ∃ l, RdRow ((sb s).drop a) l) := by
        rintro ⟨l, hl1, hl2, hl3⟩
        have e1 : n = l.length := rd_unique HN.out ⟨by omega, (List.prefix_append _ _).trans hl3⟩
        omega
      clear h4
      go_wp2
      go_ret2
      exact ⟨.inr ⟨HNO.out, rfl, _, hrow⟩, by rw [HMIN.out]; exact hB1, s1⟩
  · have HNO : Hid (¬ ∃ l, RdRow ((sb s).drop a) l) := by
      rintro ⟨l, hl1, hl2, hl3⟩
      exact hno ⟨l.length, by omega, (List.prefix_append _ _).trans hl3⟩
    clear hno
    go_wp2
    go_ret2
    exact ⟨.inr ⟨HNO.out, rfl, _, hrow⟩, by rw [HMIN.out]; exact hB1, s1⟩
end Go.Proofs.Ytbgklmekeafmeaa
