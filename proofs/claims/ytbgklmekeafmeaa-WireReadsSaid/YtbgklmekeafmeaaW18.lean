import Derived.Test.YtbgklmekeafmeaaW17
namespace Go.Proofs.Ytbgklmekeafmeaa
open Go.RowKit

theorem rl_no {s : ByteArray} {a : Nat} (h : ¬ ∃ l, RdRow ((sb s).drop a) l) : ¬ ∃ l next, RlAt s a l next := by
  rintro ⟨l, next, b, hb, _, hl, _⟩
  obtain rfl : a = b := by omega
  exact h ⟨l, hl⟩

theorem row_stuck {bs pre : List Nat} {n k q : Nat} (HN : Rd bs n) (HV : ∀ x ∈ pre, x ≤ 2147483647) (HP : digs n ++ seqB pre <+: bs) (hk : pre.length = k) (hlt : k < n) (hq : q = (digs n ++ seqB pre).length)
    (hno : ¬ ∃ m, Rd (bs.drop q) m) : ¬ ∃ l, RdRow bs l := by
  rintro ⟨l, hl1, hl2, hl3⟩
  have e1 : n = l.length := rd_unique HN ⟨by omega, (List.prefix_append _ _).trans hl3⟩
  subst e1
  have h5 := seq_take pre l _ HV hl2 (prefix_drop HP) (prefix_drop hl3) (by omega)
  rw [hk] at h5
  apply hno
  refine ⟨l[k], hl2 _ (List.getElem_mem hlt), ?_⟩
  have h6 : seqB l = seqB pre ++ (digs l[k] ++ seqB (l.drop (k + 1))) := by
    rw [h5, ← seqB_cons, List.getElem_cons_drop hlt]
    unfold seqB
    rw [← List.flatMap_append, List.take_append_drop]
  rw [h6, ← List.append_assoc] at hl3
  have h7 := prefix_drop hl3
  rw [← hq] at h7
  exact (List.prefix_append _ _).trans h7

set_option maxHeartbeats 4000000 in
theorem refReadNumbers_any (s : ByteArray) (p : Int) (w : World) (hs : s.size ≤ 1000000000) (hp : i64 p) :
    Calls Try.prog 22 #[.string s, .int .i64 p] w fun e w' => RlPost s p w.heap.size e w' ∧ Below w.heap.size w w' := by
  go_enter Try.func22, Try.ntmps22
  go_wp2_with fail
  refine (refReadNumber_any s p w hs hp).mono ?_
  rintro e w1 ⟨⟨n, q0, h, rfl⟩ | ⟨h, rfl⟩, hB1⟩
  · have hqn := rdAt_le h
    obtain ⟨hq, hn⟩ := hqn
    obtain ⟨a, rfl, ha, hr, hq0⟩ := h
    have HN := Lib.hid hr
    have HQ0 := Lib.hid hq0
    have hs1 := hB1.size
    clear hr hq0
    by_cases h4 : n ≤ 4000
    · have d4 : decide ((4000 : Int) < (n : Int)) = false := by simp; omega
      go_wp2_with fail
      go_loopw [8, 10, 11] (fun qv v iv wr => ∃ (pre : List Nat) (q k : Nat), Hid (pre.length = k) ∧ qv = .int .i64 q ∧ iv = .int .i64 k ∧ k ≤ n ∧ Hid (∀ x ∈ pre, x ≤ 2147483647) ∧ Hid (digs n ++ seqB pre <+: (sb s).drop a) ∧
        Hid (q = a + (digs n ++ seqB pre).length) ∧ q ≤ s.size ∧ wr.ownsRow w.heap.size 3 1 v k (ints (nums pre)) ∧ Below w.heap.size w wr) (fun _ _ iv _ => n - (intOf iv).toNat)
      case atStart =>
        refine ⟨[], q0, 0, rfl, rfl, rfl, Nat.zero_le _, by intro x hx; simp at hx, ?_, ?_, hq, World.ownsRow_nil _ _ _ _, hB1⟩
        · show _ <+: _
          rw [show seqB [] = [] from rfl, List.append_nil]
          exact HN.out.2
        · show _ = _
          rw [show seqB [] = [] from rfl, List.append_nil]
          exact HQ0.out
      case round =>
        obtain ⟨pre, q, k, HK, rfl, rfl, hkn, HV, HP, HQ, hqs, hown, hB⟩ := hrel
        obtain ⟨A, c, rfl⟩ := own_shape hown
        have hsz := hB.size
        by_cases hlt : k < n
        · go_wp2_with fail
          refine (refReadNumber_any s q wr hs ⟨by omega, by omega⟩).mono ?_
          rintro e w3 ⟨⟨m, y, hm, rfl⟩ | ⟨hno, rfl⟩, hB3⟩
          · have hs3 := hB3.size
            have hym := rdAt_le hm
            obtain ⟨hy, hm2⟩ := hym
            have HM := Lib.hid ((rdAt_nat hqs m y).1 hm)
            clear hm
            have hlo : Hid (∀ b, (Value.slice A k c).ownBlock = some b → w.heap.size ≤ b) := fun b hb => (hown.lt b hb).1
            have hown3 := own_below hown hB3
            have k3 := hB.trans (hB3.mono hsz)
            clear hown hB hB3
            go_wp2_with (at_builtin; (refine wpList_app _ rfl (.tmp 42) (.tmp 44) 22 rfl w.heap.size 3 (.int .i64 0) 1 8 Try.underlying22 info_int rfl (by decide) (.slice A k c) k (ints (nums pre)) rfl (hown3.alloc _) (some ⟨w3.heap.size, 0, none⟩) 1 1 [.int .i64 m] rfl rfl (At.one _ _ _) (by simp [Value.oneCell']) (by simp only [maxLen]; omega) (by omega) (by simp; omega) ?_); intro v5 w5 hown5 hg5 hv5; obtain ⟨g5, cap5, rfl⟩ := ownsRow_succ hown5)
            go_roundw
            case rel =>
              refine ⟨pre ++ [m], y, k + 1, ?_, by go_num, by go_num, by omega, ?_, ?_, ?_, hy, ?_, ?_⟩
              · show _ = _
                rw [List.length_append, HK.out]
                rfl
              · intro x hx
                rcases List.mem_append.1 hx with h | h
                · exact HV.out x h
                · simp at h; omega
              · show _ <+: _
                rw [seqB_snoc, ← List.append_assoc]
                refine prefix_join HP.out ?_
                have := HM.out.1.2
                rw [List.drop_drop, ← HQ.out]
                exact this
              · show _ = _
                rw [HM.out.2, HQ.out, seqB_snoc]
                simp only [List.length_append]
                omega
              · have : ints (nums (pre ++ [m])) = ints (nums pre) ++ [.int .i64 m] := by simp [ints, nums]
                rw [this]
                exact hown5
              · exact (k3.alloc (by omega) _).grown hg5 (by simp; omega) (by intro b hb; exact hlo.out b hb)
            case measure => simp [intOf]; omega
          · have HNO : Hid (¬ ∃ l next, RlAt s a l next) := by
              apply rl_no
              refine row_stuck HN.out HV.out HP.out HK.out hlt rfl ?_
              rintro ⟨m, hm⟩
              rw [List.drop_drop, ← HQ.out] at hm
              exact hno ⟨m, _, (rdAt_nat hqs m _).2 ⟨hm, rfl⟩⟩
            clear hno
            go_wp2
            go_ret3
            exact ⟨.inr ⟨HNO.out, rfl⟩, hB.trans (hB3.mono hsz)⟩
        · have hkn2 : k = n := by omega
          have HKN := Lib.hid hkn2
          go_wp2
          go_ret3
          refine ⟨.inl ⟨pre, _, q, ⟨a, rfl, ha, ⟨by rw [HK.out]; omega, HV.out, ?_⟩, ?_⟩, ?_, rfl⟩, hB⟩
          · rw [HK.out, HKN.out]; exact HP.out
          · rw [HK.out, HKN.out]; exact HQ.out
          · rw [HK.out]; exact hown
    · have d4 : decide ((4000 : Int) < (n : Int)) = true := by simp; omega
      have HNO : Hid (¬ ∃ l next, RlAt s a l next) := by
        apply rl_no
        rintro ⟨l, hl1, hl2, hl3⟩
        have e1 : n = l.length := rd_unique HN.out ⟨by omega, (List.prefix_append _ _).trans hl3⟩
        omega
      clear h4
      go_wp2
      go_ret3
      exact ⟨.inr ⟨HNO.out, rfl⟩, hB1⟩
  · have HNO : Hid (¬ ∃ l next, RlAt s p l next) := by
      rintro ⟨l, next, b, hb, hbs, ⟨hl1, hl2, hl3⟩, _⟩
      exact h ⟨l.length, _, b, hb, hbs, ⟨by omega, (List.prefix_append _ _).trans hl3⟩, rfl⟩
    clear h
    go_wp2
    go_ret3
    exact ⟨.inr ⟨HNO.out, rfl⟩, hB1⟩
end Go.Proofs.Ytbgklmekeafmeaa
