import Derived.Test.YtimiedahbmfkhaaT6
namespace Go.Proofs.Ytimiedahbmfkhaa
open Go.RowKit

theorem info_sl : (Try.prog.info? 22).map (fun i => (i.zero, i.size, i.bytes)) = some (some (.slice none 0 0), 1, 24) := by kernel_rfl

/-- Block G has rows of its own, no two of one block: the j-th one reads as L j. -/
def Rows2 (w : World) (G base n : Nat) (vs : List Value) (L : Nat → List Int) : Prop :=
  vs.length = n ∧ Row w G 22 vs ∧ (∀ (j : Nat) (v : Value), vs[j]? = some v → w.ownsRow base 3 1 v (L j).length (ints (L j))) ∧
    (∀ (i j : Nat) (u v : Value), i ≠ j → vs[i]? = some u → vs[j]? = some v → u.ownBlock = none ∨ u.ownBlock ≠ v.ownBlock)

theorem Rows2.load {w : World} {G base n : Nat} {vs : List Value} {L : Nat → List Int} (h : Rows2 w G base n vs L) {j : Nat} (hj : j < n) : ∃ v, vs[j]? = some v ∧ w.cell? ⟨G, j, none⟩ = some v ∧ w.ownsRow base 3 1 v (L j).length (ints (L j)) := by
  obtain ⟨h1, h2, h3, _⟩ := h
  have : j < vs.length := by omega
  exact ⟨vs[j], List.getElem?_eq_getElem this, by rw [h2.cell, List.getElem?_eq_getElem this], h3 j _ (List.getElem?_eq_getElem this)⟩

theorem Rows2.step {w w5 : World} {G n j : Nat} {vs : List Value} {L L' : Nat → List Int} {v v5 : Value} {x : Int} {o : Obj} (h : Rows2 w G (G + 1) n vs L) (hj : vs[j]? = some v)
    (H5 : w5.ownsRow (G + 1) 3 1 v5 ((L j).length + 1) (ints (L j) ++ [.int .i64 x])) (hg5 : (w.alloc o).grownBy w5 v.ownBlock) (hv5 : v5.ownBlock = v.ownBlock ∨ v5.ownBlock = some (w.alloc o).heap.size)
    (hL : L' j = L j ++ [x]) (hL2 : ∀ i, i < n → i ≠ j → L' i = L i) : Rows2 (w5.setCell ⟨G, j, none⟩ v5) G (G + 1) n (vs.set j v5) L' := by
  obtain ⟨h1, h2, h3, h4⟩ := h
  have hvown := h3 j v hj
  have hjl : j < vs.length := (List.getElem?_eq_some_iff.1 hj).1
  have hneG : v.ownBlock ≠ some G := own_ne hvown (by omega)
  have r5 : Row w5 G 22 vs := (h2.alloc o).grown hg5 (fun e => hneG e.symm)
  have hset : w5.grownBy (w5.setCell ⟨G, j, none⟩ v5) (some G) := grownBy_setCell w5 G j v5
  refine ⟨by simpa using h1, r5.setCell j v5, ?_, ?_⟩
  · intro i u hu
    by_cases hij : i = j
    · subst hij
      rw [List.getElem?_set_self hjl] at hu
      injection hu with hu
      subst hu
      rw [hL]
      have := H5.kept hset (.inr (own_ne H5 (by omega)))
      rw [ints_append, List.length_append]
      simpa [ints] using this
    · rw [List.getElem?_set_ne (by omega)] at hu
      have hi : i < n := by rw [← h1]; exact (List.getElem?_eq_some_iff.1 hu).1
      rw [hL2 i hi hij]
      have hu2 := h3 i u hu
      have := (hu2.alloc o).kept hg5 (by
        rcases h4 i j u v hij hu hj with h | h
        · exact .inl h
        · exact .inr h)
      exact this.kept hset (.inr (own_ne this (by omega)))
  · intro i k u u' hik hu hu'
    have key : ∀ (i : Nat) (u : Value), i ≠ j → vs[i]? = some u → (u.ownBlock = none ∨ u.ownBlock ≠ v5.ownBlock) := by
      intro i u hij hu
      rcases h4 i j u v hij hu hj with h | h
      · exact .inl h
      · rcases hv5 with e | e
        · exact .inr (by rw [e]; exact h)
        · cases hb : u.ownBlock with
          | none => exact .inl rfl
          | some b =>
            refine .inr ?_
            rw [e]
            have := ((h3 i u hu).lt b hb).2
            simp
            omega
    by_cases hi : i = j
    · subst hi
      rw [List.getElem?_set_self hjl] at hu
      injection hu with hu
      subst hu
      rw [List.getElem?_set_ne (by omega)] at hu'
      rcases key k u' (by omega) hu' with h | h
      · cases hb : v5.ownBlock with
        | none => exact .inl rfl
        | some b => exact .inr (by rw [h]; simp)
      · exact .inr (fun e => h e.symm)
    · rw [List.getElem?_set_ne (by omega)] at hu
      by_cases hk : k = j
      · subst hk
        rw [List.getElem?_set_self hjl] at hu'
        injection hu' with hu'
        subst hu'
        exact key i u hi hu
      · rw [List.getElem?_set_ne (by omega)] at hu'
        exact h4 i k u u' hik hu hu'

set_option maxHeartbeats 2000000 in
theorem deal_ok (A : Option Addr) (c : Nat) (ps : List Int) (parts : Nat) (w : World) (hx : At w A (ints ps)) (hl : ps.length ≤ 100000) (h1 : 1 ≤ parts) (h2 : parts ≤ 100) :
    Calls Try.prog 16 #[.slice A ps.length c, .int .i64 parts] w fun e w' => ∃ vs, e = .returned (.slice (some ⟨w.heap.size, 0, none⟩) parts parts) ∧
      Rows2 w' w.heap.size (w.heap.size + 1) parts vs (dealRow ps ps.length parts) ∧ Below w.heap.size w w' := by
  have hp1 : (1 : Int) ≤ (parts : Int) := by omega
  have hp2 : (parts : Int) ≤ 100 := by omega
  go_enter Try.func16, Try.ntmps16
  go_wp2_with (at_make; refine wpList_mk rfl _ _ 32 rfl 22 (.slice none 0 0) 1 24 Try.underlying32 info_sl parts rfl rfl (by omega) (by simp only [maxLen]; omega) ?_; intro w1 H1 hg1 Hs1)
  go_loopw [18] (fun i wr => ∃ (k : Nat) (vs : List Value), i = .int .i64 k ∧ k ≤ ps.length ∧ Hid (Rows2 wr w.heap.size (w.heap.size + 1) parts vs (dealRow ps k parts)) ∧ Below w.heap.size w wr) (fun i _ => ps.length - (intOf i).toNat)
  case atStart =>
    refine ⟨0, List.replicate parts (.slice none 0 0), rfl, by omega, ?_, (Below.refl _ _).grown hg1 (Nat.le_refl _) (by simp)⟩
    have hr := H1.out
    have e0 : (Value.slice none 0 0).cells = #[.slice none 0 0] := rfl
    rw [e0, toList_madeCells_one, Nat.mul_one] at hr
    refine ⟨by simp, hr, ?_, ?_⟩
    · intro j v hv
      have hj : j < parts := by have := (List.getElem?_eq_some_iff.1 hv).1; simpa using this
      rw [List.getElem?_replicate, if_pos hj] at hv
      injection hv with hv
      subst hv
      have : dealRow ps 0 parts j = [] := List.eq_nil_of_length_eq_zero (by rw [dealRow_length, cnt_zero parts j hj])
      rw [this]
      exact World.ownsRow_nil _ _ _ _
    · intro i j u v _ hu _
      left
      have hi : i < parts := by have := (List.getElem?_eq_some_iff.1 hu).1; simpa using this
      rw [List.getElem?_replicate, if_pos hi] at hu
      injection hu with hu
      subst hu
      rfl
  case round =>
    obtain ⟨k, vs, rfl, hk, HR, hB⟩ := hrel
    have hsz := hB.size
    by_cases hlt : k < ps.length
    · obtain ⟨b, off, rfl, hb1, hc1⟩ := (hx.below hB).int hlt
      have hjp : k % parts < parts := Nat.mod_lt _ (by omega)
      obtain ⟨v, hv, hc2, hown⟩ := HR.out.load hjp
      obtain ⟨j, hj⟩ : ∃ j, k % parts = j := ⟨_, rfl⟩
      have hji : ((k : Int).tmod (parts : Int)) = (j : Int) := by rw [← hj]; rfl
      have hpz : ¬ parts = 0 := by omega
      rw [hj] at hc2 hjp hown hv
      have HJ := Lib.hid hj
      have HV := Lib.hid hv
      clear hj hv
      have hj0 : (0 : Int) ≤ (j : Int) := by omega
      have hj1 : (j : Int) < (parts : Int) := by omega
      have hdl := dealRow_length ps k parts j
      have hck : cnt k parts j ≤ k + parts := by
        unfold cnt
        exact Nat.le_trans (Nat.div_le_self _ _) (by omega)
      have hlen : (dealRow ps k parts j).length ≤ 1000000 := by omega
      have hne : v.ownBlock ≠ some w.heap.size := own_ne hown (by omega)
      have HNE := Lib.hid hne
      clear hne hdl hck
      have hN2 : w.heap.size + 1 ≤ wr.heap.size := by have := HR.out.2.1.lt; omega
      have hc3 : (wr.alloc (Obj.cells #[Value.int IntKind.i64 ps[k]] 3)).cell? ⟨w.heap.size, j, none⟩ = some v := by rw [((HR.out.2.1).alloc _).cell]; exact HV.out
      go_wp2_with fail
      go_region_law (refine step_app rfl (.tmp 32) (.tmp 34) 22 rfl (w.heap.size + 1) 3 (.int .i64 0) 1 8 Try.underlying22 info_int rfl (by decide) v _ _ (by simp [Act.eval, Act.put]) (hown.alloc _) (some ⟨wr.heap.size, 0, none⟩) 1 1 [.int .i64 ps[k]] (by simp [Act.eval, Act.put]) rfl (At.one _ _ _) (by simp [Value.oneCell']) (by simp only [maxLen]; omega) (by omega) (by simp; omega) ?_; intro v5 w5 H5 hg5 hv5; obtain ⟨g5, cap5, rfl⟩ := own_succ H5.out; have r5 := Lib.hid ((HR.out.2.1.alloc (w := wr.drew) _).grown hg5.out (fun e => HNE.out e.symm)); have c5 : w5.cell? ⟨w.heap.size, j, none⟩ = some v := (r5.out.cell j).trans HV.out; have f5 : w5.frozen? ⟨w.heap.size, j, none⟩ = false := r5.out.free j)
      all_goals
        go_wp2
        go_roundw
        case rel =>
          have hgd : ps.getD k 0 = ps[k] := by rw [List.getD, List.getElem?_eq_getElem hlt]; rfl
          have hstep := Rows2.step (w := wr.drew) (L' := dealRow ps (k + 1) parts) HR.out HV.out H5.out hg5.out hv5.out (by rw [← HJ.out, dealRow_hit ps k parts (by omega), hgd]) (fun i hi hne => dealRow_miss ps k parts i (by omega) hi (by rw [HJ.out]; omega))
          refine ⟨k + 1, vs.set j _, by go_num, by omega, hstep, ?_⟩
          have h0 := ((below_drewN hB 1).alloc (o := Obj.cells #[Value.int IntKind.i64 ps[k]] 3) (by exact hsz)).grown hg5.out (by simp; omega) (by intro g hg; have := (hown.lt g hg).1; omega)
          exact h0.setCell (p := ⟨w.heap.size, j, none⟩) (Nat.le_refl _) _
        case measure => simp [intOf]; omega
    · have hkk : k = ps.length := by omega
      subst hkk
      go_wp2
      go_ret
      exact ⟨vs, rfl, HR.out, hB⟩

theorem deal_bad (v : Value) (parts : Int) (w : World) (h : parts < 1 ∨ 100 < parts) :
    Calls Try.prog 16 #[v, .int .i64 parts] w fun e w' => e = .returned (.slice none 0 0) ∧ w = w' := by
  by_cases h1 : parts < 1
  · go_enter Try.func16, Try.ntmps16
    go_wp2
    go_ret
    exact ⟨rfl, rfl⟩
  · have h2 : 1 ≤ parts := by omega
    have h3 : 100 < parts := by omega
    clear h h1
    go_enter Try.func16, Try.ntmps16
    go_wp2
    go_ret
    exact ⟨rfl, rfl⟩

theorem sum_take_succ (l : List Nat) (k : Nat) (h : k < l.length) : (l.take (k + 1)).sum = (l.take k).sum + l[k] := by
  rw [List.take_succ_eq_append_getElem h, List.sum_append, List.sum_singleton]

set_option maxHeartbeats 4000000 in
theorem deals_walk (A : Option Addr) (len c : Nat) (ps : List Int) (parts : Int) (w : World) (hl : ps.length = len) (hx : At w A (ints ps)) (hm : len ≤ 9223372036854775807) (hpr : i64 parts) :
    Calls Try.prog 7 #[.slice A len c, .int .i64 parts] w fun e w' => e = .returned (.bool true) ∧ Below w.heap.size w w' := by
  subst hl
  obtain ⟨hpr1, hpr2⟩ := hpr
  by_cases h1 : 200 < ps.length
  · go_enter Try.func7, Try.ntmps7
    go_wp2
    go_ret
    exact ⟨rfl, Below.refl _ _⟩
  have h2 : ps.length ≤ 200 := by omega
  clear h1
  by_cases h3 : parts < 1
  · go_enter Try.func7, Try.ntmps7
    go_wp2_with fail
    refine (deal_bad _ parts w (.inl h3)).mono ?_
    rintro e w1 ⟨rfl, rfl⟩
    go_wp2_with fail
    refine (turns_any w).mono ?_
    rintro e w1 ⟨rfl, hB⟩
    go_wp2
    go_ret
    exact ⟨rfl, hB⟩
  by_cases h4 : 100 < parts
  · have h3' : 1 ≤ parts := by omega
    clear h3
    go_enter Try.func7, Try.ntmps7
    go_wp2_with fail
    refine (deal_bad _ parts w (.inr h4)).mono ?_
    rintro e w1 ⟨rfl, rfl⟩
    go_wp2_with fail
    refine (turns_any w).mono ?_
    rintro e w1 ⟨rfl, hB⟩
    go_wp2
    go_ret
    exact ⟨rfl, hB⟩
  have h5 : 1 ≤ parts := by omega
  have h6 : parts ≤ 100 := by omega
  obtain ⟨m, rfl⟩ := Int.eq_ofNat_of_zero_le (show 0 ≤ parts by omega)
  clear h3 h4 hpr1 hpr2
  have hm1 : 1 ≤ m := by omega
  go_enter Try.func7, Try.ntmps7
  go_wp2_with fail
  refine (deal_ok A c ps m w hx (by omega) hm1 (by omega)).mono ?_
  rintro e w1 ⟨vs, rfl, HR, hB⟩
  have HR := Lib.hid HR
  have s1 := hB.size
  go_wp2
  go_loop [6, 7] (fun n i => ∃ k N : Nat, k ≤ m ∧ i = .int .i64 k ∧ n = .int .i64 N ∧ Hid (N = (List.map (cnt ps.length m) (List.range k)).sum) ∧ N ≤ 1000 * k) (fun _ i => m - (intOf i).toNat)
  case atStart => exact ⟨0, 0, by omega, rfl, rfl, rfl, by omega⟩
  case round =>
    obtain ⟨k, N, hk, rfl, rfl, HN, hN⟩ := hrel
    by_cases hlt : k < m
    · obtain ⟨v, hv, hc, hown⟩ := HR.out.load hlt
      obtain ⟨A2, c2, rfl⟩ := own_shape hown
      have hdl := dealRow_length ps ps.length m k
      have hcb : cnt ps.length m k ≤ 300 := by
        unfold cnt
        exact Nat.le_trans (Nat.div_le_self _ _) (by omega)
      obtain ⟨q, hq⟩ : ∃ q, (dealRow ps ps.length m k).length = q := ⟨_, rfl⟩
      rw [hq] at hc
      have HQ : Hid (q = cnt ps.length m k) := by show _ = _; rw [← hq, hdl]
      have hqb : q ≤ 300 := by rw [← hq, hdl]; exact hcb
      clear hq hdl hcb hv hown
      go_wp2
      go_round
      case rel =>
        refine ⟨k + 1, N + q, by omega, by go_num, by go_num, ?_, by omega⟩
        show _ = _
        rw [List.range_succ, List.map_append, List.sum_append, List.map_singleton, List.sum_singleton, ← HN.out, HQ.out]
      case measure => simp [intOf]; omega
    · have hkm : k = m := by omega
      subst hkm
      have hNl : N = ps.length := by rw [HN.out, cnt_sum ps.length k (by omega)]
      have hb1 : ((k : Int) != (k : Int)) = false := by simp
      have hb2 : ((ps.length : Int) != (ps.length : Int)) = false := by simp
      clear HN
      subst hNl
      go_wp2
      go_loopw [8] (fun i wr => ∃ (j n : Nat), j ≤ ps.length ∧ i = .int .i64 j ∧ wr = w1.drewN n) (fun i _ => ps.length - (intOf i).toNat)
      case atStart => exact ⟨0, 0, by omega, rfl, rfl⟩
      case round =>
        obtain ⟨j, n, hj, rfl, rfl⟩ := hrel
        by_cases hjl : j < ps.length
        · obtain ⟨b, off, rfl, hb, hc1⟩ := (hx.below hB).int hjl
          have hjm : j % k < k := Nat.mod_lt _ (by omega)
          obtain ⟨v, hv, hc, hown⟩ := HR.out.load hjm
          obtain ⟨A2, c2, rfl⟩ := own_shape hown
          obtain ⟨hlt2, hget⟩ := dealRow_at ps ps.length k j (by omega) hjl
          have hgd : ps.getD j 0 = ps[j] := by rw [List.getD, List.getElem?_eq_getElem hjl]; rfl
          rw [hgd] at hget
          obtain ⟨b2, off2, rfl, hb2', hc2⟩ := (At.of_own hown).int hlt2
          rw [hget] at hc2
          have hrB : cnt ps.length k (j % k) ≤ 300 := by
            unfold cnt
            exact Nat.le_trans (Nat.div_le_self _ _) (by omega)
          have hLb : (dealRow ps ps.length k (j % k)).length ≤ 300 := by rw [dealRow_length]; exact hrB
          obtain ⟨r, hr⟩ : ∃ r, j % k = r := ⟨_, rfl⟩
          obtain ⟨q, hq⟩ : ∃ q, j / k = q := ⟨_, rfl⟩
          have e1 : ((j : Int) % (k : Int)) = (r : Int) := by rw [← hr]; rfl
          have e2 : ((j : Int) / (k : Int)) = (q : Int) := by rw [← hq]; rfl
          have e3 : ((j : Int).tdiv (k : Int)) = (q : Int) := by rw [← hq]; rfl
          have e4 : ((j : Int).tmod (k : Int)) = (r : Int) := by rw [← hr]; rfl
          rw [hr] at hc hjm hLb hlt2
          rw [hq] at hc2 hlt2
          generalize (dealRow ps ps.length k r).length = L at hc hlt2 hLb
          have hkz : ¬ k = 0 := by omega
          have hq0 : (0 : Int) ≤ (q : Int) := by omega
          have hqL : (q : Int) < (L : Int) := by omega
          have hqd : decide ((L : Int) ≤ (q : Int)) = false := by simpa using hlt2
          have hqn : decide (L ≤ q) = false := by simpa using hlt2
          have hne : (ps[j] != ps[j]) = false := by simp
          clear hr hq hv hown hget hgd hrB
          go_wp2_with fail
          go_quiet (fail)
          go_wp2
          go_roundw
          case rel => exact ⟨j + 1, n + nq, by omega, by go_num, rfl⟩
          case measure => simp [intOf]; omega
        · go_wp2_with fail
          refine (turns_any _).mono ?_
          rintro e w2 ⟨rfl, hB2⟩
          go_wp2
          go_ret
          exact ⟨rfl, hB.trans ((below_drewN (Below.refl _ _) n).trans (hB2.mono (by show _ ≤ w1.heap.size; omega)))⟩
end Go.Proofs.Ytimiedahbmfkhaa
