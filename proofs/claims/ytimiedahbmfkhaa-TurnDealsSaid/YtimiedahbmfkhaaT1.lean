import Derived.Test.YtimiedahbmfkhaaOwn
import Derived.Test.YtimiedahbmfkhaaRow
import Derived.Test.YtimiedahbmfkhaaFrame
namespace Go.Proofs.Ytimiedahbmfkhaa
open Go.RowKit



theorem tmod_neg_facts (n p : Int) (h1 : 1 ≤ n) (hp : p < 0) : p.tmod n ≤ 0 ∧ -n < p.tmod n ∧ (p.tmod n < 0 → p % n = p.tmod n + n) ∧ (0 ≤ p.tmod n → p % n = p.tmod n) := by
  obtain ⟨q, rfl⟩ : ∃ q, p = -q := ⟨-p, by omega⟩
  have hq : 0 < q := by omega
  rw [Int.neg_tmod]
  rw [Int.tmod_eq_emod_of_nonneg (by omega)]
  have h2 := Int.emod_nonneg q (show n ≠ 0 by omega)
  have h3 := Int.emod_lt_of_pos q (show 0 < n by omega)
  have h4 := Int.emod_nonneg (-q) (show n ≠ 0 by omega)
  have h5 := Int.emod_lt_of_pos (-q) (show 0 < n by omega)
  have h6 := Int.emod_add_mul_ediv q n
  have h7 := Int.emod_add_mul_ediv (-q) n
  have h8 : n * (q / n + (-q) / n) = - (q % n + (-q) % n) := by rw [Int.mul_add]; omega
  refine ⟨by omega, by omega, fun h => ?_, fun h => ?_⟩
  · have : q / n + (-q) / n = -1 := by
      have h9 : - (q / n + (-q) / n) < 2 := by
        by_cases hc : - (q / n + (-q) / n) < 2
        · exact hc
        · exfalso
          have : n * 2 ≤ n * (- (q / n + (-q) / n)) := Int.mul_le_mul_of_nonneg_left (by omega) (by omega)
          rw [Int.mul_neg, h8] at this
          omega
      have h10 : 0 < - (q / n + (-q) / n) := by
        by_cases hc : 0 < - (q / n + (-q) / n)
        · exact hc
        · exfalso
          have : n * (- (q / n + (-q) / n)) ≤ n * 0 := Int.mul_le_mul_of_nonneg_left (by omega) (by omega)
          rw [Int.mul_neg, h8] at this
          omega
      omega
    rw [this] at h8
    omega
  · have hq0 : q % n = 0 := by omega
    have hdvd : n ∣ q := Int.dvd_of_emod_eq_zero hq0
    have : (-q) % n = 0 := Int.emod_eq_zero_of_dvd (Int.dvd_neg.2 hdvd)
    omega

set_option maxHeartbeats 400000 in
theorem pick_pos (n p : Int) (w : World) (h1 : 1 ≤ n) (h2 : n ≤ 9223372036854775807) (hp : i64 p) :
    Calls Try.prog 10 #[.int .i64 n, .int .i64 p] w fun e w' => e = .returned (.tuple #[.int .i64 (p % n), .bool true]) ∧ w = w' := by
  obtain ⟨hp1, hp2⟩ := hp
  by_cases hs : 0 ≤ p
  · have hm := Int.emod_nonneg p (show n ≠ 0 by omega)
    go_enter Try.func10, Try.ntmps10
    go_wp2
    go_ret2
    exact ⟨rfl, rfl⟩
  · obtain ⟨f1, f2, f3, f4⟩ := tmod_neg_facts n p h1 (by omega)
    by_cases hr : p.tmod n < 0
    · have F := Lib.hid (f3 hr)
      clear f3 f4
      go_enter Try.func10, Try.ntmps10
      go_wp2
      go_ret2
      exact ⟨by rw [F.out]; rfl, rfl⟩
    · have F := Lib.hid (f4 (by omega))
      clear f3 f4
      go_enter Try.func10, Try.ntmps10
      go_wp2
      go_ret2
      exact ⟨by rw [F.out]; rfl, rfl⟩

set_option maxHeartbeats 400000 in
theorem pick_neg (n p : Int) (w : World) (h1 : n < 1) :
    Calls Try.prog 10 #[.int .i64 n, .int .i64 p] w fun e w' => e = .returned (.tuple #[.int .i64 0, .bool false]) ∧ w = w' := by
  go_enter Try.func10, Try.ntmps10
  go_wp2
  go_ret2
  exact ⟨rfl, rfl⟩

/-- 'following$1' where a pick is left: it is told, and the count goes up. -/
theorem foll_some (A : Option Addr) (c : Nat) (xs : List Int) (w : World) (gn gp k : Nat) (hx : At w A (ints xs)) (hxl : xs.length ≤ 9223372036854775807)
    (hn : Row w gn 3 [.int .i64 k]) (hp : Row w gp 22 [.slice A xs.length c]) (hk : k < xs.length) (hsep : ∀ a, A = some a → a.block ≠ gn) :
    Calls Try.prog 31 #[.pointer (some ⟨gn, 0, none⟩), .pointer (some ⟨gp, 0, none⟩)] w fun e w' => e = .returned (.tuple #[.int .i64 xs[k], .bool true]) ∧ w.setCell ⟨gn, 0, none⟩ (.int .i64 ((k + 1 : Nat) : Int)) = w' := by
  have hne : gn ≠ gp := by
    rintro rfl
    unfold Row at hn hp
    rw [hn] at hp
    simp at hp
  obtain ⟨b, off, rfl, hb, hcx⟩ := hx.int hk
  have c1 : w.cell? ⟨gn, 0, none⟩ = some (.int .i64 k) := hn.cell 0
  have f1 : w.frozen? ⟨gn, 0, none⟩ = false := hn.free 0
  have c2 : w.cell? ⟨gp, 0, none⟩ = some (.slice (some ⟨b, off, none⟩) xs.length c) := hp.cell 0
  have hb' : b ≠ gn := hsep _ rfl
  have hkb : ((k : Int) == (xs.length : Int)) = false := by simp; omega
  have c3 : (w.setCell ⟨gn, 0, none⟩ (.int .i64 ((k : Int) + 1))).cell? ⟨gn, 0, none⟩ = some (.int .i64 ((k : Int) + 1)) := by
    rw [(hn.setCell 0 _).cell]; rfl
  have c4 : (w.setCell ⟨gn, 0, none⟩ (.int .i64 ((k : Int) + 1))).cell? ⟨gp, 0, none⟩ = some (.slice (some ⟨b, off, none⟩) xs.length c) := by
    rw [World.cell?_setCell_other]
    · exact c2
    · simp [hne]
  have c5 : (w.setCell ⟨gn, 0, none⟩ (.int .i64 ((k : Int) + 1))).cell? ⟨b, off + k, none⟩ = some (.int .i64 xs[k]) := by
    rw [World.cell?_setCell_other]
    · exact hcx
    · simp only [ne_eq, Addr.mk.injEq, not_and]; intro h; exact absurd h.symm hb'
  clear hx hn hp hsep
  go_enter Try.func31, Try.ntmps31
  go_wp2
  go_ret2
  exact ⟨rfl, rfl⟩

theorem foll_none (A : Option Addr) (c : Nat) (xs : List Int) (w : World) (gn gp : Nat) (hxl : xs.length ≤ 9223372036854775807)
    (hn : Row w gn 3 [.int .i64 xs.length]) (hp : Row w gp 22 [.slice A xs.length c]) :
    Calls Try.prog 31 #[.pointer (some ⟨gn, 0, none⟩), .pointer (some ⟨gp, 0, none⟩)] w fun e w' => e = .returned (.tuple #[.int .i64 0, .bool false]) ∧ w = w' := by
  have c1 : w.cell? ⟨gn, 0, none⟩ = some (.int .i64 xs.length) := hn.cell 0
  have c2 : w.cell? ⟨gp, 0, none⟩ = some (.slice A xs.length c) := hp.cell 0
  have hkb : ((xs.length : Int) == (xs.length : Int)) = true := by simp
  clear hn hp
  go_enter Try.func31, Try.ntmps31
  go_wp2
  go_ret2
  exact ⟨rfl, rfl⟩

theorem zv3 (w : World) : (zeroValue 3).run Try.prog w = .ok (.int .i64 0) w := by kernel_rfl

set_option maxHeartbeats 400000 in
theorem del_int (g i n cap base : Nat) (xs : List Value) (w : World) (hone : ∀ u ∈ xs, u.oneCell' = true) (hown : w.ownsRow base 3 1 (.slice (some ⟨g, 0, none⟩) n cap) n xs) (hi : i < n) (hm : cap ≤ 9223372036854775807) :
    Calls Try.prog 30 #[.slice (some ⟨g, 0, none⟩) n cap, .int .i64 i, .int .i64 ((i : Int) + 1)] w fun e w' =>
      e = .returned (.slice (some ⟨g, 0, none⟩) (n - 1) cap) ∧ w'.ownsRow base 3 1 (.slice (some ⟨g, 0, none⟩) (n - 1) cap) (n - 1) (xs.eraseIdx i) ∧ w.grownBy w' (some g) := by
  obtain ⟨cur, hrow, hb, hnc, hmx, hcl, htk⟩ := Row.of_own hown
  have hx : xs.length = n := by simpa using hown.1
  have hib : ((i : Int) == (i : Int) + 1) = false := by rw [beq_eq_false_iff_ne]; omega
  obtain ⟨A, hA, hAt, hAn⟩ : ∃ A : Option Addr, (if cap = i + 1 then (some ⟨g, 0, none⟩ : Option Addr) else some ⟨g, i + 1, none⟩) = A ∧ Hid (At w.drew A (xs.drop (i + 1))) ∧ Hid (A = none → n - (i + 1) = 0) := by
    refine ⟨_, rfl, ?_, ?_⟩
    · have h0 := At.of_own hown
      by_cases h : cap = i + 1
      · have : xs.drop (i + 1) = [] := List.drop_eq_nil_of_le (by omega)
        rw [this]
        exact At.nil _ _
      · rw [if_neg h]
        have h1 := (h0.drop (i := i + 1))
        have hadd : (⟨g, 0, none⟩ : Addr).add (i + 1) = ⟨g, i + 1, none⟩ := by
          unfold Addr.add
          split <;> simp_all
        simp only [Option.map_some, hadd] at h1
        exact h1
    · intro h
      split at h <;> cases h
  have s1 : Hid ((xs.drop (i + 1)).length = (n - (i + 1)) * 1) := by rw [List.length_drop, hx, Nat.mul_one]; rfl
  have s2 : Hid (∀ u ∈ xs.drop (i + 1), u.oneCell' = true) := fun u hu => hone u (List.mem_of_mem_drop hu)
  have HR : Hid (Row w.drew g 3 cur) := hrow
  have HC : Hid (cur.length = cap * 1) := hcl
  have HX : Hid (xs.length = n) := hx
  have HT : Hid (cur.take (n * 1) = xs) := htk
  have HB : Hid (base ≤ g) := hb
  have HO : Hid (cap ≤ maxLen) := hmx
  have hic : i ≤ cap := by omega
  have hin : (i : Int) + 1 ≤ (n : Int) := by omega
  have hin0 : 0 ≤ (i : Int) + 1 := by omega
  clear hrow hcl hx htk hone hown
  go_enter Try.func30, Try.ntmps30
  go_wp2_with fail
  go_region_law (refine step_app_in rfl (.tmp 22) (.tmp 25) 22 rfl 3 (.int .i64 0) 1 8 Try.underlying22 info_int g i cap cur HR.out HC.out (by simp [Act.eval, Act.put]) A (n - (i + 1)) (cap - (i + 1)) (xs.drop (i + 1)) (by simp [Act.eval, Act.put]) s1.out hAt.out s2.out hAn.out (by omega) ?_; intro w1 H1 hg1)
  have ED := Lib.hid (del_row (s := 1) HC.out (by rw [HX.out, Nat.mul_one]) hnc HT.out hi)
  have hfit : i + (n - (i + 1)) + (n - (i + (n - (i + 1)))) * (Value.int IntKind.i64 0).cells.size ≤ (List.take (i * 1) cur ++ List.drop (i + 1) xs ++ List.drop (i * 1 + (List.drop (i + 1) xs).length) cur).length := by
    have h := ED.out.1
    simp only [Nat.mul_one] at h ⊢
    rw [h]
    show _ + _ * 1 ≤ _
    omega
  have HF := Lib.hid hfit
  clear hfit
  go_wp2_with (with_reducible refine wpList_clear_row rfl _ 22 rfl 3 (.int .i64 0) Try.underlying22 zv3 g (i + (n - (i + 1))) (n - (i + (n - (i + 1)))) _ rfl _ H1.out (by omega) (zero_one _ rfl rfl _) HF.out ?_; intro w2 H2 hg2)
  go_ret
  have e1 : i + (n - (i + 1)) = n - 1 := by omega
  have h2 := H2.out.own (base := base) (size := 1) (n := n - 1) (cap := cap) HB.out (by omega) HO.out (by
    have h := ED.out.1
    simp only [Nat.mul_one] at h ⊢
    simp only [List.length_append, List.length_take, List.length_drop, length_zeroCells] at h ⊢
    have : (Value.int IntKind.i64 0).cells.size = 1 := rfl
    rw [this]
    omega)
  refine ⟨by rw [← e1]; rfl, ?_, ?_⟩
  · have h := ED.out
    simp only [Nat.mul_one] at h h2 ⊢
    rw [List.eraseIdx_eq_take_drop_succ, ← h.2]
    rw [List.append_assoc, List.take_append_of_le_length (by rw [List.length_take, h.1]; omega), List.take_take] at h2
    rw [show min (n - 1) (i + (n - (i + 1))) = n - 1 by omega] at h2
    exact h2
  · have h0 : w.grownBy w.drew (some g) := ⟨rfl, rfl, rfl, Nat.le_refl _, fun _ _ _ => rfl⟩
    exact (h0.trans hg1).trans hg2
end Go.Proofs.Ytimiedahbmfkhaa
