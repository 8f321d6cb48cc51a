import Derived.Test.YtbgklmekeafmeaaOwn
import Derived.Test.YtbgklmekeafmeaaRow
import Derived.Test.YtbgklmekeafmeaaFrame
import Derived.RangeFuncNested
import Derived.RangeFuncBound
import Derived.RangeFuncCalls
import Derived.RangeFuncLeaves
import Derived.RangeFuncBox
import Derived.Shelf.Abstract
import Derived.OwnWalkIn
import Derived.TacticsInMore
import Derived.LoopNIn
import Derived.LoopIn
namespace Go.Proofs.Ytbgklmekeafmeaa
open Go.RowKit Go.Shelf

attribute [local go_sem] Oper.semAt_some

/-- A number's bytes. -/
def digs (n : Nat) : List Nat := if n < 128 then [n] else (n % 128 + 128) :: digs (n / 128)
  termination_by n
  decreasing_by omega

theorem digs_small {n : Nat} (h : n < 128) : digs n = [n] := by rw [digs, if_pos h]
theorem digs_big {n : Nat} (h : 128 ≤ n) : digs n = (n % 128 + 128) :: digs (n / 128) := by rw [digs, if_neg (by omega)]

def u8s (xs : List Nat) : List Value := List.map (fun n : Nat => Value.int .u8 (n : Int)) xs
theorem u8s_append (xs ys : List Nat) : u8s (xs ++ ys) = u8s xs ++ u8s ys := by simp [u8s]
@[simp] theorem u8s_length (xs : List Nat) : (u8s xs).length = xs.length := by simp [u8s]
theorem u8s_one (xs : List Nat) : ∀ u ∈ u8s xs, u.oneCell' = true := by
  intro u hu
  simp only [u8s, List.mem_map] at hu
  obtain ⟨x, _, rfl⟩ := hu
  rfl

set_option maxRecDepth 100000 in
set_option maxHeartbeats 1000000 in
theorem digits1_in (n : Nat) (hn : 1 ≤ n) (l Bn n₀ m : Nat) (hm : m ≤ 2147483647) (J Jx : List Nat → World → Prop)
    (hY : ∀ pre (x : Nat) W, J pre W → pre.length < (digs m).length → YieldAt Fence.wide (n - 1) Try.prog l #[.int .u8 x] W fun e W' =>
      (e = .returned (.bool true) ∧ J (pre ++ [x]) W' ∧ Below n₀ W W') ∨ (e = .returned (.bool false) ∧ Jx (pre ++ [x]) W'))
    (W : World) (hBn : W.cell? ⟨Bn, 0, none⟩ = some (.int .i64 m)) (h0 : J [] W) :
    CallsIn Fence.wide n Try.prog 32 #[.func (.yield l) #[] #[], .pointer (some ⟨Bn, 0, none⟩)] W fun e W' => (∃ v, e = .returned v) ∧
      ((∃ ys, ys = digs m ∧ J ys W') ∨ (∃ pre, pre <+: digs m ∧ Jx pre W')) := by
  refine callsIn_of_wp Try.func32 rfl trivial ?_ rfl
  simp only [Try.ntmps32, List.size_toArray, List.length_cons, List.length_nil, Nat.reduceAdd, Nat.reduceSub, Array.replicate_succ, Array.replicate_zero, List.push_toArray, List.append_toArray, List.nil_append, List.cons_append]
  gi_wp2
  gi_loopw [3] (fun v wr => ∃ (k : Nat) (pre : List Nat), v = .int .i64 k ∧ k ≤ 2147483647 ∧ Hid (digs m = pre ++ digs k) ∧ J pre wr)
    (fun v _ => (intOf v).toNat)
  case atStart => exact ⟨m, [], rfl, hm, rfl, h0⟩
  case round =>
    obtain ⟨k, pre, rfl, hk, HE, hJ⟩ := hrel
    by_cases hb : 128 ≤ k
    · have hd := digs_big hb
      obtain ⟨fn, tmps, assign, body, hy, hR⟩ := hY pre (k % 128 + 128) wr hJ (by rw [HE.out, hd]; simp)
      have HD := Lib.hid hd
      clear hd
      rw [show ((k % 128 + 128 : Nat) : Int) = (k : Int) % 128 + 128 by omega] at hy
      have hk0 : (0 : Int) ≤ (k : Int) := by omega
      gi_wp2
      refine hR.mono ?_
      rintro e W3 (⟨rfl, hJ3, hk3⟩ | ⟨rfl, hJx3⟩)
      · gi_wp2
        go_roundw
        case rel => exact ⟨k / 128, pre ++ [k % 128 + 128], by go_num, by omega, by show _ = _; rw [HE.out, HD.out]; simp, hJ3⟩
        case measure => simp [intOf]; omega
      · gi_wp2
        refine bodyPost_ret (results_none rfl _ _ _) rfl ?_
        exact ⟨⟨_, rfl⟩, .inr ⟨pre ++ [k % 128 + 128], ⟨digs (k / 128), by rw [HE.out, HD.out]; simp⟩, hJx3⟩⟩
    · have hd := digs_small (n := k) (by omega)
      obtain ⟨fn, tmps, assign, body, hy, hR⟩ := hY pre k wr hJ (by rw [HE.out, hd]; simp)
      have HD := Lib.hid hd
      clear hd
      gi_wp2
      refine hR.mono ?_
      rintro e W3 (⟨rfl, hJ3, hk3⟩ | ⟨rfl, hJx3⟩)
      · gi_wp2
        go_end0
        exact ⟨⟨_, rfl⟩, .inl ⟨pre ++ [k], by rw [HE.out, HD.out], hJ3⟩⟩
      · gi_wp2
        go_end0
        exact ⟨⟨_, rfl⟩, .inr ⟨pre ++ [k], ⟨[], by rw [HE.out, HD.out]; simp⟩, hJx3⟩⟩

theorem digits_in (n m : Nat) (w : World) :
    CallsIn Fence.wide n Try.prog 31 #[.int .i64 m] w fun e w' => e = .returned (.func (.func 32) #[] #[.pointer (some ⟨w.heap.size, 0, none⟩)]) ∧ w' = w.alloc (.cells #[.int .i64 m] 3) := by
  refine callsIn_of_wp Try.func31 rfl trivial ?_ rfl
  simp only [Try.ntmps31, List.size_toArray, List.length_cons, List.length_nil, Nat.reduceAdd, Nat.reduceSub, Array.replicate_succ, Array.replicate_zero, List.push_toArray, List.append_toArray, List.nil_append, List.cons_append]
  gi_wp2
  go_ret
  exact ⟨rfl, rfl⟩

theorem digits_stops (n : Nat) (hn : 1 ≤ n) (Bn n₀ m : Nat) (hm : m ≤ 2147483647) (w : World) (hB : Bn < w.heap.size) (hc : w.cell? ⟨Bn, 0, none⟩ = some (.int .i64 m)) :
    SeqStopsK Fence.wide n Try.prog 32 #[.pointer (some ⟨Bn, 0, none⟩)] (fun x : Nat => #[Value.int .u8 (x : Int)]) (Below n₀) (fun ys => ys = digs m) (fun pre => pre <+: digs m) (digs m).length w := fun l J Jx W hW _ _ hY h0 =>
  digits1_in n hn l Bn n₀ m hm J Jx hY W ((hW.cell (p := ⟨Bn, 0, none⟩) hB).trans hc) h0

theorem info_u8 : (Try.prog.info? 5).map (fun i => (i.zero, i.size, i.bytes)) = some (some (.int .u8 0), 1, 1) := by kernel_rfl

theorem digs_length (m : Nat) (hm : m ≤ 2147483647) : (digs m).length ≤ 5 := by
  rcases Nat.lt_or_ge m 128 with h | h
  · rw [digs_small h]; simp
  rw [digs_big h]
  rcases Nat.lt_or_ge (m / 128) 128 with h1 | h1
  · rw [digs_small h1]; simp
  rw [digs_big h1]
  rcases Nat.lt_or_ge (m / 128 / 128) 128 with h2 | h2
  · rw [digs_small h2]; simp
  rw [digs_big h2]
  rcases Nat.lt_or_ge (m / 128 / 128 / 128) 128 with h3 | h3
  · rw [digs_small h3]; simp
  rw [digs_big h3]
  rcases Nat.lt_or_ge (m / 128 / 128 / 128 / 128) 128 with h4 | h4
  · rw [digs_small h4]; simp
  omega

set_option maxRecDepth 100000 in
set_option maxHeartbeats 2000000 in
theorem lay_in (n : Nat) (hn : 3 ≤ n) (base n0 m : Nat) (hm : m ≤ 2147483647) (hn0 : n0 ≤ 1000000) (vb : Value) (xs : List Nat) (w : World) (hown : w.ownsRow base 5 1 vb n0 (u8s xs)) (hb : base ≤ w.heap.size) :
    CallsIn Fence.wide n Try.prog 24 #[vb, .int .i64 m] w fun e W' => ∃ v, e = .returned v ∧ W'.ownsRow base 5 1 v (n0 + (digs m).length) (u8s xs ++ u8s (digs m)) ∧ Below base w W' := by
  have h1 : 1 ≤ n := by omega
  obtain ⟨i0, hi, hz0, hz1, hz2⟩ := info_parts info_u8
  obtain ⟨A, c, rfl⟩ := own_shape hown
  refine callsIn_of_wp_marks Try.func24 rfl trivial ?_ rfl
  simp only [Try.ntmps24, List.size_toArray, List.length_cons, List.length_nil, Nat.reduceAdd, Nat.reduceSub, Array.replicate_succ, Array.replicate_zero, List.push_toArray, List.append_toArray, List.nil_append, List.cons_append]
  gi_wp2_with fail
  refine ⟨trivial, (digits_in (n - 1) m _).mono ?_⟩
  rintro e w' ⟨rfl, rfl⟩
  have bO := Boxed.new w 42 (.slice A n0 c)
  have bN := Boxed.new (w.alloc (.cells #[.slice A n0 c] 42)) 3 (.int .i64 m)
  rw [World.size_alloc] at bN ⊢
  have hB0 : Below base w ((w.alloc (.cells #[.slice A n0 c] 42)).alloc (.cells #[.int .i64 m] 3)) := ((Below.refl _ w).alloc hb _).alloc (by simp; omega) _
  gi_wp2_with fail
  refine wpIn_rangeFunc_ownG rfl h1 (gf := 32) (lb := #[.pointer (some ⟨w.heap.size + 1, 0, none⟩)]) rfl trivial (enters_of Try.func32 (by kernel_rfl) rfl)
    (digits_stops (n - 1) (by omega) (w.heap.size + 1) base m hm _ (by simp) bN.cell) belowK_t (belowK_b (by simp; omega)) (Below.refl _ _) (fun _ => rfl)
    (fun pre W => (∃ v, Boxed W w.heap.size 42 v ∧ W.ownsRow base 5 1 v (n0 + pre.length) (u8s xs ++ u8s pre) ∧ True) ∧ Below base w W)
    (fun _ _ _ => False)
    (OwnFrom.and (Own.from (holdsRow_own base w.heap.size 42 5 1 (fun pre => n0 + pre.length) (fun pre => u8s xs ++ u8s pre) (fun pre v => True)) _) (ownFrom_below hb (by simp; omega)))
    (fun _ _ _ _ _ hs _ _ => hs)
    ⟨⟨_, bO.alloc _, by simpa [u8s] using (hown.alloc _).alloc _, trivial⟩, hB0⟩
    (fun x => { tmps := #[.slice A n0 c, .int .i64 m, .pointer (some ⟨w.heap.size, 0, none⟩), undef, .slice none 0 0, .int .u8 x, .int .i64 m, .func (.func 32) #[] #[.pointer (some ⟨w.heap.size + 1, 0, none⟩)], .int .u8 x, undef, undef, undef, undef, undef], defers := [] }) ?assign ?body ?done ?stop
  case assign =>
    intro l x W K hK
    gi_wp2
    exact hK
  case body =>
    rintro l pre x W ⟨⟨v, hv, hrow, _⟩, hB⟩ hlt
    have hc := hv.cell
    have hdl := digs_length m hm
    gi_wp2_with (gi_at_builtin; refine wpListIn_append_own _ rfl _ _ 42 rfl base 5 i0 (.int .u8 0) 1 1 Try.underlying42 hi hz0 hz1 hz2 rfl (by decide) _ _ _ rfl (hrow.alloc _) ⟨W.heap.size, 0, none⟩ 1 1 [.int .u8 x] rfl rfl (cell_one_new _ _ _) (by simp [Value.oneCell']) (by simp only [maxLen]; omega) (by omega) (by have := hB.size; simp; omega) ?_; intro v' w1 hown' hgrow _; obtain ⟨g', cap', rfl⟩ := ownsRow_succ hown'; obtain ⟨hv1, hv2, hr2, hk2, hb2⟩ := hv.appended (by decide) hrow (by have := hB.size; omega) hb hown' hgrow; have hc1 := hv1.cell; have hf1 := hv1.frozen)
    exact ⟨hk2.from _, hb2, ⟨_, hv2, by rw [u8s_append]; simpa [u8s, Nat.add_assoc] using hr2, trivial⟩, hB.trans hb2⟩
  case done =>
    rintro D ys W hD rfl ⟨⟨v, hv, hrow, _⟩, hB⟩ hK
    have hc := hv.cell
    gi_wp2
    refine ⟨by simp, .inl ⟨_, _, rfl, run_takeDeferred hK, ?_⟩⟩
    exact ⟨_, results_tmp rfl _ _ _, v, rfl, ownsRow_putObj hrow _ hK rfl, hB.trans (belowK_b (w := w) hb W D _ _ (by simp at hD; omega) hK rfl rfl)⟩
  case stop =>
    rintro D c pre W _ _ h _
    exact h.elim
end Go.Proofs.Ytbgklmekeafmeaa
