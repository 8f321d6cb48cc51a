/-
  THE SHELL OF A PROOF OF 'Rows.TurnLeftSaid' ('wayside/waysidelaw17.TurnLeft'), WRITTEN BY PROGRAM (proof-skeleton.mjs, third state) off the guide's own print for that function. Not trusted: Lean checks it.
  YOURS IS THE HOLE MARKED 'HOLE' (it bears 'sorry'). ALL ELSE IS THE GUIDE's OWN WAY (howto/template/XProofs.lean; Derived/Test/ChunkProofs.lean for 'Below') at this function's number and types: leave it.
-/
import Derived.Test.YtimiedahbmfkhaaT4
import Derived.WalkKit
import Derived.ProofKit
import Derived.OpenShut
import Derived.ShutString
import Derived.ChangeOld
import Derived.Below
namespace Go.Proofs.Ytimiedahbmfkhaa.turnLeft
open Go.ChangeShapes Go.WideShapes Go.ChangeAt Go.RowKit
open Go.ChangeMaps (open_string shut_string)
set_option linter.unusedVariables false

theorem own : ownKnob Try.prog.godebug = none := by kernel_rfl
theorem laidOut : laidOutB Try.prog = true := by kernel_rfl

/-- WHAT THE WALK IS TOLD OF A SLICE OF INTEGERS THAT CAME IN: it is nil; or it leads to a row of 'cap' cells, the numbers 'zs' (the first 'len' are its elements, the rest its spare room), each fitting its kind. -/
def IsRow (k : IntKind) (w : World) (a : Option Addr) (len cap : Nat) (zs : List Int) : Prop :=
  (a = none ∧ len = 0 ∧ cap = 0 ∧ zs = []) ∨
  ∃ x, a = some x ∧ len ≤ cap ∧ cap ≤ maxLen ∧ zs.length = cap ∧ (∀ i, i < zs.length → w.cell? (x.add i) = some (.int k (zs.getD i 0))) ∧ ∀ n ∈ zs, (Lit.int k n).wf = true

theorem IsRow.at_ {w : World} {a : Option Addr} {len cap : Nat} {zs : List Int} (h : IsRow .i64 w a len cap zs) :
    ∃ xs : List Int, xs.length = len ∧ At w a (ints xs) ∧ (∀ x ∈ xs, i64 x) ∧ len ≤ 9223372036854775807 ∧ (∀ x, a = some x → 0 < len → x.block < w.heap.size) := by
  rcases h with ⟨rfl, rfl, rfl, rfl⟩ | ⟨x, rfl, h1, h2, h3, h4, h5⟩
  · exact ⟨[], rfl, At.nil _ _, by simp, by omega, by simp⟩
  · have hcell : ∀ k, k < len → ∃ b off, x = ⟨b, off, none⟩ ∧ b < w.heap.size ∧ w.cell? ⟨b, off + k, none⟩ = some (.int .i64 (zs.getD k 0)) := by
      intro k hk
      have hc := h4 k (by omega)
      have hlt := World.block_lt_of_cell? w _ hc
      obtain ⟨b, off, sp⟩ := x
      have hsp : sp = none := by
        have h0 := h4 0 (by omega)
        have e : (⟨b, off, sp⟩ : Addr).add 0 = ⟨b, off, sp⟩ := by simp [Addr.add]
        rw [e] at h0
        cases sp with
        | none => rfl
        | some s =>
          exfalso
          simp only [World.cell?] at h0
          split at h0 <;> simp at h0
      subst hsp
      have hadd : (⟨b, off, none⟩ : Addr).add k = ⟨b, off + k, none⟩ := by
        unfold Addr.add
        split <;> simp_all
      rw [hadd] at hc hlt
      exact ⟨b, off, rfl, hlt, hc⟩
    refine ⟨zs.take len, by simp; omega, ?_, ?_, by simp only [maxLen] at h2; omega, ?_⟩
    · intro k hk
      have hk' : k < len := by simp at hk; omega
      obtain ⟨b, off, rfl, hlt, hc⟩ := hcell k hk'
      refine ⟨b, off, rfl, hlt, ?_⟩
      rw [hc]
      simp only [ints, List.getElem_map, List.getElem_take]
      rw [List.getD, List.getElem?_eq_getElem (by omega)]
      rfl
    · intro y hy
      have := h5 y (List.mem_of_mem_take hy)
      simp only [Lit.wf, Bool.and_eq_true, decide_eq_true_eq] at this
      have e1 : IntKind.i64.min = -9223372036854775808 := rfl
      have e2 : IntKind.i64.max = 9223372036854775807 := rfl
      rw [e1, e2] at this
      exact this
    · rintro y hy hl
      injection hy with hy
      subst hy
      obtain ⟨b, off, rfl, hlt, _⟩ := hcell 0 hl
      exact hlt

theorem orderedL_congr {α : Type} (xs : List α) (ps qs : List Int) (hl : ps.length = qs.length)
    (h : ∀ i (h1 : i < ps.length) (h2 : i < qs.length), i < xs.length → pickAt (xs.length - i) ps[i] = pickAt (xs.length - i) qs[i]) : orderedL xs ps = orderedL xs qs := by
  induction ps generalizing xs qs with
  | nil => cases qs with
    | nil => rfl
    | cons q qs => simp at hl
  | cons p ps ih => cases qs with
    | nil => simp at hl
    | cons q qs =>
      rcases Nat.eq_zero_or_pos xs.length with h0 | h0
      · have : xs = [] := List.eq_nil_of_length_eq_zero h0
        subst this
        rw [orderedL_nil, orderedL_nil]
      · have e := h 0 (by simp) (by simp) h0
        simp only [Nat.sub_zero, List.getElem_cons_zero] at e
        have hp := pickAt_lt p h0
        have hq := pickAt_lt q h0
        have hel : (xs.eraseIdx (pickAt xs.length p)).length = xs.length - 1 := by rw [List.length_eraseIdx, if_pos hp]
        rw [orderedL_cons xs p ps hp, orderedL_cons xs q qs hq]
        simp only [← e]
        congr 1
        refine ih _ qs (by simpa using hl) ?_
        intro i h1 h2 h3
        rw [hel] at h3 ⊢
        have := h (i + 1) (by simp; omega) (by simp; omega) (by omega)
        simp only [List.getElem_cons_succ] at this
        rw [show xs.length - 1 - i = xs.length - (i + 1) by omega]
        exact this

def MoreInv (n : Nat) (ps : List Int) (k : Nat) (ms : List Int) : Prop :=
  ms.length = k ∧ ∀ i (h1 : i < ms.length) (h2 : i < ps.length), i64 ms[i] ∧ (i < n → pickAt (n - i) ps[i] = pickAt (n - i) ms[i])

theorem MoreInv.snoc {n : Nat} {ps : List Int} {k : Nat} {ms : List Int} (h : MoreInv n ps k ms) (hk : k < ps.length) (m : Int) (h1 : i64 m) (h2 : k < n → pickAt (n - k) ps[k] = pickAt (n - k) m) : MoreInv n ps (k + 1) (ms ++ [m]) := by
  obtain ⟨hl, hi⟩ := h
  subst hl
  refine ⟨by simp, ?_⟩
  intro i hi1 hi2
  by_cases hlt : i < ms.length
  · rw [List.getElem_append_left hlt]
    exact hi i hlt hi2
  · have : i = ms.length := by simp at hi1; omega
    subst this
    simp only [List.getElem_append_right (Nat.le_refl _), Nat.sub_self, List.getElem_cons_zero]
    exact ⟨h1, h2⟩

theorem pickAt_add (n : Nat) (p t : Int) : pickAt n p = pickAt n (p + t * (n : Int)) := by
  unfold pickAt
  rw [Int.add_mul_emod_self_right]

/-! ### STEP 1: THE WALK: the Go text returns true, AND WRITES NOTHING THAT WAS THERE: 'Below w.heap.size w w'' (Derived/Below.lean: '.refl', '.alloc', '.drew', '.setCell' at a new block, '.trans'). Open each 'IsRow' by 'rcases' AHEAD of 'go_enter'; part every test ahead of the walk. -/
set_option maxHeartbeats 2000000 in
theorem walk (a0 : Int) (a1 : Option Addr) (len1 cap1 : Nat) (z1 : List Int) (a2 : Option Addr) (len2 cap2 : Nat) (z2 : List Int) (w : World) (w0 : (Lit.int .i64 a0).wf = true) (w1 : IsRow .i64 w a1 len1 cap1 z1) (w2 : IsRow .i64 w a2 len2 cap2 z2) :
    Calls Try.prog 6 #[.int .i64 a0, .slice a1 len1 cap1, .slice a2 len2 cap2] w fun e w' => e = .returned (.bool true) ∧ Below w.heap.size w w' := by
  obtain ⟨ps, hpl, hpa, hpw, hpm, hpb⟩ := w1.at_
  obtain ⟨ts, htl, hta, htw, htm, htb⟩ := w2.at_
  clear w1 w2
  subst hpl htl
  have w0' : i64 a0 := by
    simp only [Lit.wf, Bool.and_eq_true, decide_eq_true_eq] at w0
    have e1 : IntKind.i64.min = -9223372036854775808 := rfl
    have e2 : IntKind.i64.max = 9223372036854775807 := rfl
    rw [e1, e2] at w0
    exact w0
  obtain ⟨w01, w02⟩ := w0'
  clear w0
  by_cases hn1 : a0 < 0
  · go_enter Try.func6, Try.ntmps6
    go_wp2_with (go_at_call 21; refine (turns_any _).mono ?_; rintro e w' ⟨rfl, hB⟩)
    go_ret
    exact ⟨rfl, hB⟩
  by_cases hn2 : 60 < a0
  · go_enter Try.func6, Try.ntmps6
    go_wp2_with (go_at_call 21; refine (turns_any _).mono ?_; rintro e w' ⟨rfl, hB⟩)
    go_ret
    exact ⟨rfl, hB⟩
  have hn3 : 0 ≤ a0 := by omega
  have hn4 : a0 ≤ 60 := by omega
  obtain ⟨n, rfl⟩ := Int.eq_ofNat_of_zero_le hn3
  clear hn1 hn2 hn3
  by_cases hp1 : 100 < ps.length
  · go_enter Try.func6, Try.ntmps6
    go_wp2_with (go_at_call 21; refine (turns_any _).mono ?_; rintro e w' ⟨rfl, hB⟩)
    go_ret
    exact ⟨rfl, hB⟩
  have hp2 : ps.length ≤ 100 := by omega
  clear hp1
  by_cases ht1 : 100 < ts.length
  · go_enter Try.func6, Try.ntmps6
    go_wp2_with (go_at_call 21; refine (turns_any _).mono ?_; rintro e w' ⟨rfl, hB⟩)
    go_ret
    exact ⟨rfl, hB⟩
  have ht2 : ts.length ≤ 100 := by omega
  clear ht1
  go_enter Try.func6, Try.ntmps6
  go_wp2
  go_loopw [7, 8] (fun v i wr => ∃ (k : Nat) (ms : List Int), k ≤ ps.length ∧ i = .int .i64 k ∧ MoreInv n ps k ms ∧ wr.ownsRow w.heap.size 3 1 v k (ints ms) ∧ Below w.heap.size w wr) (fun _ i _ => ps.length - (intOf i).toNat)
  case atStart => exact ⟨0, [], Nat.zero_le _, rfl, ⟨rfl, by simp⟩, World.ownsRow_nil _ _ _ _, Below.refl _ _⟩
  case round =>
    obtain ⟨k, ms, hk, rfl, hM, hown, hB⟩ := hrel
    have hsz := hB.size
    by_cases hlt : k < ps.length
    · obtain ⟨b, off, rfl, hb1, hc1⟩ := (hpa.below hB).int hlt
      by_cases hq1 : ps[k] < -1000000
      · go_wp2_with (go_at_call 21; refine (turns_any _).mono ?_; rintro e w' ⟨rfl, hB'⟩)
        go_ret
        exact ⟨rfl, hB.trans (hB'.mono (by omega))⟩
      by_cases hq2 : 1000000 < ps[k]
      · go_wp2_with (go_at_call 21; refine (turns_any _).mono ?_; rintro e w' ⟨rfl, hB'⟩)
        go_ret
        exact ⟨rfl, hB.trans (hB'.mono (by omega))⟩
      have hq3 : -1000000 ≤ ps[k] := by omega
      have hq4 : ps[k] ≤ 1000000 := by omega
      clear hq1 hq2
      have hi : i64 ps[k] := hpw _ (List.getElem_mem hlt)
      by_cases hd1 : k < ts.length
      · obtain ⟨b', off', rfl, hb2, hc2⟩ := (hta.below hB).int hd1
        by_cases hd2 : k < n
        · by_cases hd3 : -1000 ≤ ts[k]
          · by_cases hd4 : ts[k] ≤ 1000
            · obtain ⟨m, hm, hm1, hm2⟩ : ∃ m : Int, ts[k] * ((n : Int) - k) = m ∧ -60000 ≤ m ∧ m ≤ 60000 := by
                refine ⟨_, rfl, ?_, ?_⟩
                · have e1 : -1000 * ((n : Int) - k) ≤ ts[k] * ((n : Int) - k) := Int.mul_le_mul_of_nonneg_right hd3 (by omega)
                  omega
                · have e1 : ts[k] * ((n : Int) - k) ≤ 1000 * ((n : Int) - k) := Int.mul_le_mul_of_nonneg_right hd4 (by omega)
                  omega
              have HP : Hid (pickAt (n - k) ps[k] = pickAt (n - k) (ps[k] + m)) := by
                show _ = _
                rw [← hm, pickAt_add (n - k) ps[k] ts[k], show ((n - k : Nat) : Int) = (n : Int) - k by omega]
              go_wp2_with (at_builtin; (refine wpList_app _ rfl (.tmp 81) (.tmp 83) 22 rfl w.heap.size 3 (.int .i64 0) 1 8 Try.underlying22 info_int rfl (by decide) u7 k (ints ms) rfl (hown.alloc _) (some ⟨wr.heap.size, 0, none⟩) 1 1 [.int .i64 (ps[k] + m)] rfl rfl (At.one _ _ _) (by simp [Value.oneCell']) (by simp only [maxLen]; omega) (by omega) (by simp; omega) ?_); intro v5 w5 hown5 hg5 hv5)
              go_roundw
              case rel => exact ⟨k + 1, ms ++ [ps[k] + m], by omega, by go_num, hM.snoc hlt _ ⟨by omega, by omega⟩ (fun _ => HP.out), by rw [ints_append]; simpa [ints] using hown5, (hB.alloc (by omega) _).grown hg5 (by simp; omega) (by intro g hg; exact (hown.lt g hg).1)⟩
              case measure => simp [intOf]; omega
            · go_wp2_with (at_builtin; (refine wpList_app _ rfl (.tmp 81) (.tmp 83) 22 rfl w.heap.size 3 (.int .i64 0) 1 8 Try.underlying22 info_int rfl (by decide) u7 k (ints ms) rfl (hown.alloc _) (some ⟨wr.heap.size, 0, none⟩) 1 1 [.int .i64 (ps[k])] rfl rfl (At.one _ _ _) (by simp [Value.oneCell']) (by simp only [maxLen]; omega) (by omega) (by simp; omega) ?_); intro v5 w5 hown5 hg5 hv5)
              go_roundw
              case rel => exact ⟨k + 1, ms ++ [ps[k]], by omega, by go_num, hM.snoc hlt _ hi (fun _ => rfl), by rw [ints_append]; simpa [ints] using hown5, (hB.alloc (by omega) _).grown hg5 (by simp; omega) (by intro g hg; exact (hown.lt g hg).1)⟩
              case measure => simp [intOf]; omega
          · go_wp2_with (at_builtin; (refine wpList_app _ rfl (.tmp 81) (.tmp 83) 22 rfl w.heap.size 3 (.int .i64 0) 1 8 Try.underlying22 info_int rfl (by decide) u7 k (ints ms) rfl (hown.alloc _) (some ⟨wr.heap.size, 0, none⟩) 1 1 [.int .i64 (ps[k])] rfl rfl (At.one _ _ _) (by simp [Value.oneCell']) (by simp only [maxLen]; omega) (by omega) (by simp; omega) ?_); intro v5 w5 hown5 hg5 hv5)
            go_roundw
            case rel => exact ⟨k + 1, ms ++ [ps[k]], by omega, by go_num, hM.snoc hlt _ hi (fun _ => rfl), by rw [ints_append]; simpa [ints] using hown5, (hB.alloc (by omega) _).grown hg5 (by simp; omega) (by intro g hg; exact (hown.lt g hg).1)⟩
            case measure => simp [intOf]; omega
        · go_wp2_with (at_builtin; (refine wpList_app _ rfl (.tmp 81) (.tmp 83) 22 rfl w.heap.size 3 (.int .i64 0) 1 8 Try.underlying22 info_int rfl (by decide) u7 k (ints ms) rfl (hown.alloc _) (some ⟨wr.heap.size, 0, none⟩) 1 1 [.int .i64 (ps[k])] rfl rfl (At.one _ _ _) (by simp [Value.oneCell']) (by simp only [maxLen]; omega) (by omega) (by simp; omega) ?_); intro v5 w5 hown5 hg5 hv5)
          go_roundw
          case rel => exact ⟨k + 1, ms ++ [ps[k]], by omega, by go_num, hM.snoc hlt _ hi (fun _ => rfl), by rw [ints_append]; simpa [ints] using hown5, (hB.alloc (by omega) _).grown hg5 (by simp; omega) (by intro g hg; exact (hown.lt g hg).1)⟩
          case measure => simp [intOf]; omega
      · go_wp2_with (at_builtin; (refine wpList_app _ rfl (.tmp 81) (.tmp 83) 22 rfl w.heap.size 3 (.int .i64 0) 1 8 Try.underlying22 info_int rfl (by decide) u7 k (ints ms) rfl (hown.alloc _) (some ⟨wr.heap.size, 0, none⟩) 1 1 [.int .i64 (ps[k])] rfl rfl (At.one _ _ _) (by simp [Value.oneCell']) (by simp only [maxLen]; omega) (by omega) (by simp; omega) ?_); intro v5 w5 hown5 hg5 hv5)
        go_roundw
        case rel => exact ⟨k + 1, ms ++ [ps[k]], by omega, by go_num, hM.snoc hlt _ hi (fun _ => rfl), by rw [ints_append]; simpa [ints] using hown5, (hB.alloc (by omega) _).grown hg5 (by simp; omega) (by intro g hg; exact (hown.lt g hg).1)⟩
        case measure => simp [intOf]; omega
    · have hkl : k = ps.length := by omega
      subst hkl
      obtain ⟨A, c, rfl⟩ := own_shape hown
      have Hl : Hid (ms.length = ps.length) := hM.1
      have Hw : Hid (∀ p ∈ ms, i64 p) := by
        intro p hp
        obtain ⟨i, hi, rfl⟩ := List.getElem_of_mem hp
        exact (hM.2 i hi (by rw [← hM.1]; exact hi)).1
      have Hc : Hid (orderedL (upto n) ms = orderedL (upto n) ps) := by
        show _ = _
        refine (orderedL_congr (upto n) ps ms hM.1.symm ?_).symm
        intro i h1 h2 h3
        rw [upto_length] at h3 ⊢
        exact (hM.2 i h2 h1).2 h3
      have hpB : ∀ a, a1 = some a → 0 < ps.length → a.block < wr.heap.size := by
        intro a h hl
        have := hpb a h hl
        omega
      go_wp2_with fail
      refine (order_ex n a1 cap1 ps.length ps (orderedL (upto n) ps) wr (by omega) rfl (hpa.below hB) hpm hpw hpB rfl).mono ?_
      rintro e w2 ⟨A2, c2, rfl, h2, hB2, hA2⟩
      have hs2 := hB2.size
      have ho2 := own_below hown hB2
      go_wp2_with fail
      refine (order_ex n A c ps.length ms (orderedL (upto n) ps) w2 (by omega) Hl.out.symm (At.of_own ho2) (by rw [Hl.out]; omega) Hw.out (by rintro a rfl _; exact (ho2.lt a.block rfl).2) Hc.out).mono ?_
      rintro e w3 ⟨A3, c3, rfl, h3, hB3, hA3⟩
      have hs3 := hB3.size
      go_wp2_with fail
      refine (turns_any w3).mono ?_
      rintro e w4 ⟨rfl, hB4⟩
      have hs4 := hB4.size
      go_wp2_with fail
      refine (ints_same A2 A3 n c2 c3 (orderedL (upto n) ps) w4 (by rw [orderedL_length, upto_length]) ((h2.below hB3).below hB4) (h3.below hB4) (by rw [orderedL_length, upto_length]; omega)).mono ?_
      rintro e w5 ⟨rfl, hB5⟩
      go_wp2
      go_ret
      exact ⟨rfl, (((hB.trans (hB2.mono (by omega))).trans (hB3.mono (by omega))).trans (hB4.mono (by omega))).trans (hB5.mono (by omega))⟩

/-! ### THE ROW's STEP: WRITTEN OUT: LEAVE IT -/
set_option maxRecDepth 100000 in
theorem lifted (os : Os) (started : os.Started) (H : Type) (enc : TypeId × Value → H) :
    ReturnsInHanded {} Try.checked os 6 .any (Rows.turnLeftSpec.pre6 enc Try.prog Try.f6 Rows.turnLeftRow.domain false) (Rows.turnLeftSpec.post enc Try.prog Try.f6 false true false false) := by
  refine returnsInHanded_of_change (C := Try.checked) own started (by kernel_rfl) Try.func6
    (ChangeSpec.witness6 (enc := enc) (C := Try.checked) false ⟨#[], #[.int .i64 0, .slice none 0 0, .slice none 0 0], []⟩ 8 (by kernel_rfl) (by kernel_rfl) (by kernel_rfl) (by kernel_rfl)) ?_
  intro W base args ds gs before hval0 hW hcnd _
  have hval : ∀ (j : Nat) t v, Try.f6.params[j]? = some t → args[j]? = some v → Value.okWide Try.prog W .any base t v := hval0
  have hW' := hW
  obtain ⟨p, q, hA0, hV, rfl, hfz, hnd⟩ := hW
  have hA : DataW.TrodAll enc Try.prog W 0 (fun _ => true) true Try.f6.params.toList args.toList ds p := hA0
  rw [Try.params6] at hA hval
  obtain ⟨v0, vs0, d0, ds0, p0, q0, hargs, rfl, rfl, h0, r0⟩ := trodAll_cons hA
  obtain ⟨v1, vs1, d1, ds1, p1, q1, rfl, rfl, rfl, h1, r1⟩ := trodAll_cons r0
  obtain ⟨v2, vs2, d2, ds2, p2, q2, rfl, rfl, rfl, h2, r2⟩ := trodAll_cons r1
  obtain ⟨rfl, rfl, rfl⟩ := trodAll_nil r2
  obtain rfl : args = #[v0, v1, v2] := by cases args; simp_all
  obtain ⟨rfl, rfl⟩ := trodVars_none hV
  obtain ⟨a0, rfl, rfl, rfl, w0⟩ := open_int Try.underlying3 (hval 0 3 v0 rfl rfl) h0
  obtain ⟨a1, len1, cap1, rfl⟩ := okWide_slice Try.underlying22 (hval 1 22 v1 rfl rfl)
  have k1 := h1
  have lt1 : ∀ x ∈ p1, x.block < W.heap.size := by obtain ⟨m, hm⟩ := k1; exact DataW.trod_lt m _ _ _ hm
  obtain ⟨z1, w1⟩ : ∃ zs, IsRow .i64 W a1 len1 cap1 zs := by
    obtain ⟨fuel, hf⟩ := h1
    rcases open_ints Try.underlying22 Try.underlying3 (by kernel_rfl) hf with ⟨hcs, _⟩ | ⟨x, l, c, zs, hcs, _, hl, hm, hz, _, hcell, hwz⟩
    · simp [Value.cells] at hcs
      obtain ⟨rfl, rfl, rfl⟩ := hcs
      exact ⟨[], .inl ⟨rfl, rfl, rfl, rfl⟩⟩
    · simp [Value.cells] at hcs
      obtain ⟨rfl, rfl, rfl⟩ := hcs
      exact ⟨zs, .inr ⟨_, rfl, hl, hm, by simpa using hz, hcell, hwz⟩⟩
  obtain ⟨a2, len2, cap2, rfl⟩ := okWide_slice Try.underlying22 (hval 2 22 v2 rfl rfl)
  have k2 := h2
  have lt2 : ∀ x ∈ p2, x.block < W.heap.size := by obtain ⟨m, hm⟩ := k2; exact DataW.trod_lt m _ _ _ hm
  obtain ⟨z2, w2⟩ : ∃ zs, IsRow .i64 W a2 len2 cap2 zs := by
    obtain ⟨fuel, hf⟩ := h2
    rcases open_ints Try.underlying22 Try.underlying3 (by kernel_rfl) hf with ⟨hcs, _⟩ | ⟨x, l, c, zs, hcs, _, hl, hm, hz, _, hcell, hwz⟩
    · simp [Value.cells] at hcs
      obtain ⟨rfl, rfl, rfl⟩ := hcs
      exact ⟨[], .inl ⟨rfl, rfl, rfl, rfl⟩⟩
    · simp [Value.cells] at hcs
      obtain ⟨rfl, rfl, rfl⟩ := hcs
      exact ⟨zs, .inr ⟨_, rfl, hl, hm, by simpa using hz, hcell, hwz⟩⟩
  clear hA0 hval0
  refine (walk a0 a1 len1 cap1 z1 a2 len2 cap2 z2 W w0 w1 w2).mono fun e W' ⟨he, bel⟩ => ?_
  subst he
  exact ⟨_, rfl, _, _, _, [], _, [], hW', trodAll_mk1 (shut_bool Try.underlying4 _), (trodAll_cons_mk (shut_int Try.underlying3 w0) (trodAll_cons_mk (Below.trod laidOut (by kernel_rfl) (of_decide_eq_true (by kernel_rfl)) k1 bel lt1) (trodAll_cons_mk (Below.trod laidOut (by kernel_rfl) (of_decide_eq_true (by kernel_rfl)) k2 bel lt2) trodAll_mk0))), rfl, bel.frame _, fun h => by cases h⟩

theorem over : Rows.turnLeftRow.holds Try.pinned (OpenSpec.ofChange Rows.turnLeftSpec) :=
  OpenClaim.holds_of_wide 6 Try.f6 rfl rfl rfl rfl rfl rfl rfl ⟨rfl, rfl, rfl, rfl, rfl⟩ rfl rfl rfl rfl rfl (by kernel_rfl) Try.func6 (by kernel_rfl)
    (of_decide_eq_true (by kernel_rfl)) (by unfold Func.isWrapper; first | (rw [if_pos (by decide +kernel)]; kernel_rfl) | (rw [if_neg (by decide +kernel)]; exact ⟨rfl, rfl⟩))
    (fun os started H enc _ => lifted os started H enc)

/-- ████ THE STATEMENT ████ -/
theorem proved : Rows.TurnLeftSaid := over
#print axioms proved
end Go.Proofs.Ytimiedahbmfkhaa.turnLeft
