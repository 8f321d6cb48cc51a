import Derived.Test.YtbgklmekeafmeaaW12
namespace Go.Proofs.Ytbgklmekeafmeaa
open Go.RowKit

set_option maxHeartbeats 2000000 in
theorem refNumber_ok (m : Nat) (hm : m ≤ 2147483647) (w : World) :
    Calls Try.prog 10 #[.int .i64 m] w fun e w' => e = .returned (.tuple #[.string (bstr (digs m)), .int .i64 0]) ∧ Below w.heap.size w w' := by
  have hdl := Lib.hid (digs_length m hm)
  have d1 : decide ((m : Int) < 0) = false := by simp
  have d2 : decide ((2147483647 : Int) < (m : Int)) = false := by simp; omega
  go_enter Try.func10, Try.ntmps10
  go_wp2_with fail
  clear d1 d2
  go_loopw [0, 4] (fun nv v wr => ∃ (k : Nat) (pre : List Nat), nv = .int .i64 k ∧ k ≤ 2147483647 ∧ Hid (digs m = pre ++ digs k) ∧ wr.ownsRow w.heap.size 5 1 v pre.length (u8s pre) ∧ Below w.heap.size w wr) (fun nv _ _ => (intOf nv).toNat)
  case atStart => exact ⟨m, [], rfl, hm, rfl, World.ownsRow_nil _ _ _ _, Below.refl _ _⟩
  case round =>
    obtain ⟨k, pre, rfl, hk, HE, hown, hB⟩ := hrel
    obtain ⟨A, c, rfl⟩ := own_shape hown
    have hsz := hB.size
    have hpl : pre.length ≤ 5 := by
      have h := hdl.out
      rw [HE.out, List.length_append] at h
      omega
    by_cases hb : 128 ≤ k
    · have hd := digs_big hb
      have HD := Lib.hid hd
      clear hd
      have d0 : decide ((128 : Int) ≤ (k : Int)) = true := by simp; omega
      go_wp2_with (at_builtin; (refine wpList_app _ rfl (.tmp 13) (.tmp 18) 42 rfl w.heap.size 5 (.int .u8 0) 1 1 Try.underlying42 info_u8 rfl (by decide) (.slice A pre.length c) pre.length (u8s pre) rfl (hown.alloc _) (some ⟨wr.heap.size, 0, none⟩) 1 1 [.int .u8 (128 + (k : Int) % 128)] rfl rfl (At.one _ _ _) (by simp [Value.oneCell']) (by simp only [maxLen]; omega) (by omega) (by simp; omega) ?_); intro v5 w5 hown5 hg5 hv5; obtain ⟨g5, cap5, rfl⟩ := ownsRow_succ hown5)
      have HO : Hid (w5.ownsRow w.heap.size 5 1 (.slice (some ⟨g5, 0, none⟩) (pre.length + 1) cap5) (pre.length + 1) (u8s pre ++ u8s [k % 128 + 128])) := by rw [show (128 + (k : Int) % 128) = ((k % 128 + 128 : Nat) : Int) by omega] at hown5; exact hown5
      clear hown5
      go_wp2
      go_roundw
      case rel => exact ⟨k / 128, pre ++ [k % 128 + 128], by go_num, by omega, by show _ = _; rw [HE.out, HD.out]; simp, by rw [List.length_append, u8s_append]; exact HO.out, (hB.alloc (by omega) _).grown hg5 (by simp; omega) (by intro b hb; have := (hown.lt b hb).1; omega)⟩
      case measure => simp [intOf]; omega
    · have hd := digs_small (n := k) (by omega)
      have HD := Lib.hid hd
      clear hd
      have d0 : decide ((128 : Int) ≤ (k : Int)) = false := by simp; omega
      go_wp2_with (at_builtin; (refine wpList_app _ rfl (.tmp 22) (.tmp 25) 42 rfl w.heap.size 5 (.int .u8 0) 1 1 Try.underlying42 info_u8 rfl (by decide) (.slice A pre.length c) pre.length (u8s pre) rfl (hown.alloc _) (some ⟨wr.heap.size, 0, none⟩) 1 1 [.int .u8 (k : Int)] rfl rfl (At.one _ _ _) (by simp [Value.oneCell']) (by simp only [maxLen]; omega) (by omega) (by simp; omega) ?_); intro v5 w5 hown5 hg5 hv5; obtain ⟨g5, cap5, rfl⟩ := ownsRow_succ hown5)
      have HO : w5.ownsRow w.heap.size 5 1 (.slice (some ⟨g5, 0, none⟩) (pre.length + 1) cap5) (pre.length + 1) (u8s (pre ++ [k])) := by rw [u8s_append]; exact hown5
      have hcv := conv_bytes (some ⟨g5, 0, none⟩) (pre.length + 1) cap5 (pre ++ [k]) w5 (At.of_own HO) (by simp)
      have HE2 : Hid (digs m = pre ++ [k]) := by show _ = _; rw [HE.out, HD.out]
      have HG : Hid (w.heap.size ≤ wr.heap.size ∧ ∀ b, (Value.slice A pre.length c).ownBlock = some b → w.heap.size ≤ b) := ⟨hsz, fun b hb => (hown.lt b hb).1⟩
      clear HO hown5 HE HD hown
      generalize pre.length + 1 = nn at *
      generalize pre ++ [k] = out at *
      go_wp2
      rw [hcv]
      go_wp2
      go_ret2
      exact ⟨by rw [HE2.out]; rfl, (hB.alloc (by omega) _).grown hg5 (by simp; omega) (by intro b hb; exact HG.out.2 b hb)⟩
end Go.Proofs.Ytbgklmekeafmeaa
