/-
  The table is the code.
-/
import Derived.Test.YtfobdiiolebipaaT23
import Derived.Test.YtfobdiiolebipaaProg
import Derived.KernelRfl
namespace Go.Proofs.Ytfobdiiolebipaa

theorem e1079 : EntryOk Try.prog fid 3 (.fn d1079) := ⟨Try.f3, Try.f3.body.getD .skip, by kernel_rfl, by kernel_rfl, by kernel_rfl, ⟨by kernel_rfl, by kernel_rfl, fun _ => by kernel_rfl⟩, by kernel_rfl, by kernel_rfl⟩
theorem e1080 : EntryOk Try.prog fid 4 (.fn d1080) := ⟨Try.f4, Try.f4.body.getD .skip, by kernel_rfl, by kernel_rfl, by kernel_rfl, ⟨by kernel_rfl, by kernel_rfl, fun _ => by kernel_rfl⟩, by kernel_rfl, by kernel_rfl⟩
theorem e1081 : EntryOk Try.prog fid 5 (.fn d1081) := ⟨Try.f5, Try.f5.body.getD .skip, by kernel_rfl, by kernel_rfl, by kernel_rfl, ⟨by kernel_rfl, by kernel_rfl, fun _ => by kernel_rfl⟩, by kernel_rfl, by kernel_rfl⟩
theorem e1082 : EntryOk Try.prog fid 6 (.fn d1082) := ⟨Try.f6, Try.f6.body.getD .skip, by kernel_rfl, by kernel_rfl, by kernel_rfl, ⟨by kernel_rfl, by kernel_rfl, fun _ => by kernel_rfl⟩, by kernel_rfl, by kernel_rfl⟩
theorem e1083 : EntryOk Try.prog fid 7 (.fn d1083) := ⟨Try.f7, Try.f7.body.getD .skip, by kernel_rfl, by kernel_rfl, by kernel_rfl, ⟨by kernel_rfl, by kernel_rfl, fun _ => by kernel_rfl⟩, by kernel_rfl, by kernel_rfl⟩
theorem e1084 : EntryOk Try.prog fid 8 (.fn d1084) := ⟨Try.f8, Try.f8.body.getD .skip, by kernel_rfl, by kernel_rfl, by kernel_rfl, ⟨by kernel_rfl, by kernel_rfl, fun _ => by kernel_rfl⟩, by kernel_rfl, by kernel_rfl⟩
theorem e1085 : EntryOk Try.prog fid 9 (.fn d1085) := ⟨Try.f9, Try.f9.body.getD .skip, by kernel_rfl, by kernel_rfl, by kernel_rfl, ⟨by kernel_rfl, by kernel_rfl, fun _ => by kernel_rfl⟩, by kernel_rfl, by kernel_rfl⟩
theorem e1086 : EntryOk Try.prog fid 10 (.fn d1086) := ⟨Try.f10, Try.f10.body.getD .skip, by kernel_rfl, by kernel_rfl, by kernel_rfl, ⟨by kernel_rfl, by kernel_rfl, fun _ => by kernel_rfl⟩, by kernel_rfl, by kernel_rfl⟩
theorem e1087 : EntryOk Try.prog fid 11 (.fn d1087) := ⟨Try.f11, Try.f11.body.getD .skip, by kernel_rfl, by kernel_rfl, by kernel_rfl, ⟨by kernel_rfl, by kernel_rfl, fun _ => by kernel_rfl⟩, by kernel_rfl, by kernel_rfl⟩
theorem e1088 : EntryOk Try.prog fid 12 (.fn d1088) := ⟨Try.f12, Try.f12.body.getD .skip, by kernel_rfl, by kernel_rfl, by kernel_rfl, ⟨by kernel_rfl, by kernel_rfl, fun _ => by kernel_rfl⟩, by kernel_rfl, by kernel_rfl⟩
theorem e1089 : EntryOk Try.prog fid 13 (.fn d1089) := ⟨Try.f13, Try.f13.body.getD .skip, by kernel_rfl, by kernel_rfl, by kernel_rfl, ⟨by kernel_rfl, by kernel_rfl, fun _ => by kernel_rfl⟩, by kernel_rfl, by kernel_rfl⟩
theorem e1090 : EntryOk Try.prog fid 14 (.fn d1090) := ⟨Try.f14, Try.f14.body.getD .skip, by kernel_rfl, by kernel_rfl, by kernel_rfl, ⟨by kernel_rfl, by kernel_rfl, fun _ => by kernel_rfl⟩, by kernel_rfl, by kernel_rfl⟩
theorem e1091 : EntryOk Try.prog fid 15 (.fn d1091) := ⟨Try.f15, Try.f15.body.getD .skip, by kernel_rfl, by kernel_rfl, by kernel_rfl, ⟨by kernel_rfl, by kernel_rfl, fun _ => by kernel_rfl⟩, by kernel_rfl, by kernel_rfl⟩
theorem e1092 : EntryOk Try.prog fid 16 (.fn d1092) := ⟨Try.f16, Try.f16.body.getD .skip, by kernel_rfl, by kernel_rfl, by kernel_rfl, ⟨by kernel_rfl, by kernel_rfl, fun _ => by kernel_rfl⟩, by kernel_rfl, by kernel_rfl⟩
theorem e1093 : EntryOk Try.prog fid 17 (.fn d1093) := ⟨Try.f17, Try.f17.body.getD .skip, by kernel_rfl, by kernel_rfl, by kernel_rfl, ⟨by kernel_rfl, by kernel_rfl, fun _ => by kernel_rfl⟩, by kernel_rfl, by kernel_rfl⟩
theorem e1094 : EntryOk Try.prog fid 18 (.fn d1094) := ⟨Try.f18, Try.f18.body.getD .skip, by kernel_rfl, by kernel_rfl, by kernel_rfl, ⟨by kernel_rfl, by kernel_rfl, fun _ => by kernel_rfl⟩, by kernel_rfl, by kernel_rfl⟩
theorem e1095 : EntryOk Try.prog fid 19 (.fn d1095) := ⟨Try.f19, Try.f19.body.getD .skip, by kernel_rfl, by kernel_rfl, by kernel_rfl, ⟨by kernel_rfl, by kernel_rfl, fun _ => by kernel_rfl⟩, by kernel_rfl, by kernel_rfl⟩
theorem e1096 : EntryOk Try.prog fid 20 (.fn d1096) := ⟨Try.f20, Try.f20.body.getD .skip, by kernel_rfl, by kernel_rfl, by kernel_rfl, ⟨by kernel_rfl, by kernel_rfl, fun _ => by kernel_rfl⟩, by kernel_rfl, by kernel_rfl⟩
theorem e1097 : EntryOk Try.prog fid 21 (.fn d1097) := ⟨Try.f21, Try.f21.body.getD .skip, by kernel_rfl, by kernel_rfl, by kernel_rfl, ⟨by kernel_rfl, by kernel_rfl, fun _ => by kernel_rfl⟩, by kernel_rfl, by kernel_rfl⟩
theorem e1098 : EntryOk Try.prog fid 22 (.fn d1098) := ⟨Try.f22, Try.f22.body.getD .skip, by kernel_rfl, by kernel_rfl, by kernel_rfl, ⟨by kernel_rfl, by kernel_rfl, fun _ => by kernel_rfl⟩, by kernel_rfl, by kernel_rfl⟩
theorem e1099 : EntryOk Try.prog fid 23 (.fn d1099) := ⟨Try.f23, Try.f23.body.getD .skip, by kernel_rfl, by kernel_rfl, by kernel_rfl, ⟨by kernel_rfl, by kernel_rfl, fun _ => by kernel_rfl⟩, by kernel_rfl, by kernel_rfl⟩
theorem e1100 : EntryOk Try.prog fid 24 (.fn d1100) := ⟨Try.f24, Try.f24.body.getD .skip, by kernel_rfl, by kernel_rfl, by kernel_rfl, ⟨by kernel_rfl, by kernel_rfl, fun _ => by kernel_rfl⟩, by kernel_rfl, by kernel_rfl⟩
theorem e1101 : EntryOk Try.prog fid 25 (.fn d1101) := ⟨Try.f25, Try.f25.body.getD .skip, by kernel_rfl, by kernel_rfl, by kernel_rfl, ⟨by kernel_rfl, by kernel_rfl, fun _ => by kernel_rfl⟩, by kernel_rfl, by kernel_rfl⟩
theorem e1102 : EntryOk Try.prog fid 26 (.fn d1102) := ⟨Try.f26, Try.f26.body.getD .skip, by kernel_rfl, by kernel_rfl, by kernel_rfl, ⟨by kernel_rfl, by kernel_rfl, fun _ => by kernel_rfl⟩, by kernel_rfl, by kernel_rfl⟩
theorem e1103 : EntryOk Try.prog fid 27 (.orc (cloneG 8 80)) := clone_ok (f := 27) (fn := Try.f27) (c := Try.f27.body.getD .skip) (z := [.int .i64 0, .int .i64 0, .int .i64 0, .int .i64 0, .int .i64 0, .nils, .int .i64 0, .int .i64 0]) (by kernel_rfl) (by kernel_rfl) (by kernel_rfl) ⟨by kernel_rfl, by kernel_rfl, fun _ => by kernel_rfl⟩ (by kernel_rfl)
theorem e1104 : EntryOk Try.prog fid 28 (.orc (cloneG 1 16)) := clone_ok (f := 28) (fn := Try.f28) (c := Try.f28.body.getD .skip) (z := [.str []]) (by kernel_rfl) (by kernel_rfl) (by kernel_rfl) ⟨by kernel_rfl, by kernel_rfl, fun _ => by kernel_rfl⟩ (by kernel_rfl)
theorem e1105 : EntryOk Try.prog fid 29 (.fn d1105) := ⟨Try.f29, Try.f29.body.getD .skip, by kernel_rfl, by kernel_rfl, by kernel_rfl, ⟨by kernel_rfl, by kernel_rfl, fun _ => by kernel_rfl⟩, by kernel_rfl, by kernel_rfl⟩

theorem fid_mem : ∀ {l : List (Nat × Nat)} {f k : Nat}, l.lookup f = some k → (f, k) ∈ l
  | [], _, _, h => by cases h
  | (a, b) :: l, f, k, h => by
    rw [List.lookup_cons] at h
    split at h
    · rename_i hf
      injection h with h
      subst h
      rw [show f = a by simpa using hf]
      exact List.mem_cons_self
    · exact List.mem_cons_of_mem _ (fid_mem h)

def AllOk : List (Nat × Nat) → Prop
  | [] => True
  | p :: l => (∀ e, tab p.2 = some e → EntryOk Try.prog fid p.1 e) ∧ AllOk l

theorem all_mem : ∀ {l : List (Nat × Nat)}, AllOk l → ∀ p ∈ l, ∀ e, tab p.2 = some e → EntryOk Try.prog fid p.1 e
  | _ :: _, h, p, hp => by
    rcases List.mem_cons.1 hp with rfl | hp
    · exact h.1
    · exact all_mem h.2 p hp

theorem one_ok {f k : Nat} {d : Entry} (h : tab k = some d) (e : EntryOk Try.prog fid f d) : ∀ x, tab k = some x → EntryOk Try.prog fid f x := by
  intro x hx
  rw [h] at hx
  injection hx with hx
  exact hx ▸ e

theorem none_ok {f k : Nat} (h : tab k = none) : ∀ x, tab k = some x → EntryOk Try.prog fid f x := by
  intro x hx
  rw [h] at hx
  cases hx

theorem all_ok : AllOk fidL := ⟨one_ok t1079 e1079, one_ok t1080 e1080, one_ok t1081 e1081, one_ok t1082 e1082, one_ok t1083 e1083, one_ok t1084 e1084, one_ok t1085 e1085, one_ok t1086 e1086, one_ok t1087 e1087, one_ok t1088 e1088, one_ok t1089 e1089, one_ok t1090 e1090, one_ok t1091 e1091, one_ok t1092 e1092, one_ok t1093 e1093, one_ok t1094 e1094, one_ok t1095 e1095, one_ok t1096 e1096, one_ok t1097 e1097, one_ok t1098 e1098, one_ok t1099 e1099, one_ok t1100 e1100, one_ok t1101 e1101, one_ok t1102 e1102, one_ok t1103 e1103, one_ok t1104 e1104, one_ok t1105 e1105, trivial⟩

theorem good : Good Try.prog fid tab := fun f k e hf he => all_mem all_ok (f, k) (fid_mem hf) e he

end Go.Proofs.Ytfobdiiolebipaa
