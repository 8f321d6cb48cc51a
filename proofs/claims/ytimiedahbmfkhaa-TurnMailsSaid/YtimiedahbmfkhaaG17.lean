/- The table is the code. -/
import Derived.Test.YtimiedahbmfkhaaT17
import Derived.Test.YtimiedahbmfkhaaProg
import Derived.KernelRfl
namespace Go.Proofs.Ytimiedahbmfkhaa
set_option linter.unusedSimpArgs false
set_option linter.unusedVariables false
set_option maxRecDepth 1000000
theorem e1108 : EntryOk Try.prog fid 5 (.fn d1108) := ⟨Try.f5, Try.f5.body.getD .skip, by kernel_rfl, by kernel_rfl, by kernel_rfl, ⟨by kernel_rfl, by kernel_rfl, fun _ => by kernel_rfl⟩, by kernel_rfl, by kernel_rfl⟩
theorem e1112 : EntryOk Try.prog fid 10 (.fn d1112) := ⟨Try.f10, Try.f10.body.getD .skip, by kernel_rfl, by kernel_rfl, by kernel_rfl, ⟨by kernel_rfl, by kernel_rfl, fun _ => by kernel_rfl⟩, by kernel_rfl, by kernel_rfl⟩
theorem e1114 : EntryOk Try.prog fid 12 (.fn d1114) := ⟨Try.f12, Try.f12.body.getD .skip, by kernel_rfl, by kernel_rfl, by kernel_rfl, ⟨by kernel_rfl, by kernel_rfl, fun _ => by kernel_rfl⟩, by kernel_rfl, by kernel_rfl⟩
theorem e1116 : EntryOk Try.prog fid 14 (.fn d1116) := ⟨Try.f14, Try.f14.body.getD .skip, by kernel_rfl, by kernel_rfl, by kernel_rfl, ⟨by kernel_rfl, by kernel_rfl, fun _ => by kernel_rfl⟩, by kernel_rfl, by kernel_rfl⟩
theorem e1016 : EntryOk Try.prog fid 18 (.fn d1016) := ⟨Try.f18, Try.f18.body.getD .skip, by kernel_rfl, by kernel_rfl, by kernel_rfl, ⟨by kernel_rfl, by kernel_rfl, fun _ => by kernel_rfl⟩, by kernel_rfl, by kernel_rfl⟩
theorem e1120 : EntryOk Try.prog fid 19 (.fn d1120) := ⟨Try.f19, Try.f19.body.getD .skip, by kernel_rfl, by kernel_rfl, by kernel_rfl, ⟨by kernel_rfl, by kernel_rfl, fun _ => by kernel_rfl⟩, by kernel_rfl, by kernel_rfl⟩
theorem e1122 : EntryOk Try.prog fid 21 (.fn d1122) := ⟨Try.f21, Try.f21.body.getD .skip, by kernel_rfl, by kernel_rfl, by kernel_rfl, ⟨by kernel_rfl, by kernel_rfl, fun _ => by kernel_rfl⟩, by kernel_rfl, by kernel_rfl⟩
theorem e1124 : EntryOk Try.prog fid 23 (.fn d1124) := ⟨Try.f23, Try.f23.body.getD .skip, by kernel_rfl, by kernel_rfl, by kernel_rfl, ⟨by kernel_rfl, by kernel_rfl, fun _ => by kernel_rfl⟩, by kernel_rfl, by kernel_rfl⟩
theorem e1125 : EntryOk Try.prog fid 24 (.fn d1125) := ⟨Try.f24, Try.f24.body.getD .skip, by kernel_rfl, by kernel_rfl, by kernel_rfl, ⟨by kernel_rfl, by kernel_rfl, fun _ => by kernel_rfl⟩, by kernel_rfl, by kernel_rfl⟩
theorem e1126 : EntryOk Try.prog fid 25 (.fn d1126) := ⟨Try.f25, Try.f25.body.getD .skip, by kernel_rfl, by kernel_rfl, by kernel_rfl, ⟨by kernel_rfl, by kernel_rfl, fun _ => by kernel_rfl⟩, by kernel_rfl, by kernel_rfl⟩
theorem e1127 : EntryOk Try.prog fid 26 (.fn d1127) := ⟨Try.f26, Try.f26.body.getD .skip, by kernel_rfl, by kernel_rfl, by kernel_rfl, ⟨by kernel_rfl, by kernel_rfl, fun _ => by kernel_rfl⟩, by kernel_rfl, by kernel_rfl⟩
theorem e1128 : EntryOk Try.prog fid 27 (.fn d1128) := ⟨Try.f27, Try.f27.body.getD .skip, by kernel_rfl, by kernel_rfl, by kernel_rfl, ⟨by kernel_rfl, by kernel_rfl, fun _ => by kernel_rfl⟩, by kernel_rfl, by kernel_rfl⟩
theorem e1053 : EntryOk Try.prog fid 28 (.fn d1053) := ⟨Try.f28, Try.f28.body.getD .skip, by kernel_rfl, by kernel_rfl, by kernel_rfl, ⟨by kernel_rfl, by kernel_rfl, fun _ => by kernel_rfl⟩, by kernel_rfl, by kernel_rfl⟩
theorem e1129 : EntryOk Try.prog fid 29 (.fn d1129) := ⟨Try.f29, Try.f29.body.getD .skip, by kernel_rfl, by kernel_rfl, by kernel_rfl, ⟨by kernel_rfl, by kernel_rfl, fun _ => by kernel_rfl⟩, by kernel_rfl, by kernel_rfl⟩
theorem e1130 : EntryOk Try.prog fid 30 (.fn d1130) := ⟨Try.f30, Try.f30.body.getD .skip, by kernel_rfl, by kernel_rfl, by kernel_rfl, ⟨by kernel_rfl, by kernel_rfl, fun _ => by kernel_rfl⟩, by kernel_rfl, by kernel_rfl⟩
theorem e1131 : EntryOk Try.prog fid 31 (.fn d1131) := ⟨Try.f31, Try.f31.body.getD .skip, by kernel_rfl, by kernel_rfl, by kernel_rfl, ⟨by kernel_rfl, by kernel_rfl, fun _ => by kernel_rfl⟩, by kernel_rfl, by kernel_rfl⟩
theorem e1132 : EntryOk Try.prog fid 32 (.fn d1132) := ⟨Try.f32, Try.f32.body.getD .skip, by kernel_rfl, by kernel_rfl, by kernel_rfl, ⟨by kernel_rfl, by kernel_rfl, fun _ => by kernel_rfl⟩, by kernel_rfl, by kernel_rfl⟩
theorem e1133 : EntryOk Try.prog fid 33 (.fn d1133) := ⟨Try.f33, Try.f33.body.getD .skip, by kernel_rfl, by kernel_rfl, by kernel_rfl, ⟨by kernel_rfl, by kernel_rfl, fun _ => by kernel_rfl⟩, by kernel_rfl, by kernel_rfl⟩
theorem e1059 : EntryOk Try.prog fid 34 (.fn d1059) := ⟨Try.f34, Try.f34.body.getD .skip, by kernel_rfl, by kernel_rfl, by kernel_rfl, ⟨by kernel_rfl, by kernel_rfl, fun _ => by kernel_rfl⟩, by kernel_rfl, by kernel_rfl⟩
theorem e1060 : EntryOk Try.prog fid 35 (.fn d1060) := ⟨Try.f35, Try.f35.body.getD .skip, by kernel_rfl, by kernel_rfl, by kernel_rfl, ⟨by kernel_rfl, by kernel_rfl, fun _ => by kernel_rfl⟩, by kernel_rfl, by kernel_rfl⟩
theorem e1061 : EntryOk Try.prog fid 36 (.fn d1061) := ⟨Try.f36, Try.f36.body.getD .skip, by kernel_rfl, by kernel_rfl, by kernel_rfl, ⟨by kernel_rfl, by kernel_rfl, fun _ => by kernel_rfl⟩, by kernel_rfl, by kernel_rfl⟩
theorem e1134 : EntryOk Try.prog fid 37 (.fn d1134) := ⟨Try.f37, Try.f37.body.getD .skip, by kernel_rfl, by kernel_rfl, by kernel_rfl, ⟨by kernel_rfl, by kernel_rfl, fun _ => by kernel_rfl⟩, by kernel_rfl, by kernel_rfl⟩
theorem e1135 : EntryOk Try.prog fid 38 (.fn d1135) := ⟨Try.f38, Try.f38.body.getD .skip, by kernel_rfl, by kernel_rfl, by kernel_rfl, ⟨by kernel_rfl, by kernel_rfl, fun _ => by kernel_rfl⟩, by kernel_rfl, by kernel_rfl⟩
theorem e1136 : EntryOk Try.prog fid 39 (.fn d1136) := ⟨Try.f39, Try.f39.body.getD .skip, by kernel_rfl, by kernel_rfl, by kernel_rfl, ⟨by kernel_rfl, by kernel_rfl, fun _ => by kernel_rfl⟩, by kernel_rfl, by kernel_rfl⟩
theorem e1137 : EntryOk Try.prog fid 40 (.fn d1137) := ⟨Try.f40, Try.f40.body.getD .skip, by kernel_rfl, by kernel_rfl, by kernel_rfl, ⟨by kernel_rfl, by kernel_rfl, fun _ => by kernel_rfl⟩, by kernel_rfl, by kernel_rfl⟩
theorem e1138 : EntryOk Try.prog fid 41 (.fn d1138) := ⟨Try.f41, Try.f41.body.getD .skip, by kernel_rfl, by kernel_rfl, by kernel_rfl, ⟨by kernel_rfl, by kernel_rfl, fun _ => by kernel_rfl⟩, by kernel_rfl, by kernel_rfl⟩
theorem e1139 : EntryOk Try.prog fid 42 (.fn d1139) := ⟨Try.f42, Try.f42.body.getD .skip, by kernel_rfl, by kernel_rfl, by kernel_rfl, ⟨by kernel_rfl, by kernel_rfl, fun _ => by kernel_rfl⟩, by kernel_rfl, by kernel_rfl⟩
theorem e1140 : EntryOk Try.prog fid 43 (.fn d1140) := ⟨Try.f43, Try.f43.body.getD .skip, by kernel_rfl, by kernel_rfl, by kernel_rfl, ⟨by kernel_rfl, by kernel_rfl, fun _ => by kernel_rfl⟩, by kernel_rfl, by kernel_rfl⟩
theorem e1141 : EntryOk Try.prog fid 44 (.fn d1141) := ⟨Try.f44, Try.f44.body.getD .skip, by kernel_rfl, by kernel_rfl, by kernel_rfl, ⟨by kernel_rfl, by kernel_rfl, fun _ => by kernel_rfl⟩, by kernel_rfl, by kernel_rfl⟩
theorem e1070 : EntryOk Try.prog fid 45 (.fn d1070) := ⟨Try.f45, Try.f45.body.getD .skip, by kernel_rfl, by kernel_rfl, by kernel_rfl, ⟨by kernel_rfl, by kernel_rfl, fun _ => by kernel_rfl⟩, by kernel_rfl, by kernel_rfl⟩
theorem e1071 : EntryOk Try.prog fid 46 (.fn d1071) := ⟨Try.f46, Try.f46.body.getD .skip, by kernel_rfl, by kernel_rfl, by kernel_rfl, ⟨by kernel_rfl, by kernel_rfl, fun _ => by kernel_rfl⟩, by kernel_rfl, by kernel_rfl⟩
theorem e1072 : EntryOk Try.prog fid 47 (.fn d1072) := ⟨Try.f47, Try.f47.body.getD .skip, by kernel_rfl, by kernel_rfl, by kernel_rfl, ⟨by kernel_rfl, by kernel_rfl, fun _ => by kernel_rfl⟩, by kernel_rfl, by kernel_rfl⟩
theorem e1142 : EntryOk Try.prog fid 48 (.fn d1142) := ⟨Try.f48, Try.f48.body.getD .skip, by kernel_rfl, by kernel_rfl, by kernel_rfl, ⟨by kernel_rfl, by kernel_rfl, fun _ => by kernel_rfl⟩, by kernel_rfl, by kernel_rfl⟩
theorem e1074 : EntryOk Try.prog fid 49 (.fn d1074) := ⟨Try.f49, Try.f49.body.getD .skip, by kernel_rfl, by kernel_rfl, by kernel_rfl, ⟨by kernel_rfl, by kernel_rfl, fun _ => by kernel_rfl⟩, by kernel_rfl, by kernel_rfl⟩
theorem e1075 : EntryOk Try.prog fid 50 (.fn d1075) := ⟨Try.f50, Try.f50.body.getD .skip, by kernel_rfl, by kernel_rfl, by kernel_rfl, ⟨by kernel_rfl, by kernel_rfl, fun _ => by kernel_rfl⟩, by kernel_rfl, by kernel_rfl⟩
theorem e1143 : EntryOk Try.prog fid 51 (.fn d1143) := ⟨Try.f51, Try.f51.body.getD .skip, by kernel_rfl, by kernel_rfl, by kernel_rfl, ⟨by kernel_rfl, by kernel_rfl, fun _ => by kernel_rfl⟩, by kernel_rfl, by kernel_rfl⟩
theorem e1144 : EntryOk Try.prog fid 52 (.fn d1144) := ⟨Try.f52, Try.f52.body.getD .skip, by kernel_rfl, by kernel_rfl, by kernel_rfl, ⟨by kernel_rfl, by kernel_rfl, fun _ => by kernel_rfl⟩, by kernel_rfl, by kernel_rfl⟩
theorem e1145 : EntryOk Try.prog fid 53 (.fn d1145) := ⟨Try.f53, Try.f53.body.getD .skip, by kernel_rfl, by kernel_rfl, by kernel_rfl, ⟨by kernel_rfl, by kernel_rfl, fun _ => by kernel_rfl⟩, by kernel_rfl, by kernel_rfl⟩
theorem fid_mem : ∀ {l : List (Nat × Nat)} {f k : Nat}, l.lookup f = some k → (f, k) ∈ l
  | [], _, _, h => by cases h
  | (a, b) :: l, f, k, h => by
    rw [List.lookup_cons] at h
    split at h
    · rename_i hf
      injection h with h
      subst h
      rw [show f = a by simpa using hf]
      exact List.mem_cons_self
    · exact List.mem_cons_of_mem _ (fid_mem h)
def AllOk : List (Nat × Nat) → Prop
  | [] => True
  | p :: l => (∀ e, tab p.2 = some e → EntryOk Try.prog fid p.1 e) ∧ AllOk l
theorem all_mem : ∀ {l : List (Nat × Nat)}, AllOk l → ∀ p ∈ l, ∀ e, tab p.2 = some e → EntryOk Try.prog fid p.1 e
  | _ :: _, h, p, hp => by
    rcases List.mem_cons.1 hp with rfl | hp
    · exact h.1
    · exact all_mem h.2 p hp
theorem one_ok {f k : Nat} {d : Entry} (h : tab k = some d) (e : EntryOk Try.prog fid f d) : ∀ x, tab k = some x → EntryOk Try.prog fid f x := by
  intro x hx
  rw [h] at hx
  injection hx with hx
  exact hx ▸ e
theorem none_ok {f k : Nat} (h : tab k = none) : ∀ x, tab k = some x → EntryOk Try.prog fid f x := by
  intro x hx
  rw [h] at hx
  cases hx
theorem all_ok : AllOk fidL := ⟨one_ok t1108 e1108, one_ok t1112 e1112, one_ok t1114 e1114, one_ok t1116 e1116, one_ok t1016 e1016, one_ok t1120 e1120, one_ok t1122 e1122, none_ok nd1124, one_ok t1125 e1125, one_ok t1126 e1126, one_ok t1127 e1127, one_ok t1128 e1128, one_ok t1053 e1053, one_ok t1129 e1129, one_ok t1130 e1130, one_ok t1131 e1131, one_ok t1132 e1132, one_ok t1133 e1133, one_ok t1059 e1059, one_ok t1060 e1060, one_ok t1061 e1061, one_ok t1134 e1134, one_ok t1135 e1135, one_ok t1136 e1136, one_ok t1137 e1137, one_ok t1138 e1138, one_ok t1139 e1139, one_ok t1140 e1140, one_ok t1141 e1141, one_ok t1070 e1070, one_ok t1071 e1071, one_ok t1072 e1072, one_ok t1142 e1142, one_ok t1074 e1074, one_ok t1075 e1075, one_ok t1143 e1143, one_ok t1144 e1144, one_ok t1145 e1145, trivial⟩
theorem goodP : Good Try.prog fid tab := fun f k e hf he => all_mem all_ok (f, k) (fid_mem hf) e he
end Go.Proofs.Ytimiedahbmfkhaa
