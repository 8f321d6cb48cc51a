/- The table is the code. -/
import Derived.Test.YtmeakgiojhoofaaT42
import Derived.Test.YtmeakgiojhoofaaProg
import Derived.KernelRfl
import Derived.Test.YtmeakgiojhoofaaKcq
namespace Go.Proofs.Ytmeakgiojhoofaa
set_option maxRecDepth 1000000
theorem e1311 : EntryOk Try.prog fid 8 (.fn d1311) := ⟨Try.f8, Try.f8.body.getD .skip, by kernel_rfl, by kernel_rfl, by kernel_rfl, ⟨by kernel_rfl, by kernel_rfl, fun _ => by kernel_rfl⟩, by kernel_rfl, by kernel_rfl⟩
theorem e1263 : EntryOk Try.prog fid 13 (.fn d1263) := ⟨Try.f13, Try.f13.body.getD .skip, by kernel_rfl, by kernel_rfl, by kernel_rfl, ⟨by kernel_rfl, by kernel_rfl, fun _ => by kernel_rfl⟩, by kernel_rfl, by kernel_rfl⟩
theorem e1264 : EntryOk Try.prog fid 14 (.fn d1264) := ⟨Try.f14, Try.f14.body.getD .skip, by kernel_rfl, by kernel_rfl, by kernel_rfl, ⟨by kernel_rfl, by kernel_rfl, fun _ => by kernel_rfl⟩, by kernel_rfl, by kernel_rfl⟩
theorem e1267 : EntryOk Try.prog fid 17 (.fn d1267) := ⟨Try.f17, Try.f17.body.getD .skip, by kernel_rfl, by kernel_rfl, by kernel_rfl, ⟨by kernel_rfl, by kernel_rfl, fun _ => by kernel_rfl⟩, by kernel_rfl, by kernel_rfl⟩
theorem e1214 : EntryOk Try.prog fid 18 (.fn d1214) := ⟨Try.f18, Try.f18.body.getD .skip, by kernel_rfl, by kernel_rfl, by kernel_rfl, ⟨by kernel_rfl, by kernel_rfl, fun _ => by kernel_rfl⟩, by kernel_rfl, by kernel_rfl⟩
theorem e1268 : EntryOk Try.prog fid 19 (.fn d1268) := ⟨Try.f19, Try.f19.body.getD .skip, by kernel_rfl, by kernel_rfl, by kernel_rfl, ⟨by kernel_rfl, by kernel_rfl, fun _ => by kernel_rfl⟩, by kernel_rfl, by kernel_rfl⟩
theorem e1208 : EntryOk Try.prog fid 20 (.fn d1208) := ⟨Try.f20, Try.f20.body.getD .skip, by kernel_rfl, by kernel_rfl, by kernel_rfl, ⟨by kernel_rfl, by kernel_rfl, fun _ => by kernel_rfl⟩, by kernel_rfl, by kernel_rfl⟩
theorem e1269 : EntryOk Try.prog fid 21 (.fn d1269) := ⟨Try.f21, Try.f21.body.getD .skip, by kernel_rfl, by kernel_rfl, by kernel_rfl, ⟨by kernel_rfl, by kernel_rfl, fun _ => by kernel_rfl⟩, by kernel_rfl, by kernel_rfl⟩
theorem e1222 : EntryOk Try.prog fid 22 (.fn d1222) := ⟨Try.f22, Try.f22.body.getD .skip, by kernel_rfl, by kernel_rfl, by kernel_rfl, ⟨by kernel_rfl, by kernel_rfl, fun _ => by kernel_rfl⟩, by kernel_rfl, by kernel_rfl⟩
theorem e1270 : EntryOk Try.prog fid 23 (.fn d1270) := ⟨Try.f23, Try.f23.body.getD .skip, by kernel_rfl, by kernel_rfl, by kernel_rfl, ⟨by kernel_rfl, by kernel_rfl, fun _ => by kernel_rfl⟩, by kernel_rfl, by kernel_rfl⟩
theorem e1198 : EntryOk Try.prog fid 29 (.fn d1198) := ⟨Try.f29, Try.f29.body.getD .skip, by kernel_rfl, by kernel_rfl, by kernel_rfl, ⟨by kernel_rfl, by kernel_rfl, fun _ => by kernel_rfl⟩, by kernel_rfl, by kernel_rfl⟩
theorem e1326 : EntryOk Try.prog fid 30 (.fn d1326) := ⟨Try.f30, Try.f30.body.getD .skip, by kernel_rfl, by kernel_rfl, by kernel_rfl, ⟨by kernel_rfl, by kernel_rfl, fun _ => by kernel_rfl⟩, by kernel_rfl, by kernel_rfl⟩
theorem e1327 : EntryOk Try.prog fid 31 (.fn d1327) := ⟨Try.f31, Try.f31.body.getD .skip, by kernel_rfl, by kernel_rfl, by kernel_rfl, ⟨by kernel_rfl, by kernel_rfl, fun _ => by kernel_rfl⟩, by kernel_rfl, by kernel_rfl⟩
theorem e1187 : EntryOk Try.prog fid 32 (.fn d1187) := ⟨Try.f32, Try.f32.body.getD .skip, by kernel_rfl, by kernel_rfl, by kernel_rfl, ⟨by kernel_rfl, by kernel_rfl, fun _ => by kernel_rfl⟩, by kernel_rfl, by kernel_rfl⟩
theorem e1190 : EntryOk Try.prog fid 37 (.fn d1190) := ⟨Try.f37, Try.f37.body.getD .skip, by kernel_rfl, by kernel_rfl, by kernel_rfl, ⟨by kernel_rfl, by kernel_rfl, fun _ => by kernel_rfl⟩, by kernel_rfl, by kernel_rfl⟩
theorem e1016 : EntryOk Try.prog fid 41 (.fn d1016) := ⟨Try.f41, Try.f41.body.getD .skip, by kernel_rfl, by kernel_rfl, by kernel_rfl, ⟨by kernel_rfl, by kernel_rfl, fun _ => by kernel_rfl⟩, by kernel_rfl, by kernel_rfl⟩
theorem e1188 : EntryOk Try.prog fid 43 (.fn d1188) := ⟨Try.f43, Try.f43.body.getD .skip, by kernel_rfl, by kernel_rfl, by kernel_rfl, ⟨by kernel_rfl, by kernel_rfl, fun _ => by kernel_rfl⟩, by kernel_rfl, by kernel_rfl⟩
theorem e1332 : EntryOk Try.prog fid 45 (.fn d1332) := ⟨Try.f45, Try.f45.body.getD .skip, by kernel_rfl, by kernel_rfl, by kernel_rfl, ⟨by kernel_rfl, by kernel_rfl, fun _ => by kernel_rfl⟩, by kernel_rfl, by kernel_rfl⟩
theorem e1276 : EntryOk Try.prog fid 48 (.fn d1276) := ⟨Try.f48, Try.f48.body.getD .skip, by kernel_rfl, by kernel_rfl, by kernel_rfl, ⟨by kernel_rfl, by kernel_rfl, fun _ => by kernel_rfl⟩, by kernel_rfl, by kernel_rfl⟩
theorem e1218 : EntryOk Try.prog fid 50 (.fn d1218) := ⟨Try.f50, Try.f50.body.getD .skip, by kernel_rfl, by kernel_rfl, by kernel_rfl, ⟨by kernel_rfl, by kernel_rfl, fun _ => by kernel_rfl⟩, by kernel_rfl, by kernel_rfl⟩
theorem e1216 : EntryOk Try.prog fid 52 (.fn d1216) := ⟨Try.f52, Try.f52.body.getD .skip, by kernel_rfl, by kernel_rfl, by kernel_rfl, ⟨by kernel_rfl, by kernel_rfl, fun _ => by kernel_rfl⟩, by kernel_rfl, by kernel_rfl⟩
theorem e1105 : EntryOk Try.prog fid 55 (.fn d1105) := ⟨Try.f55, Try.f55.body.getD .skip, by kernel_rfl, by kernel_rfl, by kernel_rfl, ⟨by kernel_rfl, by kernel_rfl, fun _ => by kernel_rfl⟩, by kernel_rfl, by kernel_rfl⟩
theorem e1220 : EntryOk Try.prog fid 56 (.fn d1220) := ⟨Try.f56, Try.f56.body.getD .skip, by kernel_rfl, by kernel_rfl, by kernel_rfl, ⟨by kernel_rfl, by kernel_rfl, fun _ => by kernel_rfl⟩, by kernel_rfl, by kernel_rfl⟩
theorem e1221 : EntryOk Try.prog fid 57 (.fn d1221) := ⟨Try.f57, Try.f57.body.getD .skip, by kernel_rfl, by kernel_rfl, by kernel_rfl, ⟨by kernel_rfl, by kernel_rfl, fun _ => by kernel_rfl⟩, by kernel_rfl, by kernel_rfl⟩
theorem e1215 : EntryOk Try.prog fid 58 (.fn d1215) := ⟨Try.f58, Try.f58.body.getD .skip, by kernel_rfl, by kernel_rfl, by kernel_rfl, ⟨by kernel_rfl, by kernel_rfl, fun _ => by kernel_rfl⟩, by kernel_rfl, by kernel_rfl⟩
theorem e1217 : EntryOk Try.prog fid 59 (.fn d1217) := ⟨Try.f59, Try.f59.body.getD .skip, by kernel_rfl, by kernel_rfl, by kernel_rfl, ⟨by kernel_rfl, by kernel_rfl, fun _ => by kernel_rfl⟩, by kernel_rfl, by kernel_rfl⟩
theorem e1281 : EntryOk Try.prog fid 60 (.fn d1281) := ⟨Try.f60, Try.f60.body.getD .skip, by kernel_rfl, by kernel_rfl, by kernel_rfl, ⟨by kernel_rfl, by kernel_rfl, fun _ => by kernel_rfl⟩, by kernel_rfl, by kernel_rfl⟩
theorem e1209 : EntryOk Try.prog fid 61 (.fn d1209) := ⟨Try.f61, Try.f61.body.getD .skip, by kernel_rfl, by kernel_rfl, by kernel_rfl, ⟨by kernel_rfl, by kernel_rfl, fun _ => by kernel_rfl⟩, by kernel_rfl, by kernel_rfl⟩
theorem e1201 : EntryOk Try.prog fid 63 (.fn d1201) := ⟨Try.f63, Try.f63.body.getD .skip, by kernel_rfl, by kernel_rfl, by kernel_rfl, ⟨by kernel_rfl, by kernel_rfl, fun _ => by kernel_rfl⟩, by kernel_rfl, by kernel_rfl⟩
theorem e1202 : EntryOk Try.prog fid 65 (.fn d1202) := ⟨Try.f65, Try.f65.body.getD .skip, by kernel_rfl, by kernel_rfl, by kernel_rfl, ⟨by kernel_rfl, by kernel_rfl, fun _ => by kernel_rfl⟩, by kernel_rfl, by kernel_rfl⟩
theorem e1199 : EntryOk Try.prog fid 66 (.fn d1199) := ⟨Try.f66, Try.f66.body.getD .skip, by kernel_rfl, by kernel_rfl, by kernel_rfl, ⟨by kernel_rfl, by kernel_rfl, fun _ => by kernel_rfl⟩, by kernel_rfl, by kernel_rfl⟩
theorem e1200 : EntryOk Try.prog fid 67 (.fn d1200) := ⟨Try.f67, Try.f67.body.getD .skip, by kernel_rfl, by kernel_rfl, by kernel_rfl, ⟨by kernel_rfl, by kernel_rfl, fun _ => by kernel_rfl⟩, by kernel_rfl, by kernel_rfl⟩
theorem e1211 : EntryOk Try.prog fid 70 (.fn d1211) := ⟨Try.f70, Try.f70.body.getD .skip, by kernel_rfl, by kernel_rfl, by kernel_rfl, ⟨by kernel_rfl, by kernel_rfl, fun _ => by kernel_rfl⟩, by kernel_rfl, by kernel_rfl⟩
theorem e1023 : EntryOk Try.prog fid 71 (.fn d1023) := ⟨Try.f71, Try.f71.body.getD .skip, by kernel_rfl, by kernel_rfl, by kernel_rfl, ⟨by kernel_rfl, by kernel_rfl, fun _ => by kernel_rfl⟩, by kernel_rfl, by kernel_rfl⟩
theorem e1104 : EntryOk Try.prog fid 72 (.orc (cloneG 1 16)) := clone_ok (f := 72) (fn := Try.f72) (c := Try.f72.body.getD .skip) (z := [.str []]) (by kernel_rfl) (by kernel_rfl) (by kernel_rfl) ⟨by kernel_rfl, by kernel_rfl, fun _ => by kernel_rfl⟩ (by kernel_rfl)
theorem e1224 : EntryOk Try.prog fid 74 (.fn d1224) := ⟨Try.f74, Try.f74.body.getD .skip, by kernel_rfl, by kernel_rfl, by kernel_rfl, ⟨by kernel_rfl, by kernel_rfl, fun _ => by kernel_rfl⟩, by kernel_rfl, by kernel_rfl⟩
theorem e1283 : EntryOk Try.prog fid 75 (.orc (cloneG 2 16)) := clone_ok (f := 75) (fn := Try.f75) (c := Try.f75.body.getD .skip) (z := [.int .i64 0, .int .i64 0]) (by kernel_rfl) (by kernel_rfl) (by kernel_rfl) ⟨by kernel_rfl, by kernel_rfl, fun _ => by kernel_rfl⟩ (by kernel_rfl)
theorem e1223 : EntryOk Try.prog fid 77 (.fn d1223) := ⟨Try.f77, Try.f77.body.getD .skip, by kernel_rfl, by kernel_rfl, by kernel_rfl, ⟨by kernel_rfl, by kernel_rfl, fun _ => by kernel_rfl⟩, by kernel_rfl, by kernel_rfl⟩
theorem e1060 : EntryOk Try.prog fid 78 (.fn d1060) := ⟨Try.f78, Try.f78.body.getD .skip, by kernel_rfl, by kernel_rfl, by kernel_rfl, ⟨by kernel_rfl, by kernel_rfl, fun _ => by kernel_rfl⟩, by kernel_rfl, by kernel_rfl⟩
theorem e1061 : EntryOk Try.prog fid 79 (.fn d1061) := ⟨Try.f79, Try.f79.body.getD .skip, by kernel_rfl, by kernel_rfl, by kernel_rfl, ⟨by kernel_rfl, by kernel_rfl, fun _ => by kernel_rfl⟩, by kernel_rfl, by kernel_rfl⟩
theorem e1024 : EntryOk Try.prog fid 80 (.orc (cloneG 1 8)) := clone_ok (f := 80) (fn := Try.f80) (c := Try.f80.body.getD .skip) (z := [.int .i64 0]) (by kernel_rfl) (by kernel_rfl) (by kernel_rfl) ⟨by kernel_rfl, by kernel_rfl, fun _ => by kernel_rfl⟩ (by kernel_rfl)
theorem e1212 : EntryOk Try.prog fid 81 (.fn d1212) := ⟨Try.f81, Try.f81.body.getD .skip, by kernel_rfl, by kernel_rfl, by kernel_rfl, ⟨by kernel_rfl, by kernel_rfl, fun _ => by kernel_rfl⟩, by kernel_rfl, by kernel_rfl⟩
theorem e1210 : EntryOk Try.prog fid 82 (.fn d1210) := ⟨Try.f82, Try.f82.body.getD .skip, by kernel_rfl, by kernel_rfl, by kernel_rfl, ⟨by kernel_rfl, by kernel_rfl, fun _ => by kernel_rfl⟩, by kernel_rfl, by kernel_rfl⟩
theorem e1026 : EntryOk Try.prog fid 83 (.fn d1026) := ⟨Try.f83, Try.f83.body.getD .skip, by kernel_rfl, by kernel_rfl, by kernel_rfl, ⟨by kernel_rfl, by kernel_rfl, fun _ => by kernel_rfl⟩, by kernel_rfl, by kernel_rfl⟩
theorem e1225 : EntryOk Try.prog fid 86 (.orc cmpG) := cmp_ok fid
theorem e1072 : EntryOk Try.prog fid 88 (.fn d1072) := ⟨Try.f88, Try.f88.body.getD .skip, by kernel_rfl, by kernel_rfl, by kernel_rfl, ⟨by kernel_rfl, by kernel_rfl, fun _ => by kernel_rfl⟩, by kernel_rfl, by kernel_rfl⟩
theorem e1219 : EntryOk Try.prog fid 89 (.fn d1219) := ⟨Try.f89, Try.f89.body.getD .skip, by kernel_rfl, by kernel_rfl, by kernel_rfl, ⟨by kernel_rfl, by kernel_rfl, fun _ => by kernel_rfl⟩, by kernel_rfl, by kernel_rfl⟩
theorem fid_mem : ∀ {l : List (Nat × Nat)} {f k : Nat}, l.lookup f = some k → (f, k) ∈ l
  | [], _, _, h => by cases h
  | (a, b) :: l, f, k, h => by
    rw [List.lookup_cons] at h
    split at h
    · rename_i hf
      injection h with h
      subst h
      rw [show f = a by simpa using hf]
      exact List.mem_cons_self
    · exact List.mem_cons_of_mem _ (fid_mem h)
def AllOk : List (Nat × Nat) → Prop
  | [] => True
  | p :: l => (∀ e, tab p.2 = some e → EntryOk Try.prog fid p.1 e) ∧ AllOk l
theorem all_mem : ∀ {l : List (Nat × Nat)}, AllOk l → ∀ p ∈ l, ∀ e, tab p.2 = some e → EntryOk Try.prog fid p.1 e
  | _ :: _, h, p, hp => by
    rcases List.mem_cons.1 hp with rfl | hp
    · exact h.1
    · exact all_mem h.2 p hp
theorem one_ok {f k : Nat} {d : Entry} (h : tab k = some d) (e : EntryOk Try.prog fid f d) : ∀ x, tab k = some x → EntryOk Try.prog fid f x := by
  intro x hx
  rw [h] at hx
  injection hx with hx
  exact hx ▸ e
theorem none_ok {f k : Nat} (h : tab k = none) : ∀ x, tab k = some x → EntryOk Try.prog fid f x := by
  intro x hx
  rw [h] at hx
  cases hx
theorem all_ok : AllOk fidL := ⟨one_ok t1311 e1311, one_ok t1263 e1263, one_ok t1264 e1264, one_ok t1267 e1267, one_ok t1214 e1214, one_ok t1268 e1268, one_ok t1208 e1208, one_ok t1269 e1269, one_ok t1222 e1222, one_ok t1270 e1270, one_ok t1198 e1198, one_ok t1326 e1326, one_ok t1327 e1327, one_ok t1187 e1187, one_ok t1190 e1190, one_ok t1016 e1016, one_ok t1188 e1188, one_ok t1332 e1332, one_ok t1276 e1276, one_ok t1218 e1218, one_ok t1216 e1216, one_ok t1105 e1105, one_ok t1220 e1220, one_ok t1221 e1221, one_ok t1215 e1215, one_ok t1217 e1217, one_ok t1281 e1281, one_ok t1209 e1209, one_ok t1201 e1201, one_ok t1202 e1202, one_ok t1199 e1199, one_ok t1200 e1200, one_ok t1211 e1211, one_ok t1023 e1023, one_ok t1104 e1104, one_ok t1224 e1224, one_ok t1283 e1283, one_ok t1223 e1223, one_ok t1060 e1060, one_ok t1061 e1061, one_ok t1024 e1024, one_ok t1212 e1212, one_ok t1210 e1210, one_ok t1026 e1026, one_ok t1225 e1225, one_ok t1072 e1072, one_ok t1219 e1219, none_ok n1226, trivial⟩
theorem goodP : Good Try.prog fid tab := fun f k e hf he => all_mem all_ok (f, k) (fid_mem hf) e he
end Go.Proofs.Ytmeakgiojhoofaa
