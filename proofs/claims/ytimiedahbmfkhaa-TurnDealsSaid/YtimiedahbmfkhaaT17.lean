/- The table of the functions. -/
import Derived.Test.YtimiedahbmfkhaaF17
import Derived.Test.YtimiedahbmfkhaaKz
namespace Go.Proofs.Ytimiedahbmfkhaa
set_option linter.unusedSimpArgs false
set_option linter.unusedVariables false
def fidL : List (Nat × Nat) := [(7, 1110), (10, 1112), (12, 1114), (16, 1118), (18, 1016), (21, 1122), (24, 1125), (25, 1126), (30, 1130), (31, 1131), (23, 1124)]
def fid : FuncId → Option Nat := fun f => fidL.lookup f
def tab : Nat → Option Entry := fun k => [(1110, Entry.fn d1110), (1112, Entry.fn d1112), (1114, Entry.fn d1114), (1118, Entry.fn d1118), (1016, Entry.fn d1016), (1122, Entry.fn d1122), (1125, Entry.fn d1125), (1126, Entry.fn d1126), (1130, Entry.fn d1130), (1131, Entry.fn d1131)].lookup k
theorem t1110 : tab 1110 = some (.fn d1110) := by rfl
theorem t1112 : tab 1112 = some (.fn d1112) := by rfl
theorem t1114 : tab 1114 = some (.fn d1114) := by rfl
theorem t1118 : tab 1118 = some (.fn d1118) := by rfl
theorem t1016 : tab 1016 = some (.fn d1016) := by rfl
theorem t1122 : tab 1122 = some (.fn d1122) := by rfl
theorem t1125 : tab 1125 = some (.fn d1125) := by rfl
theorem t1126 : tab 1126 = some (.fn d1126) := by rfl
theorem t1130 : tab 1130 = some (.fn d1130) := by rfl
theorem t1131 : tab 1131 = some (.fn d1131) := by rfl
theorem n1124 : tab 1124 = none := by rfl
end Go.Proofs.Ytimiedahbmfkhaa
