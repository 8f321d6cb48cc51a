/- The table of the functions. -/
import Derived.Test.YtimiedahbmfkhaaF17
import Derived.Test.YtimiedahbmfkhaaKz
namespace Go.Proofs.Ytimiedahbmfkhaa
set_option linter.unusedSimpArgs false
set_option linter.unusedVariables false
def fidL : List (Nat × Nat) := [(3, 1106), (8, 1022), (9, 1111), (10, 1112), (11, 1113), (12, 1114), (13, 1115), (14, 1116), (15, 1117), (16, 1118), (17, 1119), (18, 1016), (19, 1120), (20, 1121), (21, 1122), (24, 1125), (25, 1126), (26, 1127), (30, 1130), (31, 1131), (32, 1132), (23, 1124)]
def fid : FuncId → Option Nat := fun f => fidL.lookup f
def tab : Nat → Option Entry := fun k => [(1106, Entry.fn d1106), (1022, Entry.fn d1022), (1111, Entry.fn d1111), (1112, Entry.fn d1112), (1113, Entry.fn d1113), (1114, Entry.fn d1114), (1115, Entry.fn d1115), (1116, Entry.fn d1116), (1117, Entry.fn d1117), (1118, Entry.fn d1118), (1119, Entry.fn d1119), (1016, Entry.fn d1016), (1120, Entry.fn d1120), (1121, Entry.fn d1121), (1122, Entry.fn d1122), (1125, Entry.fn d1125), (1126, Entry.fn d1126), (1127, Entry.fn d1127), (1130, Entry.fn d1130), (1131, Entry.fn d1131), (1132, Entry.fn d1132)].lookup k
theorem t1106 : tab 1106 = some (.fn d1106) := by rfl
theorem t1022 : tab 1022 = some (.fn d1022) := by rfl
theorem t1111 : tab 1111 = some (.fn d1111) := by rfl
theorem t1112 : tab 1112 = some (.fn d1112) := by rfl
theorem t1113 : tab 1113 = some (.fn d1113) := by rfl
theorem t1114 : tab 1114 = some (.fn d1114) := by rfl
theorem t1115 : tab 1115 = some (.fn d1115) := by rfl
theorem t1116 : tab 1116 = some (.fn d1116) := by rfl
theorem t1117 : tab 1117 = some (.fn d1117) := by rfl
theorem t1118 : tab 1118 = some (.fn d1118) := by rfl
theorem t1119 : tab 1119 = some (.fn d1119) := by rfl
theorem t1016 : tab 1016 = some (.fn d1016) := by rfl
theorem t1120 : tab 1120 = some (.fn d1120) := by rfl
theorem t1121 : tab 1121 = some (.fn d1121) := by rfl
theorem t1122 : tab 1122 = some (.fn d1122) := by rfl
theorem t1125 : tab 1125 = some (.fn d1125) := by rfl
theorem t1126 : tab 1126 = some (.fn d1126) := by rfl
theorem t1127 : tab 1127 = some (.fn d1127) := by rfl
theorem t1130 : tab 1130 = some (.fn d1130) := by rfl
theorem t1131 : tab 1131 = some (.fn d1131) := by rfl
theorem t1132 : tab 1132 = some (.fn d1132) := by rfl
theorem n1124 : tab 1124 = none := by rfl
end Go.Proofs.Ytimiedahbmfkhaa
