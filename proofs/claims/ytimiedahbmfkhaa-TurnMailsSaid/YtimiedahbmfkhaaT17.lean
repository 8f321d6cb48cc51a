/- The table of the functions. -/
import Derived.Test.YtimiedahbmfkhaaF17
import Derived.Test.YtimiedahbmfkhaaKz
namespace Go.Proofs.Ytimiedahbmfkhaa
set_option linter.unusedSimpArgs false
set_option linter.unusedVariables false
def fidL : List (Nat × Nat) := [(5, 1108), (10, 1112), (12, 1114), (14, 1116), (18, 1016), (19, 1120), (21, 1122), (23, 1124), (24, 1125), (25, 1126), (26, 1127), (27, 1128), (28, 1053), (29, 1129), (30, 1130), (31, 1131), (32, 1132), (33, 1133), (34, 1059), (35, 1060), (36, 1061), (37, 1134), (38, 1135), (39, 1136), (40, 1137), (41, 1138), (42, 1139), (43, 1140), (44, 1141), (45, 1070), (46, 1071), (47, 1072), (48, 1142), (49, 1074), (50, 1075), (51, 1143), (52, 1144), (53, 1145)]
def fid : FuncId → Option Nat := fun f => fidL.lookup f
def tab : Nat → Option Entry := fun k => [(1108, Entry.fn d1108), (1112, Entry.fn d1112), (1114, Entry.fn d1114), (1116, Entry.fn d1116), (1016, Entry.fn d1016), (1120, Entry.fn d1120), (1122, Entry.fn d1122), (1125, Entry.fn d1125), (1126, Entry.fn d1126), (1127, Entry.fn d1127), (1128, Entry.fn d1128), (1053, Entry.fn d1053), (1129, Entry.fn d1129), (1130, Entry.fn d1130), (1131, Entry.fn d1131), (1132, Entry.fn d1132), (1133, Entry.fn d1133), (1059, Entry.fn d1059), (1060, Entry.fn d1060), (1061, Entry.fn d1061), (1134, Entry.fn d1134), (1135, Entry.fn d1135), (1136, Entry.fn d1136), (1137, Entry.fn d1137), (1138, Entry.fn d1138), (1139, Entry.fn d1139), (1140, Entry.fn d1140), (1141, Entry.fn d1141), (1070, Entry.fn d1070), (1071, Entry.fn d1071), (1072, Entry.fn d1072), (1142, Entry.fn d1142), (1074, Entry.fn d1074), (1075, Entry.fn d1075), (1143, Entry.fn d1143), (1144, Entry.fn d1144), (1145, Entry.fn d1145)].lookup k
theorem t1108 : tab 1108 = some (.fn d1108) := by rfl
theorem t1112 : tab 1112 = some (.fn d1112) := by rfl
theorem t1114 : tab 1114 = some (.fn d1114) := by rfl
theorem t1116 : tab 1116 = some (.fn d1116) := by rfl
theorem t1016 : tab 1016 = some (.fn d1016) := by rfl
theorem t1120 : tab 1120 = some (.fn d1120) := by rfl
theorem t1122 : tab 1122 = some (.fn d1122) := by rfl
theorem nd1124 : tab 1124 = none := by rfl
theorem t1125 : tab 1125 = some (.fn d1125) := by rfl
theorem t1126 : tab 1126 = some (.fn d1126) := by rfl
theorem t1127 : tab 1127 = some (.fn d1127) := by rfl
theorem t1128 : tab 1128 = some (.fn d1128) := by rfl
theorem t1053 : tab 1053 = some (.fn d1053) := by rfl
theorem t1129 : tab 1129 = some (.fn d1129) := by rfl
theorem t1130 : tab 1130 = some (.fn d1130) := by rfl
theorem t1131 : tab 1131 = some (.fn d1131) := by rfl
theorem t1132 : tab 1132 = some (.fn d1132) := by rfl
theorem t1133 : tab 1133 = some (.fn d1133) := by rfl
theorem t1059 : tab 1059 = some (.fn d1059) := by rfl
theorem t1060 : tab 1060 = some (.fn d1060) := by rfl
theorem t1061 : tab 1061 = some (.fn d1061) := by rfl
theorem t1134 : tab 1134 = some (.fn d1134) := by rfl
theorem t1135 : tab 1135 = some (.fn d1135) := by rfl
theorem t1136 : tab 1136 = some (.fn d1136) := by rfl
theorem t1137 : tab 1137 = some (.fn d1137) := by rfl
theorem t1138 : tab 1138 = some (.fn d1138) := by rfl
theorem t1139 : tab 1139 = some (.fn d1139) := by rfl
theorem t1140 : tab 1140 = some (.fn d1140) := by rfl
theorem t1141 : tab 1141 = some (.fn d1141) := by rfl
theorem t1070 : tab 1070 = some (.fn d1070) := by rfl
theorem t1071 : tab 1071 = some (.fn d1071) := by rfl
theorem t1072 : tab 1072 = some (.fn d1072) := by rfl
theorem t1142 : tab 1142 = some (.fn d1142) := by rfl
theorem t1074 : tab 1074 = some (.fn d1074) := by rfl
theorem t1075 : tab 1075 = some (.fn d1075) := by rfl
theorem t1143 : tab 1143 = some (.fn d1143) := by rfl
theorem t1144 : tab 1144 = some (.fn d1144) := by rfl
theorem t1145 : tab 1145 = some (.fn d1145) := by rfl
end Go.Proofs.Ytimiedahbmfkhaa
