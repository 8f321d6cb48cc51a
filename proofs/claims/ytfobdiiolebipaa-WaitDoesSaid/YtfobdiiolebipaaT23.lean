/-
  The table of the functions.
-/
import Derived.Test.YtfobdiiolebipaaF23
import Derived.Test.YtfobdiiolebipaaKz
namespace Go.Proofs.Ytfobdiiolebipaa

def fidL : List (Nat × Nat) := [(3, 1079), (4, 1080), (5, 1081), (6, 1082), (7, 1083), (8, 1084), (9, 1085), (10, 1086), (11, 1087), (12, 1088), (13, 1089), (14, 1090), (15, 1091), (16, 1092), (17, 1093), (18, 1094), (19, 1095), (20, 1096), (21, 1097), (22, 1098), (23, 1099), (24, 1100), (25, 1101), (26, 1102), (27, 1103), (28, 1104), (29, 1105)]
def fid : FuncId → Option Nat := fun f => fidL.lookup f
def tab : Nat → Option Entry := fun k => [(1079, Entry.fn d1079), (1080, Entry.fn d1080), (1081, Entry.fn d1081), (1082, Entry.fn d1082), (1083, Entry.fn d1083), (1084, Entry.fn d1084), (1085, Entry.fn d1085), (1086, Entry.fn d1086), (1087, Entry.fn d1087), (1088, Entry.fn d1088), (1089, Entry.fn d1089), (1090, Entry.fn d1090), (1091, Entry.fn d1091), (1092, Entry.fn d1092), (1093, Entry.fn d1093), (1094, Entry.fn d1094), (1095, Entry.fn d1095), (1096, Entry.fn d1096), (1097, Entry.fn d1097), (1098, Entry.fn d1098), (1099, Entry.fn d1099), (1100, Entry.fn d1100), (1101, Entry.fn d1101), (1102, Entry.fn d1102), (1103, Entry.orc (cloneG 8 80)), (1104, Entry.orc (cloneG 1 16)), (1105, Entry.fn d1105)].lookup k

theorem t1079 : tab 1079 = some (.fn d1079) := by rfl
theorem t1080 : tab 1080 = some (.fn d1080) := by rfl
theorem t1081 : tab 1081 = some (.fn d1081) := by rfl
theorem t1082 : tab 1082 = some (.fn d1082) := by rfl
theorem t1083 : tab 1083 = some (.fn d1083) := by rfl
theorem t1084 : tab 1084 = some (.fn d1084) := by rfl
theorem t1085 : tab 1085 = some (.fn d1085) := by rfl
theorem t1086 : tab 1086 = some (.fn d1086) := by rfl
theorem t1087 : tab 1087 = some (.fn d1087) := by rfl
theorem t1088 : tab 1088 = some (.fn d1088) := by rfl
theorem t1089 : tab 1089 = some (.fn d1089) := by rfl
theorem t1090 : tab 1090 = some (.fn d1090) := by rfl
theorem t1091 : tab 1091 = some (.fn d1091) := by rfl
theorem t1092 : tab 1092 = some (.fn d1092) := by rfl
theorem t1093 : tab 1093 = some (.fn d1093) := by rfl
theorem t1094 : tab 1094 = some (.fn d1094) := by rfl
theorem t1095 : tab 1095 = some (.fn d1095) := by rfl
theorem t1096 : tab 1096 = some (.fn d1096) := by rfl
theorem t1097 : tab 1097 = some (.fn d1097) := by rfl
theorem t1098 : tab 1098 = some (.fn d1098) := by rfl
theorem t1099 : tab 1099 = some (.fn d1099) := by rfl
theorem t1100 : tab 1100 = some (.fn d1100) := by rfl
theorem t1101 : tab 1101 = some (.fn d1101) := by rfl
theorem t1102 : tab 1102 = some (.fn d1102) := by rfl
theorem t1103 : tab 1103 = some (.orc (cloneG 8 80)) := by rfl
theorem t1104 : tab 1104 = some (.orc (cloneG 1 16)) := by rfl
theorem t1105 : tab 1105 = some (.fn d1105) := by rfl

end Go.Proofs.Ytfobdiiolebipaa
