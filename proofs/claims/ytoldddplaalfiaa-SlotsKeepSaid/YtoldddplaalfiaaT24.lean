/-
  The table of the functions.
-/
import Derived.Test.YtoldddplaalfiaaF24
import Derived.Test.YtoldddplaalfiaaKz
namespace Go.Proofs.Ytoldddplaalfiaa

def fidL : List (Nat × Nat) := [(3, 1146), (4, 1147), (5, 1148), (6, 1149), (7, 1150), (8, 1084), (9, 1151), (10, 1152), (11, 1153), (12, 1154), (13, 1155), (14, 1156), (15, 1157), (16, 1158), (17, 1159), (18, 1160), (19, 1016), (20, 1161), (21, 1162), (22, 1163), (23, 1164), (24, 1165), (25, 1166), (26, 1098), (27, 1167), (28, 1095), (29, 1168), (30, 1169), (31, 1104), (32, 1102), (33, 1105)]
def fid : FuncId → Option Nat := fun f => fidL.lookup f
def tab : Nat → Option Entry := fun k => [(1146, Entry.fn d1146), (1147, Entry.fn d1147), (1148, Entry.fn d1148), (1149, Entry.fn d1149), (1150, Entry.fn d1150), (1084, Entry.fn d1084), (1151, Entry.fn d1151), (1152, Entry.fn d1152), (1153, Entry.fn d1153), (1154, Entry.fn d1154), (1155, Entry.fn d1155), (1156, Entry.fn d1156), (1157, Entry.fn d1157), (1158, Entry.fn d1158), (1159, Entry.fn d1159), (1160, Entry.fn d1160), (1016, Entry.fn d1016), (1161, Entry.fn d1161), (1162, Entry.fn d1162), (1163, Entry.fn d1163), (1164, Entry.fn d1164), (1165, Entry.fn d1165), (1166, Entry.fn d1166), (1098, Entry.fn d1098), (1167, Entry.fn d1167), (1095, Entry.fn d1095), (1168, Entry.fn d1168), (1169, Entry.orc (cloneG 9 88)), (1104, Entry.orc (cloneG 1 16)), (1102, Entry.fn d1102), (1105, Entry.fn d1105)].lookup k

theorem t1146 : tab 1146 = some (.fn d1146) := by rfl
theorem t1147 : tab 1147 = some (.fn d1147) := by rfl
theorem t1148 : tab 1148 = some (.fn d1148) := by rfl
theorem t1149 : tab 1149 = some (.fn d1149) := by rfl
theorem t1150 : tab 1150 = some (.fn d1150) := by rfl
theorem t1084 : tab 1084 = some (.fn d1084) := by rfl
theorem t1151 : tab 1151 = some (.fn d1151) := by rfl
theorem t1152 : tab 1152 = some (.fn d1152) := by rfl
theorem t1153 : tab 1153 = some (.fn d1153) := by rfl
theorem t1154 : tab 1154 = some (.fn d1154) := by rfl
theorem t1155 : tab 1155 = some (.fn d1155) := by rfl
theorem t1156 : tab 1156 = some (.fn d1156) := by rfl
theorem t1157 : tab 1157 = some (.fn d1157) := by rfl
theorem t1158 : tab 1158 = some (.fn d1158) := by rfl
theorem t1159 : tab 1159 = some (.fn d1159) := by rfl
theorem t1160 : tab 1160 = some (.fn d1160) := by rfl
theorem t1016 : tab 1016 = some (.fn d1016) := by rfl
theorem t1161 : tab 1161 = some (.fn d1161) := by rfl
theorem t1162 : tab 1162 = some (.fn d1162) := by rfl
theorem t1163 : tab 1163 = some (.fn d1163) := by rfl
theorem t1164 : tab 1164 = some (.fn d1164) := by rfl
theorem t1165 : tab 1165 = some (.fn d1165) := by rfl
theorem t1166 : tab 1166 = some (.fn d1166) := by rfl
theorem t1098 : tab 1098 = some (.fn d1098) := by rfl
theorem t1167 : tab 1167 = some (.fn d1167) := by rfl
theorem t1095 : tab 1095 = some (.fn d1095) := by rfl
theorem t1168 : tab 1168 = some (.fn d1168) := by rfl
theorem t1169 : tab 1169 = some (.orc (cloneG 9 88)) := by rfl
theorem t1104 : tab 1104 = some (.orc (cloneG 1 16)) := by rfl
theorem t1102 : tab 1102 = some (.fn d1102) := by rfl
theorem t1105 : tab 1105 = some (.fn d1105) := by rfl

end Go.Proofs.Ytoldddplaalfiaa
