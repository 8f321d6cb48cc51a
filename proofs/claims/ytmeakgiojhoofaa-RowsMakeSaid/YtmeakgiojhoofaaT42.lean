/- The table of the functions. -/
import Derived.Test.YtmeakgiojhoofaaF42
import Derived.Test.YtmeakgiojhoofaaKcp
namespace Go.Proofs.Ytmeakgiojhoofaa
def fidL : List (Nat × Nat) := [(8, 1311), (13, 1263), (14, 1264), (17, 1267), (18, 1214), (19, 1268), (20, 1208), (21, 1269), (22, 1222), (23, 1270), (29, 1198), (30, 1326), (31, 1327), (32, 1187), (37, 1190), (41, 1016), (43, 1188), (45, 1332), (48, 1276), (50, 1218), (52, 1216), (55, 1105), (56, 1220), (57, 1221), (58, 1215), (59, 1217), (60, 1281), (61, 1209), (63, 1201), (65, 1202), (66, 1199), (67, 1200), (70, 1211), (71, 1023), (72, 1104), (74, 1224), (75, 1283), (77, 1223), (78, 1060), (79, 1061), (80, 1024), (81, 1212), (82, 1210), (83, 1026), (86, 1225), (88, 1072), (89, 1219), (100, 1226)]
def fid : FuncId → Option Nat := fun f => fidL.lookup f
def tab : Nat → Option Entry := fun k => [(1311, Entry.fn d1311), (1263, Entry.fn d1263), (1264, Entry.fn d1264), (1267, Entry.fn d1267), (1214, Entry.fn d1214), (1268, Entry.fn d1268), (1208, Entry.fn d1208), (1269, Entry.fn d1269), (1222, Entry.fn d1222), (1270, Entry.fn d1270), (1198, Entry.fn d1198), (1326, Entry.fn d1326), (1327, Entry.fn d1327), (1187, Entry.fn d1187), (1190, Entry.fn d1190), (1016, Entry.fn d1016), (1188, Entry.fn d1188), (1332, Entry.fn d1332), (1276, Entry.fn d1276), (1218, Entry.fn d1218), (1216, Entry.fn d1216), (1105, Entry.fn d1105), (1220, Entry.fn d1220), (1221, Entry.fn d1221), (1215, Entry.fn d1215), (1217, Entry.fn d1217), (1281, Entry.fn d1281), (1209, Entry.fn d1209), (1201, Entry.fn d1201), (1202, Entry.fn d1202), (1199, Entry.fn d1199), (1200, Entry.fn d1200), (1211, Entry.fn d1211), (1023, Entry.fn d1023), (1104, Entry.orc (cloneG 1 16)), (1224, Entry.fn d1224), (1283, Entry.orc (cloneG 2 16)), (1223, Entry.fn d1223), (1060, Entry.fn d1060), (1061, Entry.fn d1061), (1024, Entry.orc (cloneG 1 8)), (1212, Entry.fn d1212), (1210, Entry.fn d1210), (1026, Entry.fn d1026), (1225, Entry.orc cmpG), (1072, Entry.fn d1072), (1219, Entry.fn d1219)].lookup k
theorem t1311 : tab 1311 = some (.fn d1311) := by rfl
theorem t1263 : tab 1263 = some (.fn d1263) := by rfl
theorem t1264 : tab 1264 = some (.fn d1264) := by rfl
theorem t1267 : tab 1267 = some (.fn d1267) := by rfl
theorem t1214 : tab 1214 = some (.fn d1214) := by rfl
theorem t1268 : tab 1268 = some (.fn d1268) := by rfl
theorem t1208 : tab 1208 = some (.fn d1208) := by rfl
theorem t1269 : tab 1269 = some (.fn d1269) := by rfl
theorem t1222 : tab 1222 = some (.fn d1222) := by rfl
theorem t1270 : tab 1270 = some (.fn d1270) := by rfl
theorem t1198 : tab 1198 = some (.fn d1198) := by rfl
theorem t1326 : tab 1326 = some (.fn d1326) := by rfl
theorem t1327 : tab 1327 = some (.fn d1327) := by rfl
theorem t1187 : tab 1187 = some (.fn d1187) := by rfl
theorem t1190 : tab 1190 = some (.fn d1190) := by rfl
theorem t1016 : tab 1016 = some (.fn d1016) := by rfl
theorem t1188 : tab 1188 = some (.fn d1188) := by rfl
theorem t1332 : tab 1332 = some (.fn d1332) := by rfl
theorem t1276 : tab 1276 = some (.fn d1276) := by rfl
theorem t1218 : tab 1218 = some (.fn d1218) := by rfl
theorem t1216 : tab 1216 = some (.fn d1216) := by rfl
theorem t1105 : tab 1105 = some (.fn d1105) := by rfl
theorem t1220 : tab 1220 = some (.fn d1220) := by rfl
theorem t1221 : tab 1221 = some (.fn d1221) := by rfl
theorem t1215 : tab 1215 = some (.fn d1215) := by rfl
theorem t1217 : tab 1217 = some (.fn d1217) := by rfl
theorem t1281 : tab 1281 = some (.fn d1281) := by rfl
theorem t1209 : tab 1209 = some (.fn d1209) := by rfl
theorem t1201 : tab 1201 = some (.fn d1201) := by rfl
theorem t1202 : tab 1202 = some (.fn d1202) := by rfl
theorem t1199 : tab 1199 = some (.fn d1199) := by rfl
theorem t1200 : tab 1200 = some (.fn d1200) := by rfl
theorem t1211 : tab 1211 = some (.fn d1211) := by rfl
theorem t1023 : tab 1023 = some (.fn d1023) := by rfl
theorem t1104 : tab 1104 = some (.orc (cloneG 1 16)) := by rfl
theorem t1224 : tab 1224 = some (.fn d1224) := by rfl
theorem t1283 : tab 1283 = some (.orc (cloneG 2 16)) := by rfl
theorem t1223 : tab 1223 = some (.fn d1223) := by rfl
theorem t1060 : tab 1060 = some (.fn d1060) := by rfl
theorem t1061 : tab 1061 = some (.fn d1061) := by rfl
theorem t1024 : tab 1024 = some (.orc (cloneG 1 8)) := by rfl
theorem t1212 : tab 1212 = some (.fn d1212) := by rfl
theorem t1210 : tab 1210 = some (.fn d1210) := by rfl
theorem t1026 : tab 1026 = some (.fn d1026) := by rfl
theorem t1225 : tab 1225 = some (.orc cmpG) := by rfl
theorem t1072 : tab 1072 = some (.fn d1072) := by rfl
theorem t1219 : tab 1219 = some (.fn d1219) := by rfl
theorem n1226 : tab 1226 = none := by rfl
end Go.Proofs.Ytmeakgiojhoofaa
