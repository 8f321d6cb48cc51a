/- The table of the functions. -/
import Derived.Test.YtmeakgiojhoofaaF42
import Derived.Test.YtmeakgiojhoofaaKcp
namespace Go.Proofs.Ytmeakgiojhoofaa
def fidL : List (Nat × Nat) := [(3, 1258), (4, 1259), (13, 1263), (14, 1264), (15, 1265), (16, 1266), (17, 1267), (18, 1214), (19, 1268), (20, 1208), (21, 1269), (22, 1222), (23, 1270), (24, 1271), (25, 1272), (26, 1273), (27, 1274), (28, 1275), (48, 1276), (49, 1277), (50, 1218), (51, 1278), (52, 1216), (53, 1279), (54, 1280), (55, 1105), (56, 1220), (57, 1221), (58, 1215), (59, 1217), (60, 1281), (72, 1104), (73, 1282), (74, 1224), (75, 1283), (76, 1284), (77, 1223), (78, 1060), (79, 1061), (80, 1024), (84, 1285), (85, 1059), (86, 1225), (87, 1286), (88, 1072), (90, 1287), (91, 1288), (92, 1289), (93, 1290), (94, 1291), (95, 1292), (96, 1293), (97, 1294), (98, 1070), (99, 1071), (100, 1226), (101, 1295), (102, 1296), (103, 1297), (104, 1298), (105, 1299), (106, 1300), (107, 1301), (108, 1302), (109, 1303), (110, 1074), (111, 1075), (112, 1304), (113, 1305), (114, 1306), (115, 1307), (116, 1308), (117, 1309), (118, 1310)]
def fid : FuncId → Option Nat := fun f => fidL.lookup f
def tab : Nat → Option Entry := fun k => [(1258, Entry.fn d1258), (1259, Entry.fn d1259), (1263, Entry.fn d1263), (1264, Entry.fn d1264), (1265, Entry.fn d1265), (1266, Entry.fn d1266), (1267, Entry.fn d1267), (1214, Entry.fn d1214), (1268, Entry.fn d1268), (1208, Entry.fn d1208), (1269, Entry.fn d1269), (1222, Entry.fn d1222), (1270, Entry.fn d1270), (1271, Entry.fn d1271), (1272, Entry.fn d1272), (1273, Entry.fn d1273), (1274, Entry.fn d1274), (1275, Entry.fn d1275), (1276, Entry.fn d1276), (1277, Entry.fn d1277), (1218, Entry.fn d1218), (1278, Entry.fn d1278), (1216, Entry.fn d1216), (1279, Entry.fn d1279), (1280, Entry.fn d1280), (1105, Entry.fn d1105), (1220, Entry.fn d1220), (1221, Entry.fn d1221), (1215, Entry.fn d1215), (1217, Entry.fn d1217), (1281, Entry.fn d1281), (1104, Entry.orc (cloneG 1 16)), (1282, Entry.fn d1282), (1224, Entry.fn d1224), (1283, Entry.orc (cloneG 2 16)), (1284, Entry.fn d1284), (1223, Entry.fn d1223), (1060, Entry.fn d1060), (1061, Entry.fn d1061), (1024, Entry.orc (cloneG 1 8)), (1285, Entry.fn d1285), (1059, Entry.fn d1059), (1225, Entry.orc cmpG), (1286, Entry.fn d1286), (1072, Entry.fn d1072), (1287, Entry.fn d1287), (1288, Entry.fn d1288), (1289, Entry.fn d1289), (1290, Entry.fn d1290), (1291, Entry.fn d1291), (1292, Entry.fn d1292), (1293, Entry.fn d1293), (1294, Entry.fn d1294), (1070, Entry.fn d1070), (1071, Entry.fn d1071), (1295, Entry.fn d1295), (1296, Entry.fn d1296), (1297, Entry.fn d1297), (1298, Entry.fn d1298), (1299, Entry.fn d1299), (1300, Entry.fn d1300), (1301, Entry.fn d1301), (1302, Entry.fn d1302), (1303, Entry.fn d1303), (1074, Entry.fn d1074), (1075, Entry.fn d1075), (1304, Entry.fn d1304), (1305, Entry.fn d1305), (1306, Entry.fn d1306), (1307, Entry.fn d1307), (1308, Entry.fn d1308), (1309, Entry.fn d1309), (1310, Entry.fn d1310)].lookup k
theorem t1258 : tab 1258 = some (.fn d1258) := by rfl
theorem t1259 : tab 1259 = some (.fn d1259) := by rfl
theorem t1263 : tab 1263 = some (.fn d1263) := by rfl
theorem t1264 : tab 1264 = some (.fn d1264) := by rfl
theorem t1265 : tab 1265 = some (.fn d1265) := by rfl
theorem t1266 : tab 1266 = some (.fn d1266) := by rfl
theorem t1267 : tab 1267 = some (.fn d1267) := by rfl
theorem t1214 : tab 1214 = some (.fn d1214) := by rfl
theorem t1268 : tab 1268 = some (.fn d1268) := by rfl
theorem t1208 : tab 1208 = some (.fn d1208) := by rfl
theorem t1269 : tab 1269 = some (.fn d1269) := by rfl
theorem t1222 : tab 1222 = some (.fn d1222) := by rfl
theorem t1270 : tab 1270 = some (.fn d1270) := by rfl
theorem t1271 : tab 1271 = some (.fn d1271) := by rfl
theorem t1272 : tab 1272 = some (.fn d1272) := by rfl
theorem t1273 : tab 1273 = some (.fn d1273) := by rfl
theorem t1274 : tab 1274 = some (.fn d1274) := by rfl
theorem t1275 : tab 1275 = some (.fn d1275) := by rfl
theorem t1276 : tab 1276 = some (.fn d1276) := by rfl
theorem t1277 : tab 1277 = some (.fn d1277) := by rfl
theorem t1218 : tab 1218 = some (.fn d1218) := by rfl
theorem t1278 : tab 1278 = some (.fn d1278) := by rfl
theorem t1216 : tab 1216 = some (.fn d1216) := by rfl
theorem t1279 : tab 1279 = some (.fn d1279) := by rfl
theorem t1280 : tab 1280 = some (.fn d1280) := by rfl
theorem t1105 : tab 1105 = some (.fn d1105) := by rfl
theorem t1220 : tab 1220 = some (.fn d1220) := by rfl
theorem t1221 : tab 1221 = some (.fn d1221) := by rfl
theorem t1215 : tab 1215 = some (.fn d1215) := by rfl
theorem t1217 : tab 1217 = some (.fn d1217) := by rfl
theorem t1281 : tab 1281 = some (.fn d1281) := by rfl
theorem t1104 : tab 1104 = some (.orc (cloneG 1 16)) := by rfl
theorem t1282 : tab 1282 = some (.fn d1282) := by rfl
theorem t1224 : tab 1224 = some (.fn d1224) := by rfl
theorem t1283 : tab 1283 = some (.orc (cloneG 2 16)) := by rfl
theorem t1284 : tab 1284 = some (.fn d1284) := by rfl
theorem t1223 : tab 1223 = some (.fn d1223) := by rfl
theorem t1060 : tab 1060 = some (.fn d1060) := by rfl
theorem t1061 : tab 1061 = some (.fn d1061) := by rfl
theorem t1024 : tab 1024 = some (.orc (cloneG 1 8)) := by rfl
theorem t1285 : tab 1285 = some (.fn d1285) := by rfl
theorem t1059 : tab 1059 = some (.fn d1059) := by rfl
theorem t1225 : tab 1225 = some (.orc cmpG) := by rfl
theorem t1286 : tab 1286 = some (.fn d1286) := by rfl
theorem t1072 : tab 1072 = some (.fn d1072) := by rfl
theorem t1287 : tab 1287 = some (.fn d1287) := by rfl
theorem t1288 : tab 1288 = some (.fn d1288) := by rfl
theorem t1289 : tab 1289 = some (.fn d1289) := by rfl
theorem t1290 : tab 1290 = some (.fn d1290) := by rfl
theorem t1291 : tab 1291 = some (.fn d1291) := by rfl
theorem t1292 : tab 1292 = some (.fn d1292) := by rfl
theorem t1293 : tab 1293 = some (.fn d1293) := by rfl
theorem t1294 : tab 1294 = some (.fn d1294) := by rfl
theorem t1070 : tab 1070 = some (.fn d1070) := by rfl
theorem t1071 : tab 1071 = some (.fn d1071) := by rfl
theorem n1226 : tab 1226 = none := by rfl
theorem t1295 : tab 1295 = some (.fn d1295) := by rfl
theorem t1296 : tab 1296 = some (.fn d1296) := by rfl
theorem t1297 : tab 1297 = some (.fn d1297) := by rfl
theorem t1298 : tab 1298 = some (.fn d1298) := by rfl
theorem t1299 : tab 1299 = some (.fn d1299) := by rfl
theorem t1300 : tab 1300 = some (.fn d1300) := by rfl
theorem t1301 : tab 1301 = some (.fn d1301) := by rfl
theorem t1302 : tab 1302 = some (.fn d1302) := by rfl
theorem t1303 : tab 1303 = some (.fn d1303) := by rfl
theorem t1074 : tab 1074 = some (.fn d1074) := by rfl
theorem t1075 : tab 1075 = some (.fn d1075) := by rfl
theorem t1304 : tab 1304 = some (.fn d1304) := by rfl
theorem t1305 : tab 1305 = some (.fn d1305) := by rfl
theorem t1306 : tab 1306 = some (.fn d1306) := by rfl
theorem t1307 : tab 1307 = some (.fn d1307) := by rfl
theorem t1308 : tab 1308 = some (.fn d1308) := by rfl
theorem t1309 : tab 1309 = some (.fn d1309) := by rfl
theorem t1310 : tab 1310 = some (.fn d1310) := by rfl
end Go.Proofs.Ytmeakgiojhoofaa
