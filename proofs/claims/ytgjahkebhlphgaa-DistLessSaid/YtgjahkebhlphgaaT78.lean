/- The table of the functions. -/
import Derived.Test.YtgjahkebhlphgaaF78
import Derived.Test.YtgjahkebhlphgaaKcp
namespace Go.Proofs.Ytgjahkebhlphgaa
set_option linter.unusedSimpArgs false
set_option linter.unusedVariables false
def fidL : List (Nat × Nat) := [(8, 1321), (9, 1322), (10, 1323), (11, 1324), (12, 1325), (13, 1175), (14, 1176), (15, 1335), (16, 1336), (23, 1016), (25, 1187), (27, 1188), (28, 1021), (29, 1344), (30, 1345), (31, 1346), (32, 1347), (33, 1348), (34, 1349), (35, 1350), (36, 1351), (37, 1352), (38, 1189), (39, 1022), (40, 1353), (41, 1354), (42, 1355), (43, 1356), (44, 1192), (45, 1357), (48, 1198), (49, 1202), (50, 1199), (51, 1200), (52, 1359), (53, 1360), (54, 1361), (55, 1362), (56, 1363), (57, 1364), (58, 1365), (59, 1366), (60, 1328), (61, 1332), (62, 1194), (63, 1333), (64, 1201), (65, 1367), (66, 1368), (67, 1330), (68, 1369), (69, 1370), (70, 1371), (73, 1208), (74, 1209), (75, 1212), (76, 1210), (77, 1211), (78, 1024), (79, 1373), (80, 1374), (81, 1375), (82, 1376), (83, 1206), (84, 1023), (85, 1205), (86, 1207), (87, 1377), (88, 1378), (95, 1219), (100, 1214), (101, 1215), (102, 1216), (103, 1217), (104, 1218), (105, 1026), (106, 1387), (107, 1388), (113, 1072), (114, 1220), (115, 1221), (116, 1222), (117, 1223), (118, 1060), (119, 1061), (120, 1224), (122, 1225), (123, 1226)]
def fid : FuncId → Option Nat := fun f => fidL.lookup f
def tab : Nat → Option Entry := fun k => [(1321, Entry.fn d1321), (1322, Entry.fn d1322), (1323, Entry.fn d1323), (1324, Entry.fn d1324), (1325, Entry.fn d1325), (1175, Entry.fn d1175), (1176, Entry.fn d1176), (1335, Entry.fn d1335), (1336, Entry.fn d1336), (1016, Entry.fn d1016), (1187, Entry.fn d1187), (1188, Entry.fn d1188), (1021, Entry.fn d1021), (1344, Entry.fn d1344), (1345, Entry.fn d1345), (1346, Entry.fn d1346), (1347, Entry.fn d1347), (1348, Entry.fn d1348), (1349, Entry.fn d1349), (1350, Entry.fn d1350), (1351, Entry.fn d1351), (1352, Entry.fn d1352), (1189, Entry.fn d1189), (1022, Entry.fn d1022), (1353, Entry.fn d1353), (1354, Entry.fn d1354), (1355, Entry.fn d1355), (1356, Entry.fn d1356), (1192, Entry.fn d1192), (1357, Entry.fn d1357), (1198, Entry.fn d1198), (1202, Entry.fn d1202), (1199, Entry.fn d1199), (1200, Entry.fn d1200), (1359, Entry.fn d1359), (1360, Entry.fn d1360), (1361, Entry.fn d1361), (1362, Entry.fn d1362), (1363, Entry.fn d1363), (1364, Entry.fn d1364), (1365, Entry.fn d1365), (1366, Entry.fn d1366), (1328, Entry.fn d1328), (1332, Entry.fn d1332), (1194, Entry.fn d1194), (1333, Entry.fn d1333), (1201, Entry.fn d1201), (1367, Entry.fn d1367), (1368, Entry.fn d1368), (1330, Entry.fn d1330), (1369, Entry.fn d1369), (1370, Entry.fn d1370), (1371, Entry.fn d1371), (1208, Entry.fn d1208), (1209, Entry.fn d1209), (1212, Entry.fn d1212), (1210, Entry.fn d1210), (1211, Entry.fn d1211), (1024, Entry.orc (cloneG 1 8)), (1373, Entry.fn d1373), (1374, Entry.fn d1374), (1375, Entry.fn d1375), (1376, Entry.fn d1376), (1206, Entry.fn d1206), (1023, Entry.fn d1023), (1205, Entry.fn d1205), (1207, Entry.fn d1207), (1377, Entry.fn d1377), (1378, Entry.fn d1378), (1219, Entry.fn d1219), (1214, Entry.fn d1214), (1215, Entry.fn d1215), (1216, Entry.fn d1216), (1217, Entry.fn d1217), (1218, Entry.fn d1218), (1026, Entry.fn d1026), (1387, Entry.fn d1387), (1388, Entry.fn d1388), (1072, Entry.fn d1072), (1220, Entry.fn d1220), (1221, Entry.fn d1221), (1222, Entry.fn d1222), (1223, Entry.fn d1223), (1060, Entry.fn d1060), (1061, Entry.fn d1061), (1224, Entry.fn d1224), (1225, Entry.orc cmpG)].lookup k
theorem t1321 : tab 1321 = some (.fn d1321) := by rfl
theorem t1322 : tab 1322 = some (.fn d1322) := by rfl
theorem t1323 : tab 1323 = some (.fn d1323) := by rfl
theorem t1324 : tab 1324 = some (.fn d1324) := by rfl
theorem t1325 : tab 1325 = some (.fn d1325) := by rfl
theorem t1175 : tab 1175 = some (.fn d1175) := by rfl
theorem t1176 : tab 1176 = some (.fn d1176) := by rfl
theorem t1335 : tab 1335 = some (.fn d1335) := by rfl
theorem t1336 : tab 1336 = some (.fn d1336) := by rfl
theorem t1016 : tab 1016 = some (.fn d1016) := by rfl
theorem t1187 : tab 1187 = some (.fn d1187) := by rfl
theorem t1188 : tab 1188 = some (.fn d1188) := by rfl
theorem t1021 : tab 1021 = some (.fn d1021) := by rfl
theorem t1344 : tab 1344 = some (.fn d1344) := by rfl
theorem t1345 : tab 1345 = some (.fn d1345) := by rfl
theorem t1346 : tab 1346 = some (.fn d1346) := by rfl
theorem t1347 : tab 1347 = some (.fn d1347) := by rfl
theorem t1348 : tab 1348 = some (.fn d1348) := by rfl
theorem t1349 : tab 1349 = some (.fn d1349) := by rfl
theorem t1350 : tab 1350 = some (.fn d1350) := by rfl
theorem t1351 : tab 1351 = some (.fn d1351) := by rfl
theorem t1352 : tab 1352 = some (.fn d1352) := by rfl
theorem t1189 : tab 1189 = some (.fn d1189) := by rfl
theorem t1022 : tab 1022 = some (.fn d1022) := by rfl
theorem t1353 : tab 1353 = some (.fn d1353) := by rfl
theorem t1354 : tab 1354 = some (.fn d1354) := by rfl
theorem t1355 : tab 1355 = some (.fn d1355) := by rfl
theorem t1356 : tab 1356 = some (.fn d1356) := by rfl
theorem t1192 : tab 1192 = some (.fn d1192) := by rfl
theorem t1357 : tab 1357 = some (.fn d1357) := by rfl
theorem t1198 : tab 1198 = some (.fn d1198) := by rfl
theorem t1202 : tab 1202 = some (.fn d1202) := by rfl
theorem t1199 : tab 1199 = some (.fn d1199) := by rfl
theorem t1200 : tab 1200 = some (.fn d1200) := by rfl
theorem t1359 : tab 1359 = some (.fn d1359) := by rfl
theorem t1360 : tab 1360 = some (.fn d1360) := by rfl
theorem t1361 : tab 1361 = some (.fn d1361) := by rfl
theorem t1362 : tab 1362 = some (.fn d1362) := by rfl
theorem t1363 : tab 1363 = some (.fn d1363) := by rfl
theorem t1364 : tab 1364 = some (.fn d1364) := by rfl
theorem t1365 : tab 1365 = some (.fn d1365) := by rfl
theorem t1366 : tab 1366 = some (.fn d1366) := by rfl
theorem t1328 : tab 1328 = some (.fn d1328) := by rfl
theorem t1332 : tab 1332 = some (.fn d1332) := by rfl
theorem t1194 : tab 1194 = some (.fn d1194) := by rfl
theorem t1333 : tab 1333 = some (.fn d1333) := by rfl
theorem t1201 : tab 1201 = some (.fn d1201) := by rfl
theorem t1367 : tab 1367 = some (.fn d1367) := by rfl
theorem t1368 : tab 1368 = some (.fn d1368) := by rfl
theorem t1330 : tab 1330 = some (.fn d1330) := by rfl
theorem t1369 : tab 1369 = some (.fn d1369) := by rfl
theorem t1370 : tab 1370 = some (.fn d1370) := by rfl
theorem t1371 : tab 1371 = some (.fn d1371) := by rfl
theorem t1208 : tab 1208 = some (.fn d1208) := by rfl
theorem t1209 : tab 1209 = some (.fn d1209) := by rfl
theorem t1212 : tab 1212 = some (.fn d1212) := by rfl
theorem t1210 : tab 1210 = some (.fn d1210) := by rfl
theorem t1211 : tab 1211 = some (.fn d1211) := by rfl
theorem t1024 : tab 1024 = some (.orc (cloneG 1 8)) := by rfl
theorem t1373 : tab 1373 = some (.fn d1373) := by rfl
theorem t1374 : tab 1374 = some (.fn d1374) := by rfl
theorem t1375 : tab 1375 = some (.fn d1375) := by rfl
theorem t1376 : tab 1376 = some (.fn d1376) := by rfl
theorem t1206 : tab 1206 = some (.fn d1206) := by rfl
theorem t1023 : tab 1023 = some (.fn d1023) := by rfl
theorem t1205 : tab 1205 = some (.fn d1205) := by rfl
theorem t1207 : tab 1207 = some (.fn d1207) := by rfl
theorem t1377 : tab 1377 = some (.fn d1377) := by rfl
theorem t1378 : tab 1378 = some (.fn d1378) := by rfl
theorem t1219 : tab 1219 = some (.fn d1219) := by rfl
theorem t1214 : tab 1214 = some (.fn d1214) := by rfl
theorem t1215 : tab 1215 = some (.fn d1215) := by rfl
theorem t1216 : tab 1216 = some (.fn d1216) := by rfl
theorem t1217 : tab 1217 = some (.fn d1217) := by rfl
theorem t1218 : tab 1218 = some (.fn d1218) := by rfl
theorem t1026 : tab 1026 = some (.fn d1026) := by rfl
theorem t1387 : tab 1387 = some (.fn d1387) := by rfl
theorem t1388 : tab 1388 = some (.fn d1388) := by rfl
theorem t1072 : tab 1072 = some (.fn d1072) := by rfl
theorem t1220 : tab 1220 = some (.fn d1220) := by rfl
theorem t1221 : tab 1221 = some (.fn d1221) := by rfl
theorem t1222 : tab 1222 = some (.fn d1222) := by rfl
theorem t1223 : tab 1223 = some (.fn d1223) := by rfl
theorem t1060 : tab 1060 = some (.fn d1060) := by rfl
theorem t1061 : tab 1061 = some (.fn d1061) := by rfl
theorem t1224 : tab 1224 = some (.fn d1224) := by rfl
theorem t1225 : tab 1225 = some (.orc cmpG) := by rfl
theorem n1226 : tab 1226 = none := by rfl
end Go.Proofs.Ytgjahkebhlphgaa
