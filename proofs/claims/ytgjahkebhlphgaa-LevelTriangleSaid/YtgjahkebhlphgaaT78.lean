/- The table of the functions. -/
import Derived.Test.YtgjahkebhlphgaaF78
import Derived.Test.YtgjahkebhlphgaaKcp
namespace Go.Proofs.Ytgjahkebhlphgaa
set_option linter.unusedSimpArgs false
set_option linter.unusedVariables false
def fidL : List (Nat × Nat) := [(3, 1316), (4, 1317), (5, 1318), (6, 1319), (7, 1320), (13, 1175), (14, 1176), (15, 1335), (16, 1336), (17, 1337), (18, 1338), (19, 1339), (20, 1340), (21, 1341), (22, 1342), (23, 1016), (24, 1343), (25, 1187), (26, 1191), (27, 1188), (28, 1021), (39, 1022), (40, 1353), (41, 1354), (42, 1355), (43, 1356), (44, 1192), (45, 1357), (46, 1358), (47, 1020), (48, 1198), (49, 1202), (50, 1199), (51, 1200), (62, 1194), (65, 1367), (66, 1368), (67, 1330), (68, 1369), (69, 1370), (70, 1371), (71, 1372), (72, 1059), (73, 1208), (74, 1209), (75, 1212), (76, 1210), (77, 1211), (78, 1024), (83, 1206), (85, 1205), (86, 1207), (87, 1377), (88, 1378), (89, 1379), (90, 1380), (91, 1381), (92, 1382), (93, 1383), (94, 1384), (95, 1219), (96, 1385), (97, 1386), (98, 1070), (99, 1071), (100, 1214), (101, 1215), (102, 1216), (103, 1217), (104, 1218), (106, 1387), (107, 1388), (108, 1389), (109, 1074), (110, 1075), (111, 1390), (112, 1391), (113, 1072), (114, 1220), (115, 1221), (116, 1222), (117, 1223), (118, 1060), (119, 1061), (120, 1224), (121, 1392), (122, 1225), (123, 1226)]
def fid : FuncId → Option Nat := fun f => fidL.lookup f
def tab : Nat → Option Entry := fun k => [(1316, Entry.fn d1316), (1317, Entry.fn d1317), (1318, Entry.fn d1318), (1319, Entry.fn d1319), (1320, Entry.fn d1320), (1175, Entry.fn d1175), (1176, Entry.fn d1176), (1335, Entry.fn d1335), (1336, Entry.fn d1336), (1337, Entry.fn d1337), (1338, Entry.fn d1338), (1339, Entry.fn d1339), (1340, Entry.fn d1340), (1341, Entry.fn d1341), (1342, Entry.fn d1342), (1016, Entry.fn d1016), (1343, Entry.fn d1343), (1187, Entry.fn d1187), (1191, Entry.fn d1191), (1188, Entry.fn d1188), (1021, Entry.fn d1021), (1022, Entry.fn d1022), (1353, Entry.fn d1353), (1354, Entry.fn d1354), (1355, Entry.fn d1355), (1356, Entry.fn d1356), (1192, Entry.fn d1192), (1357, Entry.fn d1357), (1358, Entry.fn d1358), (1020, Entry.fn d1020), (1198, Entry.fn d1198), (1202, Entry.fn d1202), (1199, Entry.fn d1199), (1200, Entry.fn d1200), (1194, Entry.fn d1194), (1367, Entry.fn d1367), (1368, Entry.fn d1368), (1330, Entry.fn d1330), (1369, Entry.fn d1369), (1370, Entry.fn d1370), (1371, Entry.fn d1371), (1372, Entry.fn d1372), (1059, Entry.fn d1059), (1208, Entry.fn d1208), (1209, Entry.fn d1209), (1212, Entry.fn d1212), (1210, Entry.fn d1210), (1211, Entry.fn d1211), (1024, Entry.orc (cloneG 1 8)), (1206, Entry.fn d1206), (1205, Entry.fn d1205), (1207, Entry.fn d1207), (1377, Entry.fn d1377), (1378, Entry.fn d1378), (1379, Entry.fn d1379), (1380, Entry.fn d1380), (1381, Entry.fn d1381), (1382, Entry.fn d1382), (1383, Entry.fn d1383), (1384, Entry.fn d1384), (1219, Entry.fn d1219), (1385, Entry.fn d1385), (1386, Entry.fn d1386), (1070, Entry.fn d1070), (1071, Entry.fn d1071), (1214, Entry.fn d1214), (1215, Entry.fn d1215), (1216, Entry.fn d1216), (1217, Entry.fn d1217), (1218, Entry.fn d1218), (1387, Entry.fn d1387), (1388, Entry.fn d1388), (1389, Entry.fn d1389), (1074, Entry.fn d1074), (1075, Entry.fn d1075), (1390, Entry.fn d1390), (1391, Entry.fn d1391), (1072, Entry.fn d1072), (1220, Entry.fn d1220), (1221, Entry.fn d1221), (1222, Entry.fn d1222), (1223, Entry.fn d1223), (1060, Entry.fn d1060), (1061, Entry.fn d1061), (1224, Entry.fn d1224), (1392, Entry.fn d1392), (1225, Entry.orc cmpG)].lookup k
theorem t1316 : tab 1316 = some (.fn d1316) := by rfl
theorem t1317 : tab 1317 = some (.fn d1317) := by rfl
theorem t1318 : tab 1318 = some (.fn d1318) := by rfl
theorem t1319 : tab 1319 = some (.fn d1319) := by rfl
theorem t1320 : tab 1320 = some (.fn d1320) := by rfl
theorem t1175 : tab 1175 = some (.fn d1175) := by rfl
theorem t1176 : tab 1176 = some (.fn d1176) := by rfl
theorem t1335 : tab 1335 = some (.fn d1335) := by rfl
theorem t1336 : tab 1336 = some (.fn d1336) := by rfl
theorem t1337 : tab 1337 = some (.fn d1337) := by rfl
theorem t1338 : tab 1338 = some (.fn d1338) := by rfl
theorem t1339 : tab 1339 = some (.fn d1339) := by rfl
theorem t1340 : tab 1340 = some (.fn d1340) := by rfl
theorem t1341 : tab 1341 = some (.fn d1341) := by rfl
theorem t1342 : tab 1342 = some (.fn d1342) := by rfl
theorem t1016 : tab 1016 = some (.fn d1016) := by rfl
theorem t1343 : tab 1343 = some (.fn d1343) := by rfl
theorem t1187 : tab 1187 = some (.fn d1187) := by rfl
theorem t1191 : tab 1191 = some (.fn d1191) := by rfl
theorem t1188 : tab 1188 = some (.fn d1188) := by rfl
theorem t1021 : tab 1021 = some (.fn d1021) := by rfl
theorem t1022 : tab 1022 = some (.fn d1022) := by rfl
theorem t1353 : tab 1353 = some (.fn d1353) := by rfl
theorem t1354 : tab 1354 = some (.fn d1354) := by rfl
theorem t1355 : tab 1355 = some (.fn d1355) := by rfl
theorem t1356 : tab 1356 = some (.fn d1356) := by rfl
theorem t1192 : tab 1192 = some (.fn d1192) := by rfl
theorem t1357 : tab 1357 = some (.fn d1357) := by rfl
theorem t1358 : tab 1358 = some (.fn d1358) := by rfl
theorem t1020 : tab 1020 = some (.fn d1020) := by rfl
theorem t1198 : tab 1198 = some (.fn d1198) := by rfl
theorem t1202 : tab 1202 = some (.fn d1202) := by rfl
theorem t1199 : tab 1199 = some (.fn d1199) := by rfl
theorem t1200 : tab 1200 = some (.fn d1200) := by rfl
theorem t1194 : tab 1194 = some (.fn d1194) := by rfl
theorem t1367 : tab 1367 = some (.fn d1367) := by rfl
theorem t1368 : tab 1368 = some (.fn d1368) := by rfl
theorem t1330 : tab 1330 = some (.fn d1330) := by rfl
theorem t1369 : tab 1369 = some (.fn d1369) := by rfl
theorem t1370 : tab 1370 = some (.fn d1370) := by rfl
theorem t1371 : tab 1371 = some (.fn d1371) := by rfl
theorem t1372 : tab 1372 = some (.fn d1372) := by rfl
theorem t1059 : tab 1059 = some (.fn d1059) := by rfl
theorem t1208 : tab 1208 = some (.fn d1208) := by rfl
theorem t1209 : tab 1209 = some (.fn d1209) := by rfl
theorem t1212 : tab 1212 = some (.fn d1212) := by rfl
theorem t1210 : tab 1210 = some (.fn d1210) := by rfl
theorem t1211 : tab 1211 = some (.fn d1211) := by rfl
theorem t1024 : tab 1024 = some (.orc (cloneG 1 8)) := by rfl
theorem t1206 : tab 1206 = some (.fn d1206) := by rfl
theorem t1205 : tab 1205 = some (.fn d1205) := by rfl
theorem t1207 : tab 1207 = some (.fn d1207) := by rfl
theorem t1377 : tab 1377 = some (.fn d1377) := by rfl
theorem t1378 : tab 1378 = some (.fn d1378) := by rfl
theorem t1379 : tab 1379 = some (.fn d1379) := by rfl
theorem t1380 : tab 1380 = some (.fn d1380) := by rfl
theorem t1381 : tab 1381 = some (.fn d1381) := by rfl
theorem t1382 : tab 1382 = some (.fn d1382) := by rfl
theorem t1383 : tab 1383 = some (.fn d1383) := by rfl
theorem t1384 : tab 1384 = some (.fn d1384) := by rfl
theorem t1219 : tab 1219 = some (.fn d1219) := by rfl
theorem t1385 : tab 1385 = some (.fn d1385) := by rfl
theorem t1386 : tab 1386 = some (.fn d1386) := by rfl
theorem t1070 : tab 1070 = some (.fn d1070) := by rfl
theorem t1071 : tab 1071 = some (.fn d1071) := by rfl
theorem t1214 : tab 1214 = some (.fn d1214) := by rfl
theorem t1215 : tab 1215 = some (.fn d1215) := by rfl
theorem t1216 : tab 1216 = some (.fn d1216) := by rfl
theorem t1217 : tab 1217 = some (.fn d1217) := by rfl
theorem t1218 : tab 1218 = some (.fn d1218) := by rfl
theorem t1387 : tab 1387 = some (.fn d1387) := by rfl
theorem t1388 : tab 1388 = some (.fn d1388) := by rfl
theorem t1389 : tab 1389 = some (.fn d1389) := by rfl
theorem t1074 : tab 1074 = some (.fn d1074) := by rfl
theorem t1075 : tab 1075 = some (.fn d1075) := by rfl
theorem t1390 : tab 1390 = some (.fn d1390) := by rfl
theorem t1391 : tab 1391 = some (.fn d1391) := by rfl
theorem t1072 : tab 1072 = some (.fn d1072) := by rfl
theorem t1220 : tab 1220 = some (.fn d1220) := by rfl
theorem t1221 : tab 1221 = some (.fn d1221) := by rfl
theorem t1222 : tab 1222 = some (.fn d1222) := by rfl
theorem t1223 : tab 1223 = some (.fn d1223) := by rfl
theorem t1060 : tab 1060 = some (.fn d1060) := by rfl
theorem t1061 : tab 1061 = some (.fn d1061) := by rfl
theorem t1224 : tab 1224 = some (.fn d1224) := by rfl
theorem t1392 : tab 1392 = some (.fn d1392) := by rfl
theorem t1225 : tab 1225 = some (.orc cmpG) := by rfl
theorem n1226 : tab 1226 = none := by rfl
end Go.Proofs.Ytgjahkebhlphgaa
