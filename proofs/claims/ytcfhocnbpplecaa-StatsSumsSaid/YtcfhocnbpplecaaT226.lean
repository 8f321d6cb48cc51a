import Derived.Test.YtcfhocnbpplecaaF226
import Derived.Test.YtcfhocnbpplecaaKz
namespace Go.Proofs.Ytcfhocnbpplecaa
def fidL : List (Nat × Nat) := [(8, 1393), (9, 1394), (10, 1395), (11, 1396), (19, 1410), (20, 1438), (21, 1423), (22, 1427), (25, 1415), (26, 1397), (27, 1276), (28, 1398), (29, 1399), (30, 1400), (31, 1401), (32, 1402), (33, 1403), (34, 1404), (35, 1016), (36, 1405), (37, 1406), (38, 1407), (39, 1408), (40, 1105), (41, 1409), (43, 1421), (46, 1457), (50, 1437), (53, 1420), (54, 1456), (56, 1434), (57, 1459), (58, 1455), (59, 1428), (60, 1411), (61, 1416), (62, 1417), (63, 1414), (64, 1416), (65, 1417), (66, 1418), (67, 1021), (68, 1419), (69, 1431), (72, 1432), (74, 1465), (76, 1464), (78, 1444), (79, 1445), (83, 1467), (84, 1468), (85, 1439), (86, 1422), (87, 1429), (88, 1358), (89, 1430), (90, 1429), (91, 1358), (92, 1430), (95, 1441), (96, 1442), (100, 1440), (101, 1372), (102, 1059), (103, 1440), (104, 1372), (106, 1458), (109, 1379), (110, 1380), (111, 1381), (112, 1382), (113, 1383), (114, 1384), (115, 1219), (116, 1385), (117, 1386), (118, 1070), (119, 1071), (120, 1379), (121, 1380), (122, 1381), (123, 1382), (124, 1383), (125, 1384), (126, 1219), (127, 1385), (128, 1386), (129, 1466), (130, 1389), (131, 1074), (132, 1075), (133, 1390), (134, 1391), (135, 1072), (136, 1389), (137, 1390), (138, 1391), (139, 1072), (140, 1392), (141, 1392), (48, 1642), (55, 1433), (77, 1649), (82, 1443), (157, 1470)]
def fid : FuncId → Option Nat := fun f => fidL.lookup f
def tab : Nat → Option Entry := fun k => [(1393, Entry.fn d1393), (1394, Entry.fn d1394), (1395, Entry.fn d1395), (1396, Entry.fn d1396), (1410, Entry.fn d1410), (1438, Entry.fn d1438), (1423, Entry.fn d1423), (1427, Entry.fn d1427), (1415, Entry.fn d1415), (1397, Entry.fn d1397), (1276, Entry.fn d1276), (1398, Entry.fn d1398), (1399, Entry.fn d1399), (1400, Entry.fn d1400), (1401, Entry.fn d1401), (1402, Entry.fn d1402), (1403, Entry.fn d1403), (1404, Entry.fn d1404), (1016, Entry.fn d1016), (1405, Entry.fn d1405), (1406, Entry.fn d1406), (1408, Entry.fn d1408), (1105, Entry.fn d1105), (1409, Entry.fn d1409), (1421, Entry.fn d1421), (1457, Entry.fn d1457), (1437, Entry.fn d1437), (1420, Entry.fn d1420), (1456, Entry.fn d1456), (1434, Entry.fn d1434), (1459, Entry.fn d1459), (1455, Entry.fn d1455), (1428, Entry.fn d1428), (1411, Entry.fn d1411), (1414, Entry.fn d1414), (1417, Entry.fn d1417), (1418, Entry.fn d1418), (1021, Entry.fn d1021), (1419, Entry.fn d1419), (1431, Entry.fn d1431), (1432, Entry.fn d1432), (1465, Entry.fn d1465), (1464, Entry.fn d1464), (1444, Entry.fn d1444), (1445, Entry.fn d1445), (1467, Entry.fn d1467), (1468, Entry.fn d1468), (1439, Entry.fn d1439), (1422, Entry.fn d1422), (1358, Entry.fn d1358), (1441, Entry.fn d1441), (1442, Entry.fn d1442), (1059, Entry.fn d1059), (1372, Entry.fn d1372), (1458, Entry.fn d1458), (1070, Entry.fn d1070), (1071, Entry.fn d1071), (1379, Entry.fn d1379), (1380, Entry.fn d1380), (1381, Entry.fn d1381), (1382, Entry.fn d1382), (1383, Entry.fn d1383), (1384, Entry.fn d1384), (1219, Entry.fn d1219), (1385, Entry.fn d1385), (1386, Entry.fn d1386), (1466, Entry.fn d1466), (1074, Entry.fn d1074), (1075, Entry.fn d1075), (1389, Entry.fn d1389), (1390, Entry.fn d1390), (1391, Entry.fn d1391), (1072, Entry.fn d1072), (1392, Entry.fn d1392)].lookup k
theorem t1393 : tab 1393 = some (.fn d1393) := by rfl
theorem t1394 : tab 1394 = some (.fn d1394) := by rfl
theorem t1395 : tab 1395 = some (.fn d1395) := by rfl
theorem t1396 : tab 1396 = some (.fn d1396) := by rfl
theorem t1410 : tab 1410 = some (.fn d1410) := by rfl
theorem t1438 : tab 1438 = some (.fn d1438) := by rfl
theorem t1423 : tab 1423 = some (.fn d1423) := by rfl
theorem t1427 : tab 1427 = some (.fn d1427) := by rfl
theorem t1415 : tab 1415 = some (.fn d1415) := by rfl
theorem t1397 : tab 1397 = some (.fn d1397) := by rfl
theorem t1276 : tab 1276 = some (.fn d1276) := by rfl
theorem t1398 : tab 1398 = some (.fn d1398) := by rfl
theorem t1399 : tab 1399 = some (.fn d1399) := by rfl
theorem t1400 : tab 1400 = some (.fn d1400) := by rfl
theorem t1401 : tab 1401 = some (.fn d1401) := by rfl
theorem t1402 : tab 1402 = some (.fn d1402) := by rfl
theorem t1403 : tab 1403 = some (.fn d1403) := by rfl
theorem t1404 : tab 1404 = some (.fn d1404) := by rfl
theorem t1016 : tab 1016 = some (.fn d1016) := by rfl
theorem t1405 : tab 1405 = some (.fn d1405) := by rfl
theorem t1406 : tab 1406 = some (.fn d1406) := by rfl
theorem nd1407 : tab 1407 = none := by rfl
theorem t1408 : tab 1408 = some (.fn d1408) := by rfl
theorem t1105 : tab 1105 = some (.fn d1105) := by rfl
theorem t1409 : tab 1409 = some (.fn d1409) := by rfl
theorem t1421 : tab 1421 = some (.fn d1421) := by rfl
theorem t1457 : tab 1457 = some (.fn d1457) := by rfl
theorem t1437 : tab 1437 = some (.fn d1437) := by rfl
theorem t1420 : tab 1420 = some (.fn d1420) := by rfl
theorem t1456 : tab 1456 = some (.fn d1456) := by rfl
theorem t1434 : tab 1434 = some (.fn d1434) := by rfl
theorem t1459 : tab 1459 = some (.fn d1459) := by rfl
theorem t1455 : tab 1455 = some (.fn d1455) := by rfl
theorem t1428 : tab 1428 = some (.fn d1428) := by rfl
theorem t1411 : tab 1411 = some (.fn d1411) := by rfl
theorem t1414 : tab 1414 = some (.fn d1414) := by rfl
theorem nd1416 : tab 1416 = none := by rfl
theorem t1417 : tab 1417 = some (.fn d1417) := by rfl
theorem t1418 : tab 1418 = some (.fn d1418) := by rfl
theorem t1021 : tab 1021 = some (.fn d1021) := by rfl
theorem t1419 : tab 1419 = some (.fn d1419) := by rfl
theorem t1431 : tab 1431 = some (.fn d1431) := by rfl
theorem t1432 : tab 1432 = some (.fn d1432) := by rfl
theorem t1465 : tab 1465 = some (.fn d1465) := by rfl
theorem t1464 : tab 1464 = some (.fn d1464) := by rfl
theorem t1444 : tab 1444 = some (.fn d1444) := by rfl
theorem t1445 : tab 1445 = some (.fn d1445) := by rfl
theorem t1467 : tab 1467 = some (.fn d1467) := by rfl
theorem t1468 : tab 1468 = some (.fn d1468) := by rfl
theorem t1439 : tab 1439 = some (.fn d1439) := by rfl
theorem t1422 : tab 1422 = some (.fn d1422) := by rfl
theorem nd1429 : tab 1429 = none := by rfl
theorem t1358 : tab 1358 = some (.fn d1358) := by rfl
theorem nd1430 : tab 1430 = none := by rfl
theorem t1441 : tab 1441 = some (.fn d1441) := by rfl
theorem t1442 : tab 1442 = some (.fn d1442) := by rfl
theorem t1059 : tab 1059 = some (.fn d1059) := by rfl
theorem nd1440 : tab 1440 = none := by rfl
theorem t1372 : tab 1372 = some (.fn d1372) := by rfl
theorem t1458 : tab 1458 = some (.fn d1458) := by rfl
theorem t1070 : tab 1070 = some (.fn d1070) := by rfl
theorem t1071 : tab 1071 = some (.fn d1071) := by rfl
theorem t1379 : tab 1379 = some (.fn d1379) := by rfl
theorem t1380 : tab 1380 = some (.fn d1380) := by rfl
theorem t1381 : tab 1381 = some (.fn d1381) := by rfl
theorem t1382 : tab 1382 = some (.fn d1382) := by rfl
theorem t1383 : tab 1383 = some (.fn d1383) := by rfl
theorem t1384 : tab 1384 = some (.fn d1384) := by rfl
theorem t1219 : tab 1219 = some (.fn d1219) := by rfl
theorem t1385 : tab 1385 = some (.fn d1385) := by rfl
theorem t1386 : tab 1386 = some (.fn d1386) := by rfl
theorem t1466 : tab 1466 = some (.fn d1466) := by rfl
theorem t1074 : tab 1074 = some (.fn d1074) := by rfl
theorem t1075 : tab 1075 = some (.fn d1075) := by rfl
theorem t1389 : tab 1389 = some (.fn d1389) := by rfl
theorem t1390 : tab 1390 = some (.fn d1390) := by rfl
theorem t1391 : tab 1391 = some (.fn d1391) := by rfl
theorem t1072 : tab 1072 = some (.fn d1072) := by rfl
theorem t1392 : tab 1392 = some (.fn d1392) := by rfl
theorem n1642 : tab 1642 = none := by rfl
theorem n1433 : tab 1433 = none := by rfl
theorem n1649 : tab 1649 = none := by rfl
theorem n1443 : tab 1443 = none := by rfl
theorem n1470 : tab 1470 = none := by rfl
end Go.Proofs.Ytcfhocnbpplecaa
