/- The table of the functions. -/
import Derived.Test.YtmckpijdjoifoaaF05
import Derived.Test.YtmckpijdjoifoaaKcp
set_option linter.unusedSimpArgs false
set_option linter.unusedVariables false
namespace Go.Proofs.Ytmckpijdjoifoaa
def fidL : List (Nat × Nat) := [(3, 1589), (8, 1263), (9, 1264), (10, 1552), (11, 1594), (12, 1553), (13, 1560), (14, 1267), (18, 1558), (20, 1559), (22, 1554), (23, 1016), (25, 1555), (27, 1572), (29, 1276), (31, 1208), (32, 1556), (33, 1557), (34, 1269), (35, 1280), (36, 1105), (38, 1565), (39, 1566), (40, 1567), (42, 1568), (43, 1024), (44, 1222), (45, 1561), (46, 1270), (47, 1214), (48, 1215), (49, 1216), (50, 1217), (51, 1218), (52, 1562), (53, 1563), (54, 1564), (55, 1268), (56, 1281), (57, 1358), (58, 1571), (59, 1573), (60, 1220), (61, 1221), (62, 1223), (63, 1060), (64, 1061), (65, 1224), (66, 1569), (67, 1570), (68, 1059), (69, 1372), (70, 1583), (71, 1072), (72, 1225), (73, 1574), (74, 1575), (75, 1576), (76, 1577), (77, 1578), (78, 1579), (79, 1580), (80, 1581), (81, 1582), (82, 1070), (83, 1071), (84, 1379), (85, 1380), (86, 1381), (87, 1382), (88, 1383), (89, 1384), (90, 1219), (91, 1385), (92, 1386), (94, 1584), (95, 1074), (96, 1075), (97, 1585), (98, 1586), (99, 1587), (100, 1389), (101, 1390), (102, 1391), (103, 1588), (104, 1392), (93, 1226)]
def fid : FuncId → Option Nat := fun f => fidL.lookup f
def tab : Nat → Option Entry := fun k => [(1589, Entry.fn d1589), (1263, Entry.fn d1263), (1264, Entry.fn d1264), (1552, Entry.fn d1552), (1594, Entry.fn d1594), (1553, Entry.fn d1553), (1560, Entry.fn d1560), (1267, Entry.fn d1267), (1558, Entry.fn d1558), (1559, Entry.fn d1559), (1554, Entry.fn d1554), (1016, Entry.fn d1016), (1555, Entry.fn d1555), (1572, Entry.fn d1572), (1276, Entry.fn d1276), (1208, Entry.fn d1208), (1557, Entry.fn d1557), (1269, Entry.fn d1269), (1280, Entry.fn d1280), (1105, Entry.fn d1105), (1565, Entry.fn d1565), (1566, Entry.fn d1566), (1567, Entry.fn d1567), (1568, Entry.fn d1568), (1024, Entry.orc (cloneG 1 8)), (1222, Entry.fn d1222), (1561, Entry.fn d1561), (1270, Entry.fn d1270), (1214, Entry.fn d1214), (1215, Entry.fn d1215), (1216, Entry.fn d1216), (1217, Entry.fn d1217), (1218, Entry.fn d1218), (1563, Entry.fn d1563), (1268, Entry.fn d1268), (1281, Entry.fn d1281), (1358, Entry.fn d1358), (1571, Entry.fn d1571), (1573, Entry.fn d1573), (1220, Entry.fn d1220), (1221, Entry.fn d1221), (1223, Entry.fn d1223), (1060, Entry.fn d1060), (1061, Entry.fn d1061), (1224, Entry.fn d1224), (1570, Entry.fn d1570), (1059, Entry.fn d1059), (1372, Entry.fn d1372), (1583, Entry.fn d1583), (1072, Entry.fn d1072), (1225, Entry.orc cmpG), (1574, Entry.fn d1574), (1575, Entry.fn d1575), (1576, Entry.fn d1576), (1577, Entry.fn d1577), (1578, Entry.fn d1578), (1579, Entry.fn d1579), (1580, Entry.fn d1580), (1581, Entry.fn d1581), (1582, Entry.fn d1582), (1070, Entry.fn d1070), (1071, Entry.fn d1071), (1379, Entry.fn d1379), (1380, Entry.fn d1380), (1381, Entry.fn d1381), (1382, Entry.fn d1382), (1383, Entry.fn d1383), (1384, Entry.fn d1384), (1219, Entry.fn d1219), (1385, Entry.fn d1385), (1386, Entry.fn d1386), (1584, Entry.fn d1584), (1074, Entry.fn d1074), (1075, Entry.fn d1075), (1585, Entry.fn d1585), (1586, Entry.fn d1586), (1587, Entry.fn d1587), (1389, Entry.fn d1389), (1390, Entry.fn d1390), (1391, Entry.fn d1391), (1588, Entry.fn d1588), (1392, Entry.fn d1392)].lookup k
theorem t1589 : tab 1589 = some (.fn d1589) := by rfl
theorem t1263 : tab 1263 = some (.fn d1263) := by rfl
theorem t1264 : tab 1264 = some (.fn d1264) := by rfl
theorem t1552 : tab 1552 = some (.fn d1552) := by rfl
theorem t1594 : tab 1594 = some (.fn d1594) := by rfl
theorem t1553 : tab 1553 = some (.fn d1553) := by rfl
theorem t1560 : tab 1560 = some (.fn d1560) := by rfl
theorem t1267 : tab 1267 = some (.fn d1267) := by rfl
theorem t1558 : tab 1558 = some (.fn d1558) := by rfl
theorem t1559 : tab 1559 = some (.fn d1559) := by rfl
theorem t1554 : tab 1554 = some (.fn d1554) := by rfl
theorem t1016 : tab 1016 = some (.fn d1016) := by rfl
theorem t1555 : tab 1555 = some (.fn d1555) := by rfl
theorem t1572 : tab 1572 = some (.fn d1572) := by rfl
theorem t1276 : tab 1276 = some (.fn d1276) := by rfl
theorem t1208 : tab 1208 = some (.fn d1208) := by rfl
theorem nd1556 : tab 1556 = none := by rfl
theorem t1557 : tab 1557 = some (.fn d1557) := by rfl
theorem t1269 : tab 1269 = some (.fn d1269) := by rfl
theorem t1280 : tab 1280 = some (.fn d1280) := by rfl
theorem t1105 : tab 1105 = some (.fn d1105) := by rfl
theorem t1565 : tab 1565 = some (.fn d1565) := by rfl
theorem t1566 : tab 1566 = some (.fn d1566) := by rfl
theorem t1567 : tab 1567 = some (.fn d1567) := by rfl
theorem t1568 : tab 1568 = some (.fn d1568) := by rfl
theorem t1024 : tab 1024 = some (.orc (cloneG 1 8)) := by rfl
theorem t1222 : tab 1222 = some (.fn d1222) := by rfl
theorem t1561 : tab 1561 = some (.fn d1561) := by rfl
theorem t1270 : tab 1270 = some (.fn d1270) := by rfl
theorem t1214 : tab 1214 = some (.fn d1214) := by rfl
theorem t1215 : tab 1215 = some (.fn d1215) := by rfl
theorem t1216 : tab 1216 = some (.fn d1216) := by rfl
theorem t1217 : tab 1217 = some (.fn d1217) := by rfl
theorem t1218 : tab 1218 = some (.fn d1218) := by rfl
theorem nd1562 : tab 1562 = none := by rfl
theorem t1563 : tab 1563 = some (.fn d1563) := by rfl
theorem nd1564 : tab 1564 = none := by rfl
theorem t1268 : tab 1268 = some (.fn d1268) := by rfl
theorem t1281 : tab 1281 = some (.fn d1281) := by rfl
theorem t1358 : tab 1358 = some (.fn d1358) := by rfl
theorem t1571 : tab 1571 = some (.fn d1571) := by rfl
theorem t1573 : tab 1573 = some (.fn d1573) := by rfl
theorem t1220 : tab 1220 = some (.fn d1220) := by rfl
theorem t1221 : tab 1221 = some (.fn d1221) := by rfl
theorem t1223 : tab 1223 = some (.fn d1223) := by rfl
theorem t1060 : tab 1060 = some (.fn d1060) := by rfl
theorem t1061 : tab 1061 = some (.fn d1061) := by rfl
theorem t1224 : tab 1224 = some (.fn d1224) := by rfl
theorem nd1569 : tab 1569 = none := by rfl
theorem t1570 : tab 1570 = some (.fn d1570) := by rfl
theorem t1059 : tab 1059 = some (.fn d1059) := by rfl
theorem t1372 : tab 1372 = some (.fn d1372) := by rfl
theorem t1583 : tab 1583 = some (.fn d1583) := by rfl
theorem t1072 : tab 1072 = some (.fn d1072) := by rfl
theorem t1225 : tab 1225 = some (.orc cmpG) := by rfl
theorem t1574 : tab 1574 = some (.fn d1574) := by rfl
theorem t1575 : tab 1575 = some (.fn d1575) := by rfl
theorem t1576 : tab 1576 = some (.fn d1576) := by rfl
theorem t1577 : tab 1577 = some (.fn d1577) := by rfl
theorem t1578 : tab 1578 = some (.fn d1578) := by rfl
theorem t1579 : tab 1579 = some (.fn d1579) := by rfl
theorem t1580 : tab 1580 = some (.fn d1580) := by rfl
theorem t1581 : tab 1581 = some (.fn d1581) := by rfl
theorem t1582 : tab 1582 = some (.fn d1582) := by rfl
theorem t1070 : tab 1070 = some (.fn d1070) := by rfl
theorem t1071 : tab 1071 = some (.fn d1071) := by rfl
theorem t1379 : tab 1379 = some (.fn d1379) := by rfl
theorem t1380 : tab 1380 = some (.fn d1380) := by rfl
theorem t1381 : tab 1381 = some (.fn d1381) := by rfl
theorem t1382 : tab 1382 = some (.fn d1382) := by rfl
theorem t1383 : tab 1383 = some (.fn d1383) := by rfl
theorem t1384 : tab 1384 = some (.fn d1384) := by rfl
theorem t1219 : tab 1219 = some (.fn d1219) := by rfl
theorem t1385 : tab 1385 = some (.fn d1385) := by rfl
theorem t1386 : tab 1386 = some (.fn d1386) := by rfl
theorem t1584 : tab 1584 = some (.fn d1584) := by rfl
theorem t1074 : tab 1074 = some (.fn d1074) := by rfl
theorem t1075 : tab 1075 = some (.fn d1075) := by rfl
theorem t1585 : tab 1585 = some (.fn d1585) := by rfl
theorem t1586 : tab 1586 = some (.fn d1586) := by rfl
theorem t1587 : tab 1587 = some (.fn d1587) := by rfl
theorem t1389 : tab 1389 = some (.fn d1389) := by rfl
theorem t1390 : tab 1390 = some (.fn d1390) := by rfl
theorem t1391 : tab 1391 = some (.fn d1391) := by rfl
theorem t1588 : tab 1588 = some (.fn d1588) := by rfl
theorem t1392 : tab 1392 = some (.fn d1392) := by rfl
theorem n1226 : tab 1226 = none := by rfl
end Go.Proofs.Ytmckpijdjoifoaa
