/- The table of the functions. -/
import Derived.Test.YtpanhbaiimnlhaaF10
import Derived.Test.YtpanhbaiimnlhaaKz
namespace Go.Proofs.Ytpanhbaiimnlhaa
set_option linter.unusedSimpArgs false
set_option linter.unusedVariables false
def fidL : List (Nat × Nat) := [(3, 1471), (4, 1472), (5, 1473), (6, 1474), (7, 1475), (8, 1476), (9, 1477), (10, 1478), (11, 1479), (12, 1480), (13, 1481), (14, 1482), (15, 1439), (16, 1483), (17, 1484), (18, 1485), (19, 1486), (20, 1487), (21, 1488), (22, 1489), (23, 1490), (24, 1491), (25, 1204), (26, 1492), (27, 1493), (28, 1494), (29, 1213), (30, 1495), (31, 1496), (32, 1497), (33, 1498), (34, 1499), (35, 1059), (36, 1060), (37, 1061), (38, 1500), (39, 1501), (40, 1502), (41, 1503), (42, 1504), (43, 1505), (44, 1506), (45, 1507), (46, 1070), (47, 1071), (48, 1072), (49, 1508), (50, 1074), (51, 1075), (52, 1509), (53, 1510), (54, 1511), (71, 1512), (72, 1513), (73, 1514), (74, 1515)]
def fid : FuncId → Option Nat := fun f => fidL.lookup f
def tab : Nat → Option Entry := fun k => [(1471, Entry.fn d1471), (1472, Entry.fn d1472), (1473, Entry.fn d1473), (1474, Entry.fn d1474), (1475, Entry.fn d1475), (1476, Entry.fn d1476), (1477, Entry.fn d1477), (1478, Entry.fn d1478), (1479, Entry.fn d1479), (1480, Entry.fn d1480), (1481, Entry.fn d1481), (1482, Entry.fn d1482), (1439, Entry.fn d1439), (1483, Entry.fn d1483), (1484, Entry.fn d1484), (1485, Entry.fn d1485), (1486, Entry.fn d1486), (1487, Entry.fn d1487), (1488, Entry.fn d1488), (1489, Entry.fn d1489), (1490, Entry.fn d1490), (1491, Entry.fn d1491), (1204, Entry.fn d1204), (1492, Entry.fn d1492), (1493, Entry.fn d1493), (1494, Entry.fn d1494), (1213, Entry.fn d1213), (1495, Entry.fn d1495), (1496, Entry.orc (cloneG 2 16)), (1497, Entry.fn d1497), (1498, Entry.fn d1498), (1499, Entry.fn d1499), (1059, Entry.fn d1059), (1060, Entry.fn d1060), (1061, Entry.fn d1061), (1500, Entry.fn d1500), (1501, Entry.fn d1501), (1502, Entry.fn d1502), (1503, Entry.fn d1503), (1504, Entry.fn d1504), (1505, Entry.fn d1505), (1506, Entry.fn d1506), (1507, Entry.fn d1507), (1070, Entry.fn d1070), (1071, Entry.fn d1071), (1072, Entry.fn d1072), (1508, Entry.fn d1508), (1074, Entry.fn d1074), (1075, Entry.fn d1075), (1509, Entry.fn d1509), (1510, Entry.fn d1510), (1511, Entry.fn d1511), (1512, Entry.fn d1512), (1513, Entry.fn d1513), (1514, Entry.fn d1514), (1515, Entry.fn d1515)].lookup k
theorem t1471 : tab 1471 = some (.fn d1471) := by rfl
theorem t1472 : tab 1472 = some (.fn d1472) := by rfl
theorem t1473 : tab 1473 = some (.fn d1473) := by rfl
theorem t1474 : tab 1474 = some (.fn d1474) := by rfl
theorem t1475 : tab 1475 = some (.fn d1475) := by rfl
theorem t1476 : tab 1476 = some (.fn d1476) := by rfl
theorem t1477 : tab 1477 = some (.fn d1477) := by rfl
theorem t1478 : tab 1478 = some (.fn d1478) := by rfl
theorem t1479 : tab 1479 = some (.fn d1479) := by rfl
theorem t1480 : tab 1480 = some (.fn d1480) := by rfl
theorem t1481 : tab 1481 = some (.fn d1481) := by rfl
theorem t1482 : tab 1482 = some (.fn d1482) := by rfl
theorem t1439 : tab 1439 = some (.fn d1439) := by rfl
theorem t1483 : tab 1483 = some (.fn d1483) := by rfl
theorem t1484 : tab 1484 = some (.fn d1484) := by rfl
theorem t1485 : tab 1485 = some (.fn d1485) := by rfl
theorem t1486 : tab 1486 = some (.fn d1486) := by rfl
theorem t1487 : tab 1487 = some (.fn d1487) := by rfl
theorem t1488 : tab 1488 = some (.fn d1488) := by rfl
theorem t1489 : tab 1489 = some (.fn d1489) := by rfl
theorem t1490 : tab 1490 = some (.fn d1490) := by rfl
theorem t1491 : tab 1491 = some (.fn d1491) := by rfl
theorem t1204 : tab 1204 = some (.fn d1204) := by rfl
theorem t1492 : tab 1492 = some (.fn d1492) := by rfl
theorem t1493 : tab 1493 = some (.fn d1493) := by rfl
theorem t1494 : tab 1494 = some (.fn d1494) := by rfl
theorem t1213 : tab 1213 = some (.fn d1213) := by rfl
theorem t1495 : tab 1495 = some (.fn d1495) := by rfl
theorem t1496 : tab 1496 = some (.orc (cloneG 2 16)) := by rfl
theorem t1497 : tab 1497 = some (.fn d1497) := by rfl
theorem t1498 : tab 1498 = some (.fn d1498) := by rfl
theorem t1499 : tab 1499 = some (.fn d1499) := by rfl
theorem t1059 : tab 1059 = some (.fn d1059) := by rfl
theorem t1060 : tab 1060 = some (.fn d1060) := by rfl
theorem t1061 : tab 1061 = some (.fn d1061) := by rfl
theorem t1500 : tab 1500 = some (.fn d1500) := by rfl
theorem t1501 : tab 1501 = some (.fn d1501) := by rfl
theorem t1502 : tab 1502 = some (.fn d1502) := by rfl
theorem t1503 : tab 1503 = some (.fn d1503) := by rfl
theorem t1504 : tab 1504 = some (.fn d1504) := by rfl
theorem t1505 : tab 1505 = some (.fn d1505) := by rfl
theorem t1506 : tab 1506 = some (.fn d1506) := by rfl
theorem t1507 : tab 1507 = some (.fn d1507) := by rfl
theorem t1070 : tab 1070 = some (.fn d1070) := by rfl
theorem t1071 : tab 1071 = some (.fn d1071) := by rfl
theorem t1072 : tab 1072 = some (.fn d1072) := by rfl
theorem t1508 : tab 1508 = some (.fn d1508) := by rfl
theorem t1074 : tab 1074 = some (.fn d1074) := by rfl
theorem t1075 : tab 1075 = some (.fn d1075) := by rfl
theorem t1509 : tab 1509 = some (.fn d1509) := by rfl
theorem t1510 : tab 1510 = some (.fn d1510) := by rfl
theorem t1511 : tab 1511 = some (.fn d1511) := by rfl
theorem t1512 : tab 1512 = some (.fn d1512) := by rfl
theorem t1513 : tab 1513 = some (.fn d1513) := by rfl
theorem t1514 : tab 1514 = some (.fn d1514) := by rfl
theorem t1515 : tab 1515 = some (.fn d1515) := by rfl
end Go.Proofs.Ytpanhbaiimnlhaa
