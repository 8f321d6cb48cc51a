/- The table of the functions. -/
import Derived.Test.YtcfhocnbpplecaaF226
import Derived.Test.YtcfhocnbpplecaaKz
namespace Go.Proofs.Ytcfhocnbpplecaa
set_option linter.unusedSimpArgs false
set_option linter.unusedVariables false
def fidL : List (Nat × Nat) := [(3, 1626), (4, 1627), (5, 1628), (6, 1629), (7, 1630), (12, 1084), (13, 1631), (14, 1632), (15, 1633), (16, 1634), (17, 1635), (18, 1095), (19, 1410), (20, 1438), (21, 1423), (22, 1427), (23, 1636), (24, 1637), (25, 1415), (38, 1407), (40, 1105), (42, 1638), (43, 1421), (44, 1639), (45, 1640), (46, 1457), (47, 1641), (49, 1643), (50, 1437), (51, 1644), (52, 1102), (53, 1420), (54, 1456), (56, 1434), (57, 1459), (58, 1455), (59, 1428), (61, 1416), (64, 1416), (69, 1431), (70, 1645), (71, 1646), (72, 1432), (73, 1647), (74, 1465), (75, 1648), (76, 1464), (78, 1444), (79, 1445), (80, 1650), (81, 1651), (83, 1467), (84, 1468), (85, 1439), (87, 1429), (89, 1430), (90, 1429), (92, 1430), (93, 1652), (94, 1653), (95, 1441), (96, 1442), (97, 1654), (98, 1270), (99, 1655), (100, 1440), (103, 1440), (105, 1222), (106, 1458), (107, 1656), (108, 1657), (129, 1466), (48, 1642), (55, 1433), (77, 1649), (82, 1443), (157, 1470)]
def fid : FuncId → Option Nat := fun f => fidL.lookup f
def tab : Nat → Option Entry := fun k => [(1626, Entry.fn d1626), (1627, Entry.fn d1627), (1628, Entry.fn d1628), (1629, Entry.fn d1629), (1630, Entry.fn d1630), (1084, Entry.fn d1084), (1631, Entry.fn d1631), (1632, Entry.fn d1632), (1633, Entry.fn d1633), (1634, Entry.fn d1634), (1635, Entry.fn d1635), (1095, Entry.fn d1095), (1410, Entry.fn d1410), (1438, Entry.fn d1438), (1423, Entry.fn d1423), (1427, Entry.fn d1427), (1636, Entry.fn d1636), (1637, Entry.fn d1637), (1415, Entry.fn d1415), (1105, Entry.fn d1105), (1638, Entry.fn d1638), (1421, Entry.fn d1421), (1639, Entry.fn d1639), (1640, Entry.fn d1640), (1457, Entry.fn d1457), (1641, Entry.fn d1641), (1643, Entry.fn d1643), (1437, Entry.fn d1437), (1644, Entry.fn d1644), (1102, Entry.fn d1102), (1420, Entry.fn d1420), (1456, Entry.fn d1456), (1434, Entry.fn d1434), (1459, Entry.fn d1459), (1455, Entry.fn d1455), (1428, Entry.fn d1428), (1431, Entry.fn d1431), (1645, Entry.fn d1645), (1646, Entry.fn d1646), (1432, Entry.fn d1432), (1647, Entry.fn d1647), (1465, Entry.fn d1465), (1648, Entry.fn d1648), (1464, Entry.fn d1464), (1444, Entry.fn d1444), (1445, Entry.fn d1445), (1650, Entry.fn d1650), (1651, Entry.fn d1651), (1467, Entry.fn d1467), (1468, Entry.fn d1468), (1439, Entry.fn d1439), (1652, Entry.fn d1652), (1653, Entry.fn d1653), (1441, Entry.fn d1441), (1442, Entry.fn d1442), (1654, Entry.fn d1654), (1270, Entry.fn d1270), (1655, Entry.fn d1655), (1222, Entry.fn d1222), (1458, Entry.fn d1458), (1656, Entry.fn d1656), (1657, Entry.fn d1657), (1466, Entry.fn d1466)].lookup k
theorem t1626 : tab 1626 = some (.fn d1626) := by rfl
theorem t1627 : tab 1627 = some (.fn d1627) := by rfl
theorem t1628 : tab 1628 = some (.fn d1628) := by rfl
theorem t1629 : tab 1629 = some (.fn d1629) := by rfl
theorem t1630 : tab 1630 = some (.fn d1630) := by rfl
theorem t1084 : tab 1084 = some (.fn d1084) := by rfl
theorem t1631 : tab 1631 = some (.fn d1631) := by rfl
theorem t1632 : tab 1632 = some (.fn d1632) := by rfl
theorem t1633 : tab 1633 = some (.fn d1633) := by rfl
theorem t1634 : tab 1634 = some (.fn d1634) := by rfl
theorem t1635 : tab 1635 = some (.fn d1635) := by rfl
theorem t1095 : tab 1095 = some (.fn d1095) := by rfl
theorem t1410 : tab 1410 = some (.fn d1410) := by rfl
theorem t1438 : tab 1438 = some (.fn d1438) := by rfl
theorem t1423 : tab 1423 = some (.fn d1423) := by rfl
theorem t1427 : tab 1427 = some (.fn d1427) := by rfl
theorem t1636 : tab 1636 = some (.fn d1636) := by rfl
theorem t1637 : tab 1637 = some (.fn d1637) := by rfl
theorem t1415 : tab 1415 = some (.fn d1415) := by rfl
theorem nd1407 : tab 1407 = none := by rfl
theorem t1105 : tab 1105 = some (.fn d1105) := by rfl
theorem t1638 : tab 1638 = some (.fn d1638) := by rfl
theorem t1421 : tab 1421 = some (.fn d1421) := by rfl
theorem t1639 : tab 1639 = some (.fn d1639) := by rfl
theorem t1640 : tab 1640 = some (.fn d1640) := by rfl
theorem t1457 : tab 1457 = some (.fn d1457) := by rfl
theorem t1641 : tab 1641 = some (.fn d1641) := by rfl
theorem t1643 : tab 1643 = some (.fn d1643) := by rfl
theorem t1437 : tab 1437 = some (.fn d1437) := by rfl
theorem t1644 : tab 1644 = some (.fn d1644) := by rfl
theorem t1102 : tab 1102 = some (.fn d1102) := by rfl
theorem t1420 : tab 1420 = some (.fn d1420) := by rfl
theorem t1456 : tab 1456 = some (.fn d1456) := by rfl
theorem t1434 : tab 1434 = some (.fn d1434) := by rfl
theorem t1459 : tab 1459 = some (.fn d1459) := by rfl
theorem t1455 : tab 1455 = some (.fn d1455) := by rfl
theorem t1428 : tab 1428 = some (.fn d1428) := by rfl
theorem nd1416 : tab 1416 = none := by rfl
theorem t1431 : tab 1431 = some (.fn d1431) := by rfl
theorem t1645 : tab 1645 = some (.fn d1645) := by rfl
theorem t1646 : tab 1646 = some (.fn d1646) := by rfl
theorem t1432 : tab 1432 = some (.fn d1432) := by rfl
theorem t1647 : tab 1647 = some (.fn d1647) := by rfl
theorem t1465 : tab 1465 = some (.fn d1465) := by rfl
theorem t1648 : tab 1648 = some (.fn d1648) := by rfl
theorem t1464 : tab 1464 = some (.fn d1464) := by rfl
theorem t1444 : tab 1444 = some (.fn d1444) := by rfl
theorem t1445 : tab 1445 = some (.fn d1445) := by rfl
theorem t1650 : tab 1650 = some (.fn d1650) := by rfl
theorem t1651 : tab 1651 = some (.fn d1651) := by rfl
theorem t1467 : tab 1467 = some (.fn d1467) := by rfl
theorem t1468 : tab 1468 = some (.fn d1468) := by rfl
theorem t1439 : tab 1439 = some (.fn d1439) := by rfl
theorem nd1429 : tab 1429 = none := by rfl
theorem nd1430 : tab 1430 = none := by rfl
theorem t1652 : tab 1652 = some (.fn d1652) := by rfl
theorem t1653 : tab 1653 = some (.fn d1653) := by rfl
theorem t1441 : tab 1441 = some (.fn d1441) := by rfl
theorem t1442 : tab 1442 = some (.fn d1442) := by rfl
theorem t1654 : tab 1654 = some (.fn d1654) := by rfl
theorem t1270 : tab 1270 = some (.fn d1270) := by rfl
theorem t1655 : tab 1655 = some (.fn d1655) := by rfl
theorem nd1440 : tab 1440 = none := by rfl
theorem t1222 : tab 1222 = some (.fn d1222) := by rfl
theorem t1458 : tab 1458 = some (.fn d1458) := by rfl
theorem t1656 : tab 1656 = some (.fn d1656) := by rfl
theorem t1657 : tab 1657 = some (.fn d1657) := by rfl
theorem t1466 : tab 1466 = some (.fn d1466) := by rfl
theorem n1642 : tab 1642 = none := by rfl
theorem n1433 : tab 1433 = none := by rfl
theorem n1649 : tab 1649 = none := by rfl
theorem n1443 : tab 1443 = none := by rfl
theorem n1470 : tab 1470 = none := by rfl
end Go.Proofs.Ytcfhocnbpplecaa
