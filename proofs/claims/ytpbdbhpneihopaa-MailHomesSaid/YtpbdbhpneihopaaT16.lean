/- The table of the functions. -/
import Derived.Test.YtpbdbhpneihopaaF16
import Derived.Test.YtpbdbhpneihopaaKz
namespace Go.Proofs.Ytpbdbhpneihopaa
set_option linter.unusedSimpArgs false
set_option linter.unusedVariables false
def fidL : List (Nat × Nat) := [(3, 1603), (4, 1604), (5, 1605), (6, 1606), (7, 1607), (8, 1608), (9, 1111), (10, 1124), (11, 1609), (12, 1610), (13, 1611), (14, 1612), (15, 1613), (16, 1120), (17, 1614), (18, 1615), (19, 1616), (20, 1617), (21, 1618), (22, 1619), (23, 1045), (24, 1237), (25, 1128), (26, 1053), (27, 1129), (28, 1620), (29, 1238), (30, 1421), (31, 1464), (32, 1621), (33, 1622), (35, 1624), (36, 1455), (37, 1250), (38, 1133), (39, 1059), (40, 1060), (41, 1061), (42, 1432), (43, 1046), (44, 1054), (45, 1049), (47, 1444), (48, 1445), (49, 1134), (50, 1135), (51, 1136), (52, 1137), (53, 1138), (54, 1139), (55, 1140), (56, 1141), (57, 1070), (58, 1071), (59, 1072), (60, 1441), (61, 1442), (62, 1459), (63, 1142), (64, 1074), (65, 1075), (66, 1143), (67, 1144), (68, 1458), (69, 1467), (70, 1468), (71, 1145), (72, 1466), (34, 1623), (46, 1625), (88, 1470)]
def fid : FuncId → Option Nat := fun f => fidL.lookup f
def tab : Nat → Option Entry := fun k => [(1603, Entry.fn d1603), (1604, Entry.fn d1604), (1605, Entry.fn d1605), (1606, Entry.fn d1606), (1607, Entry.fn d1607), (1608, Entry.fn d1608), (1111, Entry.fn d1111), (1609, Entry.fn d1609), (1610, Entry.fn d1610), (1611, Entry.fn d1611), (1612, Entry.fn d1612), (1613, Entry.fn d1613), (1120, Entry.fn d1120), (1614, Entry.fn d1614), (1615, Entry.fn d1615), (1616, Entry.fn d1616), (1617, Entry.fn d1617), (1618, Entry.fn d1618), (1619, Entry.fn d1619), (1045, Entry.fn d1045), (1237, Entry.fn d1237), (1128, Entry.fn d1128), (1053, Entry.fn d1053), (1129, Entry.fn d1129), (1620, Entry.fn d1620), (1238, Entry.fn d1238), (1421, Entry.fn d1421), (1464, Entry.fn d1464), (1621, Entry.fn d1621), (1622, Entry.fn d1622), (1624, Entry.fn d1624), (1455, Entry.fn d1455), (1250, Entry.fn d1250), (1133, Entry.fn d1133), (1059, Entry.fn d1059), (1060, Entry.fn d1060), (1061, Entry.fn d1061), (1432, Entry.fn d1432), (1046, Entry.fn d1046), (1054, Entry.fn d1054), (1049, Entry.fn d1049), (1444, Entry.fn d1444), (1445, Entry.fn d1445), (1134, Entry.fn d1134), (1135, Entry.fn d1135), (1136, Entry.fn d1136), (1137, Entry.fn d1137), (1138, Entry.fn d1138), (1139, Entry.fn d1139), (1140, Entry.fn d1140), (1141, Entry.fn d1141), (1070, Entry.fn d1070), (1071, Entry.fn d1071), (1072, Entry.fn d1072), (1441, Entry.fn d1441), (1442, Entry.fn d1442), (1459, Entry.fn d1459), (1142, Entry.fn d1142), (1074, Entry.fn d1074), (1075, Entry.fn d1075), (1143, Entry.fn d1143), (1144, Entry.fn d1144), (1458, Entry.fn d1458), (1467, Entry.fn d1467), (1468, Entry.fn d1468), (1145, Entry.fn d1145), (1466, Entry.fn d1466)].lookup k
theorem t1603 : tab 1603 = some (.fn d1603) := by rfl
theorem t1604 : tab 1604 = some (.fn d1604) := by rfl
theorem t1605 : tab 1605 = some (.fn d1605) := by rfl
theorem t1606 : tab 1606 = some (.fn d1606) := by rfl
theorem t1607 : tab 1607 = some (.fn d1607) := by rfl
theorem t1608 : tab 1608 = some (.fn d1608) := by rfl
theorem t1111 : tab 1111 = some (.fn d1111) := by rfl
theorem nd1124 : tab 1124 = none := by rfl
theorem t1609 : tab 1609 = some (.fn d1609) := by rfl
theorem t1610 : tab 1610 = some (.fn d1610) := by rfl
theorem t1611 : tab 1611 = some (.fn d1611) := by rfl
theorem t1612 : tab 1612 = some (.fn d1612) := by rfl
theorem t1613 : tab 1613 = some (.fn d1613) := by rfl
theorem t1120 : tab 1120 = some (.fn d1120) := by rfl
theorem t1614 : tab 1614 = some (.fn d1614) := by rfl
theorem t1615 : tab 1615 = some (.fn d1615) := by rfl
theorem t1616 : tab 1616 = some (.fn d1616) := by rfl
theorem t1617 : tab 1617 = some (.fn d1617) := by rfl
theorem t1618 : tab 1618 = some (.fn d1618) := by rfl
theorem t1619 : tab 1619 = some (.fn d1619) := by rfl
theorem t1045 : tab 1045 = some (.fn d1045) := by rfl
theorem t1237 : tab 1237 = some (.fn d1237) := by rfl
theorem t1128 : tab 1128 = some (.fn d1128) := by rfl
theorem t1053 : tab 1053 = some (.fn d1053) := by rfl
theorem t1129 : tab 1129 = some (.fn d1129) := by rfl
theorem t1620 : tab 1620 = some (.fn d1620) := by rfl
theorem t1238 : tab 1238 = some (.fn d1238) := by rfl
theorem t1421 : tab 1421 = some (.fn d1421) := by rfl
theorem t1464 : tab 1464 = some (.fn d1464) := by rfl
theorem t1621 : tab 1621 = some (.fn d1621) := by rfl
theorem t1622 : tab 1622 = some (.fn d1622) := by rfl
theorem t1624 : tab 1624 = some (.fn d1624) := by rfl
theorem t1455 : tab 1455 = some (.fn d1455) := by rfl
theorem t1250 : tab 1250 = some (.fn d1250) := by rfl
theorem t1133 : tab 1133 = some (.fn d1133) := by rfl
theorem t1059 : tab 1059 = some (.fn d1059) := by rfl
theorem t1060 : tab 1060 = some (.fn d1060) := by rfl
theorem t1061 : tab 1061 = some (.fn d1061) := by rfl
theorem t1432 : tab 1432 = some (.fn d1432) := by rfl
theorem t1046 : tab 1046 = some (.fn d1046) := by rfl
theorem t1054 : tab 1054 = some (.fn d1054) := by rfl
theorem t1049 : tab 1049 = some (.fn d1049) := by rfl
theorem t1444 : tab 1444 = some (.fn d1444) := by rfl
theorem t1445 : tab 1445 = some (.fn d1445) := by rfl
theorem t1134 : tab 1134 = some (.fn d1134) := by rfl
theorem t1135 : tab 1135 = some (.fn d1135) := by rfl
theorem t1136 : tab 1136 = some (.fn d1136) := by rfl
theorem t1137 : tab 1137 = some (.fn d1137) := by rfl
theorem t1138 : tab 1138 = some (.fn d1138) := by rfl
theorem t1139 : tab 1139 = some (.fn d1139) := by rfl
theorem t1140 : tab 1140 = some (.fn d1140) := by rfl
theorem t1141 : tab 1141 = some (.fn d1141) := by rfl
theorem t1070 : tab 1070 = some (.fn d1070) := by rfl
theorem t1071 : tab 1071 = some (.fn d1071) := by rfl
theorem t1072 : tab 1072 = some (.fn d1072) := by rfl
theorem t1441 : tab 1441 = some (.fn d1441) := by rfl
theorem t1442 : tab 1442 = some (.fn d1442) := by rfl
theorem t1459 : tab 1459 = some (.fn d1459) := by rfl
theorem t1142 : tab 1142 = some (.fn d1142) := by rfl
theorem t1074 : tab 1074 = some (.fn d1074) := by rfl
theorem t1075 : tab 1075 = some (.fn d1075) := by rfl
theorem t1143 : tab 1143 = some (.fn d1143) := by rfl
theorem t1144 : tab 1144 = some (.fn d1144) := by rfl
theorem t1458 : tab 1458 = some (.fn d1458) := by rfl
theorem t1467 : tab 1467 = some (.fn d1467) := by rfl
theorem t1468 : tab 1468 = some (.fn d1468) := by rfl
theorem t1145 : tab 1145 = some (.fn d1145) := by rfl
theorem t1466 : tab 1466 = some (.fn d1466) := by rfl
theorem n1623 : tab 1623 = none := by rfl
theorem n1625 : tab 1625 = none := by rfl
theorem n1470 : tab 1470 = none := by rfl
end Go.Proofs.Ytpbdbhpneihopaa
