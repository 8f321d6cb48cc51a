import Derived.Test.YtfbfbennheeglaaF18
import Derived.Test.YtfbfbennheeglaaKz
namespace Go.Proofs.Ytfbfbennheeglaa
set_option linter.unusedSimpArgs false
set_option linter.unusedVariables false
def fidL:List (Nat × Nat):=[(3,1705),(4,1706),(5,1707),(9,1084),(10,1175),(11,1176),(12,1711),(13,1712),(14,1713),(15,1646),(16,1648),(17,1120),(18,1714),(19,1715),(20,1187),(21,1716),(22,1717),(23,1718),(24,1719),(25,1428),(26,1616),(28,1487),(29,1022),(30,1189),(31,1190),(32,1188),(33,1194),(34,1328),(35,1329),(36,1652),(37,1653),(38,1654),(39,1270),(40,1016),(41,1595),(42,1720),(43,1721),(44,1722),(45,1723),(46,1724),(47,1439),(48,1622),(49,1211),(51,1201),(52,1199),(53,1200),(54,1205),(55,1206),(56,1207),(57,1222),(58,1725),(59,1726),(60,1558),(61,1485),(62,1727),(63,1598),(64,1020),(65,1486),(66,1049),(68,1024),(69,1210),(70,1202),(71,1728),(72,1729),(73,1565),(74,1566),(75,1554),(76,1567),(77,1493),(78,1021),(79,1600),(80,1602),(81,1491),(82,1219),(83,1212),(84,1358),(85,1571),(86,1572),(87,1496),(88,1497),(89,1495),(90,1072),(91,1372),(92,1059),(93,1499),(94,1498),(95,1379),(96,1380),(97,1381),(98,1382),(99,1383),(100,1384),(101,1385),(102,1386),(103,1070),(104,1071),(105,1500),(106,1501),(107,1502),(108,1503),(109,1504),(110,1505),(111,1506),(112,1507),(113,1060),(114,1061),(115,1389),(116,1074),(117,1075),(118,1390),(119,1391),(120,1508),(121,1509),(122,1510),(123,1392),(124,1511),(140,1492)]
def fid:FuncId→Option Nat:=fun f=>fidL.lookup f
def tab:Nat→Option Entry:=fun k=>[(1705,Entry.fn d1705),(1706,Entry.fn d1706),(1707,Entry.fn d1707),(1084,Entry.fn d1084),(1175,Entry.fn d1175),(1176,Entry.fn d1176),(1711,Entry.fn d1711),(1712,Entry.fn d1712),(1713,Entry.fn d1713),(1646,Entry.fn d1646),(1648,Entry.fn d1648),(1120,Entry.fn d1120),(1714,Entry.fn d1714),(1715,Entry.fn d1715),(1187,Entry.fn d1187),(1716,Entry.fn d1716),(1717,Entry.fn d1717),(1718,Entry.fn d1718),(1719,Entry.fn d1719),(1428,Entry.fn d1428),(1616,Entry.fn d1616),(1487,Entry.fn d1487),(1022,Entry.fn d1022),(1189,Entry.fn d1189),(1190,Entry.fn d1190),(1188,Entry.fn d1188),(1194,Entry.fn d1194),(1328,Entry.fn d1328),(1329,Entry.fn d1329),(1652,Entry.fn d1652),(1653,Entry.fn d1653),(1654,Entry.fn d1654),(1270,Entry.fn d1270),(1016,Entry.fn d1016),(1595,Entry.fn d1595),(1721,Entry.fn d1721),(1722,Entry.fn d1722),(1723,Entry.fn d1723),(1724,Entry.fn d1724),(1439,Entry.fn d1439),(1622,Entry.fn d1622),(1211,Entry.fn d1211),(1201,Entry.fn d1201),(1199,Entry.fn d1199),(1200,Entry.fn d1200),(1205,Entry.fn d1205),(1206,Entry.fn d1206),(1207,Entry.fn d1207),(1222,Entry.fn d1222),(1726,Entry.fn d1726),(1558,Entry.fn d1558),(1485,Entry.fn d1485),(1727,Entry.fn d1727),(1598,Entry.fn d1598),(1020,Entry.fn d1020),(1486,Entry.fn d1486),(1049,Entry.fn d1049),(1024,Entry.orc (cloneG 1 8)),(1210,Entry.fn d1210),(1202,Entry.fn d1202),(1728,Entry.fn d1728),(1729,Entry.fn d1729),(1565,Entry.fn d1565),(1566,Entry.fn d1566),(1554,Entry.fn d1554),(1567,Entry.fn d1567),(1493,Entry.fn d1493),(1021,Entry.fn d1021),(1600,Entry.fn d1600),(1602,Entry.fn d1602),(1491,Entry.fn d1491),(1219,Entry.fn d1219),(1212,Entry.fn d1212),(1358,Entry.fn d1358),(1571,Entry.fn d1571),(1572,Entry.fn d1572),(1496,Entry.orc (cloneG 2 16)),(1497,Entry.fn d1497),(1495,Entry.fn d1495),(1072,Entry.fn d1072),(1372,Entry.fn d1372),(1059,Entry.fn d1059),(1499,Entry.fn d1499),(1498,Entry.fn d1498),(1379,Entry.fn d1379),(1380,Entry.fn d1380),(1381,Entry.fn d1381),(1382,Entry.fn d1382),(1383,Entry.fn d1383),(1384,Entry.fn d1384),(1385,Entry.fn d1385),(1386,Entry.fn d1386),(1070,Entry.fn d1070),(1071,Entry.fn d1071),(1500,Entry.fn d1500),(1501,Entry.fn d1501),(1502,Entry.fn d1502),(1503,Entry.fn d1503),(1504,Entry.fn d1504),(1505,Entry.fn d1505),(1506,Entry.fn d1506),(1507,Entry.fn d1507),(1060,Entry.fn d1060),(1061,Entry.fn d1061),(1389,Entry.fn d1389),(1074,Entry.fn d1074),(1075,Entry.fn d1075),(1390,Entry.fn d1390),(1391,Entry.fn d1391),(1508,Entry.fn d1508),(1509,Entry.fn d1509),(1510,Entry.fn d1510),(1392,Entry.fn d1392),(1511,Entry.fn d1511)].lookup k
theorem t1705:tab 1705=some (.fn d1705):=by rfl
theorem t1706:tab 1706=some (.fn d1706):=by rfl
theorem t1707:tab 1707=some (.fn d1707):=by rfl
theorem t1084:tab 1084=some (.fn d1084):=by rfl
theorem t1175:tab 1175=some (.fn d1175):=by rfl
theorem t1176:tab 1176=some (.fn d1176):=by rfl
theorem t1711:tab 1711=some (.fn d1711):=by rfl
theorem t1712:tab 1712=some (.fn d1712):=by rfl
theorem t1713:tab 1713=some (.fn d1713):=by rfl
theorem t1646:tab 1646=some (.fn d1646):=by rfl
theorem t1648:tab 1648=some (.fn d1648):=by rfl
theorem t1120:tab 1120=some (.fn d1120):=by rfl
theorem t1714:tab 1714=some (.fn d1714):=by rfl
theorem t1715:tab 1715=some (.fn d1715):=by rfl
theorem t1187:tab 1187=some (.fn d1187):=by rfl
theorem t1716:tab 1716=some (.fn d1716):=by rfl
theorem t1717:tab 1717=some (.fn d1717):=by rfl
theorem t1718:tab 1718=some (.fn d1718):=by rfl
theorem t1719:tab 1719=some (.fn d1719):=by rfl
theorem t1428:tab 1428=some (.fn d1428):=by rfl
theorem t1616:tab 1616=some (.fn d1616):=by rfl
theorem t1487:tab 1487=some (.fn d1487):=by rfl
theorem t1022:tab 1022=some (.fn d1022):=by rfl
theorem t1189:tab 1189=some (.fn d1189):=by rfl
theorem t1190:tab 1190=some (.fn d1190):=by rfl
theorem t1188:tab 1188=some (.fn d1188):=by rfl
theorem t1194:tab 1194=some (.fn d1194):=by rfl
theorem t1328:tab 1328=some (.fn d1328):=by rfl
theorem t1329:tab 1329=some (.fn d1329):=by rfl
theorem t1652:tab 1652=some (.fn d1652):=by rfl
theorem t1653:tab 1653=some (.fn d1653):=by rfl
theorem t1654:tab 1654=some (.fn d1654):=by rfl
theorem t1270:tab 1270=some (.fn d1270):=by rfl
theorem t1016:tab 1016=some (.fn d1016):=by rfl
theorem t1595:tab 1595=some (.fn d1595):=by rfl
theorem nd1720:tab 1720=none:=by rfl
theorem t1721:tab 1721=some (.fn d1721):=by rfl
theorem t1722:tab 1722=some (.fn d1722):=by rfl
theorem t1723:tab 1723=some (.fn d1723):=by rfl
theorem t1724:tab 1724=some (.fn d1724):=by rfl
theorem t1439:tab 1439=some (.fn d1439):=by rfl
theorem t1622:tab 1622=some (.fn d1622):=by rfl
theorem t1211:tab 1211=some (.fn d1211):=by rfl
theorem t1201:tab 1201=some (.fn d1201):=by rfl
theorem t1199:tab 1199=some (.fn d1199):=by rfl
theorem t1200:tab 1200=some (.fn d1200):=by rfl
theorem t1205:tab 1205=some (.fn d1205):=by rfl
theorem t1206:tab 1206=some (.fn d1206):=by rfl
theorem t1207:tab 1207=some (.fn d1207):=by rfl
theorem t1222:tab 1222=some (.fn d1222):=by rfl
theorem nd1725:tab 1725=none:=by rfl
theorem t1726:tab 1726=some (.fn d1726):=by rfl
theorem t1558:tab 1558=some (.fn d1558):=by rfl
theorem t1485:tab 1485=some (.fn d1485):=by rfl
theorem t1727:tab 1727=some (.fn d1727):=by rfl
theorem t1598:tab 1598=some (.fn d1598):=by rfl
theorem t1020:tab 1020=some (.fn d1020):=by rfl
theorem t1486:tab 1486=some (.fn d1486):=by rfl
theorem t1049:tab 1049=some (.fn d1049):=by rfl
theorem t1024:tab 1024=some (.orc (cloneG 1 8)):=by rfl
theorem t1210:tab 1210=some (.fn d1210):=by rfl
theorem t1202:tab 1202=some (.fn d1202):=by rfl
theorem t1728:tab 1728=some (.fn d1728):=by rfl
theorem t1729:tab 1729=some (.fn d1729):=by rfl
theorem t1565:tab 1565=some (.fn d1565):=by rfl
theorem t1566:tab 1566=some (.fn d1566):=by rfl
theorem t1554:tab 1554=some (.fn d1554):=by rfl
theorem t1567:tab 1567=some (.fn d1567):=by rfl
theorem t1493:tab 1493=some (.fn d1493):=by rfl
theorem t1021:tab 1021=some (.fn d1021):=by rfl
theorem t1600:tab 1600=some (.fn d1600):=by rfl
theorem t1602:tab 1602=some (.fn d1602):=by rfl
theorem t1491:tab 1491=some (.fn d1491):=by rfl
theorem t1219:tab 1219=some (.fn d1219):=by rfl
theorem t1212:tab 1212=some (.fn d1212):=by rfl
theorem t1358:tab 1358=some (.fn d1358):=by rfl
theorem t1571:tab 1571=some (.fn d1571):=by rfl
theorem t1572:tab 1572=some (.fn d1572):=by rfl
theorem t1496:tab 1496=some (.orc (cloneG 2 16)):=by rfl
theorem t1497:tab 1497=some (.fn d1497):=by rfl
theorem t1495:tab 1495=some (.fn d1495):=by rfl
theorem t1072:tab 1072=some (.fn d1072):=by rfl
theorem t1372:tab 1372=some (.fn d1372):=by rfl
theorem t1059:tab 1059=some (.fn d1059):=by rfl
theorem t1499:tab 1499=some (.fn d1499):=by rfl
theorem t1498:tab 1498=some (.fn d1498):=by rfl
theorem t1379:tab 1379=some (.fn d1379):=by rfl
theorem t1380:tab 1380=some (.fn d1380):=by rfl
theorem t1381:tab 1381=some (.fn d1381):=by rfl
theorem t1382:tab 1382=some (.fn d1382):=by rfl
theorem t1383:tab 1383=some (.fn d1383):=by rfl
theorem t1384:tab 1384=some (.fn d1384):=by rfl
theorem t1385:tab 1385=some (.fn d1385):=by rfl
theorem t1386:tab 1386=some (.fn d1386):=by rfl
theorem t1070:tab 1070=some (.fn d1070):=by rfl
theorem t1071:tab 1071=some (.fn d1071):=by rfl
theorem t1500:tab 1500=some (.fn d1500):=by rfl
theorem t1501:tab 1501=some (.fn d1501):=by rfl
theorem t1502:tab 1502=some (.fn d1502):=by rfl
theorem t1503:tab 1503=some (.fn d1503):=by rfl
theorem t1504:tab 1504=some (.fn d1504):=by rfl
theorem t1505:tab 1505=some (.fn d1505):=by rfl
theorem t1506:tab 1506=some (.fn d1506):=by rfl
theorem t1507:tab 1507=some (.fn d1507):=by rfl
theorem t1060:tab 1060=some (.fn d1060):=by rfl
theorem t1061:tab 1061=some (.fn d1061):=by rfl
theorem t1389:tab 1389=some (.fn d1389):=by rfl
theorem t1074:tab 1074=some (.fn d1074):=by rfl
theorem t1075:tab 1075=some (.fn d1075):=by rfl
theorem t1390:tab 1390=some (.fn d1390):=by rfl
theorem t1391:tab 1391=some (.fn d1391):=by rfl
theorem t1508:tab 1508=some (.fn d1508):=by rfl
theorem t1509:tab 1509=some (.fn d1509):=by rfl
theorem t1510:tab 1510=some (.fn d1510):=by rfl
theorem t1392:tab 1392=some (.fn d1392):=by rfl
theorem t1511:tab 1511=some (.fn d1511):=by rfl
theorem n1492:tab 1492=none:=by rfl
end Go.Proofs.Ytfbfbennheeglaa
