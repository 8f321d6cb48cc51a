import Derived.Test.YtgiofefdfcaibaaGreatF09z
import Derived.Test.YtgiofefdfcaibaaGreatKcp
namespace Go.Proofs.YtgiofefdfcaibaaGreat
set_option linter.unusedSimpArgs false
set_option linter.unusedVariables false
def fidL:List (Nat × Nat):=[(3,1699),(4,1700),(5,1686),(6,1176),(7,1597),(8,1687),(9,1701),(10,1689),(11,1702),(12,1688),(13,1439),(14,1187),(15,1560),(16,1692),(17,1703),(18,1016),(19,1175),(20,1595),(21,1022),(22,1690),(23,1691),(24,1336),(25,1598),(26,1704),(27,1203),(28,1198),(29,1693),(30,1192),(31,1341),(32,1194),(33,1335),(34,1204),(35,1354),(36,1021),(37,1600),(38,1602),(39,1487),(40,1213),(41,1208),(42,1209),(43,1188),(44,1558),(45,1369),(46,1353),(47,1205),(48,1206),(49,1207),(50,1330),(51,1020),(52,1214),(53,1215),(54,1216),(55,1217),(56,1218),(57,1199),(58,1200),(59,1565),(60,1566),(61,1554),(62,1567),(63,1355),(64,1367),(65,1368),(66,1357),(67,1220),(68,1221),(69,1222),(70,1223),(71,1060),(72,1061),(73,1224),(74,1210),(75,1202),(76,1211),(77,1024),(78,1358),(79,1571),(80,1572),(81,1377),(82,1378),(83,1356),(84,1370),(85,1371),(86,1072),(87,1225),(88,1219),(89,1212),(90,1372),(91,1059),(92,1387),(93,1388),(95,1379),(96,1380),(97,1381),(98,1382),(99,1383),(100,1384),(101,1385),(102,1386),(103,1070),(104,1071),(105,1389),(106,1074),(107,1075),(108,1390),(109,1391),(110,1392),(127,1694),(128,1695),(129,1696),(130,1697),(131,1498),(94,1226),(133,1698)]
def fid:FuncId→Option Nat:=fun f=>fidL.lookup f
def tab:Nat→Option Entry:=fun k=>[(1699,Entry.fn d1699),(1700,Entry.fn d1700),(1686,Entry.fn d1686),(1176,Entry.fn d1176),(1597,Entry.fn d1597),(1687,Entry.fn d1687),(1701,Entry.fn d1701),(1689,Entry.fn d1689),(1702,Entry.fn d1702),(1688,Entry.fn d1688),(1439,Entry.fn d1439),(1187,Entry.fn d1187),(1560,Entry.fn d1560),(1692,Entry.fn d1692),(1703,Entry.fn d1703),(1016,Entry.fn d1016),(1175,Entry.fn d1175),(1595,Entry.fn d1595),(1022,Entry.fn d1022),(1690,Entry.fn d1690),(1691,Entry.fn d1691),(1336,Entry.fn d1336),(1598,Entry.fn d1598),(1704,Entry.fn d1704),(1203,Entry.fn d1203),(1198,Entry.fn d1198),(1693,Entry.fn d1693),(1192,Entry.fn d1192),(1341,Entry.fn d1341),(1194,Entry.fn d1194),(1335,Entry.fn d1335),(1204,Entry.fn d1204),(1354,Entry.fn d1354),(1021,Entry.fn d1021),(1600,Entry.fn d1600),(1602,Entry.fn d1602),(1487,Entry.fn d1487),(1213,Entry.fn d1213),(1208,Entry.fn d1208),(1209,Entry.fn d1209),(1188,Entry.fn d1188),(1558,Entry.fn d1558),(1369,Entry.fn d1369),(1353,Entry.fn d1353),(1205,Entry.fn d1205),(1206,Entry.fn d1206),(1207,Entry.fn d1207),(1330,Entry.fn d1330),(1020,Entry.fn d1020),(1214,Entry.fn d1214),(1215,Entry.fn d1215),(1216,Entry.fn d1216),(1217,Entry.fn d1217),(1218,Entry.fn d1218),(1199,Entry.fn d1199),(1200,Entry.fn d1200),(1565,Entry.fn d1565),(1566,Entry.fn d1566),(1554,Entry.fn d1554),(1567,Entry.fn d1567),(1355,Entry.fn d1355),(1367,Entry.fn d1367),(1368,Entry.fn d1368),(1357,Entry.fn d1357),(1220,Entry.fn d1220),(1221,Entry.fn d1221),(1222,Entry.fn d1222),(1223,Entry.fn d1223),(1060,Entry.fn d1060),(1061,Entry.fn d1061),(1224,Entry.fn d1224),(1210,Entry.fn d1210),(1202,Entry.fn d1202),(1211,Entry.fn d1211),(1024,Entry.orc (cloneG 1 8)),(1358,Entry.fn d1358),(1571,Entry.fn d1571),(1572,Entry.fn d1572),(1377,Entry.fn d1377),(1378,Entry.fn d1378),(1356,Entry.fn d1356),(1370,Entry.fn d1370),(1371,Entry.fn d1371),(1072,Entry.fn d1072),(1225,Entry.orc cmpG),(1219,Entry.fn d1219),(1212,Entry.fn d1212),(1372,Entry.fn d1372),(1059,Entry.fn d1059),(1387,Entry.fn d1387),(1388,Entry.fn d1388),(1379,Entry.fn d1379),(1380,Entry.fn d1380),(1381,Entry.fn d1381),(1382,Entry.fn d1382),(1383,Entry.fn d1383),(1384,Entry.fn d1384),(1385,Entry.fn d1385),(1386,Entry.fn d1386),(1070,Entry.fn d1070),(1071,Entry.fn d1071),(1389,Entry.fn d1389),(1074,Entry.fn d1074),(1075,Entry.fn d1075),(1390,Entry.fn d1390),(1391,Entry.fn d1391),(1392,Entry.fn d1392),(1694,Entry.fn d1694),(1695,Entry.fn d1695),(1696,Entry.fn d1696),(1697,Entry.fn d1697),(1498,Entry.fn d1498)].lookup k
theorem t1699:tab 1699=some (.fn d1699):=by rfl
theorem t1700:tab 1700=some (.fn d1700):=by rfl
theorem t1686:tab 1686=some (.fn d1686):=by rfl
theorem t1176:tab 1176=some (.fn d1176):=by rfl
theorem t1597:tab 1597=some (.fn d1597):=by rfl
theorem t1687:tab 1687=some (.fn d1687):=by rfl
theorem t1701:tab 1701=some (.fn d1701):=by rfl
theorem t1689:tab 1689=some (.fn d1689):=by rfl
theorem t1702:tab 1702=some (.fn d1702):=by rfl
theorem t1688:tab 1688=some (.fn d1688):=by rfl
theorem t1439:tab 1439=some (.fn d1439):=by rfl
theorem t1187:tab 1187=some (.fn d1187):=by rfl
theorem t1560:tab 1560=some (.fn d1560):=by rfl
theorem t1692:tab 1692=some (.fn d1692):=by rfl
theorem t1703:tab 1703=some (.fn d1703):=by rfl
theorem t1016:tab 1016=some (.fn d1016):=by rfl
theorem t1175:tab 1175=some (.fn d1175):=by rfl
theorem t1595:tab 1595=some (.fn d1595):=by rfl
theorem t1022:tab 1022=some (.fn d1022):=by rfl
theorem t1690:tab 1690=some (.fn d1690):=by rfl
theorem t1691:tab 1691=some (.fn d1691):=by rfl
theorem t1336:tab 1336=some (.fn d1336):=by rfl
theorem t1598:tab 1598=some (.fn d1598):=by rfl
theorem t1704:tab 1704=some (.fn d1704):=by rfl
theorem t1203:tab 1203=some (.fn d1203):=by rfl
theorem t1198:tab 1198=some (.fn d1198):=by rfl
theorem t1693:tab 1693=some (.fn d1693):=by rfl
theorem t1192:tab 1192=some (.fn d1192):=by rfl
theorem t1341:tab 1341=some (.fn d1341):=by rfl
theorem t1194:tab 1194=some (.fn d1194):=by rfl
theorem t1335:tab 1335=some (.fn d1335):=by rfl
theorem t1204:tab 1204=some (.fn d1204):=by rfl
theorem t1354:tab 1354=some (.fn d1354):=by rfl
theorem t1021:tab 1021=some (.fn d1021):=by rfl
theorem t1600:tab 1600=some (.fn d1600):=by rfl
theorem t1602:tab 1602=some (.fn d1602):=by rfl
theorem t1487:tab 1487=some (.fn d1487):=by rfl
theorem t1213:tab 1213=some (.fn d1213):=by rfl
theorem t1208:tab 1208=some (.fn d1208):=by rfl
theorem t1209:tab 1209=some (.fn d1209):=by rfl
theorem t1188:tab 1188=some (.fn d1188):=by rfl
theorem t1558:tab 1558=some (.fn d1558):=by rfl
theorem t1369:tab 1369=some (.fn d1369):=by rfl
theorem t1353:tab 1353=some (.fn d1353):=by rfl
theorem t1205:tab 1205=some (.fn d1205):=by rfl
theorem t1206:tab 1206=some (.fn d1206):=by rfl
theorem t1207:tab 1207=some (.fn d1207):=by rfl
theorem t1330:tab 1330=some (.fn d1330):=by rfl
theorem t1020:tab 1020=some (.fn d1020):=by rfl
theorem t1214:tab 1214=some (.fn d1214):=by rfl
theorem t1215:tab 1215=some (.fn d1215):=by rfl
theorem t1216:tab 1216=some (.fn d1216):=by rfl
theorem t1217:tab 1217=some (.fn d1217):=by rfl
theorem t1218:tab 1218=some (.fn d1218):=by rfl
theorem t1199:tab 1199=some (.fn d1199):=by rfl
theorem t1200:tab 1200=some (.fn d1200):=by rfl
theorem t1565:tab 1565=some (.fn d1565):=by rfl
theorem t1566:tab 1566=some (.fn d1566):=by rfl
theorem t1554:tab 1554=some (.fn d1554):=by rfl
theorem t1567:tab 1567=some (.fn d1567):=by rfl
theorem t1355:tab 1355=some (.fn d1355):=by rfl
theorem t1367:tab 1367=some (.fn d1367):=by rfl
theorem t1368:tab 1368=some (.fn d1368):=by rfl
theorem t1357:tab 1357=some (.fn d1357):=by rfl
theorem t1220:tab 1220=some (.fn d1220):=by rfl
theorem t1221:tab 1221=some (.fn d1221):=by rfl
theorem t1222:tab 1222=some (.fn d1222):=by rfl
theorem t1223:tab 1223=some (.fn d1223):=by rfl
theorem t1060:tab 1060=some (.fn d1060):=by rfl
theorem t1061:tab 1061=some (.fn d1061):=by rfl
theorem t1224:tab 1224=some (.fn d1224):=by rfl
theorem t1210:tab 1210=some (.fn d1210):=by rfl
theorem t1202:tab 1202=some (.fn d1202):=by rfl
theorem t1211:tab 1211=some (.fn d1211):=by rfl
theorem t1024:tab 1024=some (.orc (cloneG 1 8)):=by rfl
theorem t1358:tab 1358=some (.fn d1358):=by rfl
theorem t1571:tab 1571=some (.fn d1571):=by rfl
theorem t1572:tab 1572=some (.fn d1572):=by rfl
theorem t1377:tab 1377=some (.fn d1377):=by rfl
theorem t1378:tab 1378=some (.fn d1378):=by rfl
theorem t1356:tab 1356=some (.fn d1356):=by rfl
theorem t1370:tab 1370=some (.fn d1370):=by rfl
theorem t1371:tab 1371=some (.fn d1371):=by rfl
theorem t1072:tab 1072=some (.fn d1072):=by rfl
theorem t1225:tab 1225=some (.orc cmpG):=by rfl
theorem t1219:tab 1219=some (.fn d1219):=by rfl
theorem t1212:tab 1212=some (.fn d1212):=by rfl
theorem t1372:tab 1372=some (.fn d1372):=by rfl
theorem t1059:tab 1059=some (.fn d1059):=by rfl
theorem t1387:tab 1387=some (.fn d1387):=by rfl
theorem t1388:tab 1388=some (.fn d1388):=by rfl
theorem t1379:tab 1379=some (.fn d1379):=by rfl
theorem t1380:tab 1380=some (.fn d1380):=by rfl
theorem t1381:tab 1381=some (.fn d1381):=by rfl
theorem t1382:tab 1382=some (.fn d1382):=by rfl
theorem t1383:tab 1383=some (.fn d1383):=by rfl
theorem t1384:tab 1384=some (.fn d1384):=by rfl
theorem t1385:tab 1385=some (.fn d1385):=by rfl
theorem t1386:tab 1386=some (.fn d1386):=by rfl
theorem t1070:tab 1070=some (.fn d1070):=by rfl
theorem t1071:tab 1071=some (.fn d1071):=by rfl
theorem t1389:tab 1389=some (.fn d1389):=by rfl
theorem t1074:tab 1074=some (.fn d1074):=by rfl
theorem t1075:tab 1075=some (.fn d1075):=by rfl
theorem t1390:tab 1390=some (.fn d1390):=by rfl
theorem t1391:tab 1391=some (.fn d1391):=by rfl
theorem t1392:tab 1392=some (.fn d1392):=by rfl
theorem t1694:tab 1694=some (.fn d1694):=by rfl
theorem t1695:tab 1695=some (.fn d1695):=by rfl
theorem t1696:tab 1696=some (.fn d1696):=by rfl
theorem t1697:tab 1697=some (.fn d1697):=by rfl
theorem t1498:tab 1498=some (.fn d1498):=by rfl
theorem n1226:tab 1226=none:=by rfl
theorem n1698:tab 1698=none:=by rfl
end Go.Proofs.YtgiofefdfcaibaaGreat
