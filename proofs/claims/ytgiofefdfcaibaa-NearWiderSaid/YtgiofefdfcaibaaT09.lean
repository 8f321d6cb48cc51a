import Derived.Test.YtgiofefdfcaibaaF09
import Derived.Test.YtgiofefdfcaibaaKcp
namespace Go.Proofs.Ytgiofefdfcaibaa
set_option linter.unusedSimpArgs false
set_option linter.unusedVariables false
def fidL:List (Nat × Nat):=[(3,1683),(4,1684),(5,1685),(6,1686),(7,1687),(8,1558),(9,1688),(10,1344),(11,1020),(12,1487),(13,1439),(14,1276),(15,1689),(16,1175),(17,1595),(18,1690),(19,1691),(20,1565),(21,1566),(22,1554),(23,1567),(24,1198),(25,1692),(26,1016),(27,1355),(28,1359),(29,1203),(30,1693),(31,1335),(32,1204),(33,1358),(34,1571),(35,1024),(36,1572),(37,1208),(38,1209),(39,1192),(40,1341),(41,1188),(42,1369),(43,1365),(44,1363),(45,1373),(46,1364),(47,1213),(48,1353),(49,1372),(50,1059),(51,1214),(52,1215),(53,1216),(54,1217),(55,1218),(56,1199),(57,1200),(58,1374),(59,1371),(60,1370),(61,1367),(62,1368),(63,1357),(64,1379),(65,1380),(66,1381),(67,1382),(68,1383),(69,1384),(70,1219),(71,1385),(72,1386),(73,1070),(74,1071),(75,1220),(76,1221),(77,1222),(78,1223),(79,1060),(80,1061),(81,1224),(82,1210),(83,1202),(84,1211),(85,1377),(86,1378),(87,1356),(88,1389),(89,1074),(90,1075),(91,1390),(92,1391),(93,1072),(94,1225),(95,1212),(96,1387),(97,1388),(98,1392),(116,1694),(117,1695),(118,1696),(119,1697),(120,1498),(99,1226),(122,1698)]
def fid:FuncId→Option Nat:=fun f=>fidL.lookup f
def tab:Nat→Option Entry:=fun k=>[(1683,Entry.fn d1683),(1684,Entry.fn d1684),(1685,Entry.fn d1685),(1686,Entry.fn d1686),(1687,Entry.fn d1687),(1558,Entry.fn d1558),(1688,Entry.fn d1688),(1344,Entry.fn d1344),(1020,Entry.fn d1020),(1487,Entry.fn d1487),(1439,Entry.fn d1439),(1276,Entry.fn d1276),(1689,Entry.fn d1689),(1175,Entry.fn d1175),(1595,Entry.fn d1595),(1690,Entry.fn d1690),(1691,Entry.fn d1691),(1565,Entry.fn d1565),(1566,Entry.fn d1566),(1554,Entry.fn d1554),(1567,Entry.fn d1567),(1198,Entry.fn d1198),(1692,Entry.fn d1692),(1016,Entry.fn d1016),(1355,Entry.fn d1355),(1359,Entry.fn d1359),(1203,Entry.fn d1203),(1693,Entry.fn d1693),(1335,Entry.fn d1335),(1204,Entry.fn d1204),(1358,Entry.fn d1358),(1571,Entry.fn d1571),(1024,Entry.orc (cloneG 1 8)),(1572,Entry.fn d1572),(1208,Entry.fn d1208),(1209,Entry.fn d1209),(1192,Entry.fn d1192),(1341,Entry.fn d1341),(1188,Entry.fn d1188),(1369,Entry.fn d1369),(1365,Entry.fn d1365),(1363,Entry.fn d1363),(1373,Entry.fn d1373),(1364,Entry.fn d1364),(1213,Entry.fn d1213),(1353,Entry.fn d1353),(1372,Entry.fn d1372),(1059,Entry.fn d1059),(1214,Entry.fn d1214),(1215,Entry.fn d1215),(1216,Entry.fn d1216),(1217,Entry.fn d1217),(1218,Entry.fn d1218),(1199,Entry.fn d1199),(1200,Entry.fn d1200),(1374,Entry.fn d1374),(1371,Entry.fn d1371),(1370,Entry.fn d1370),(1367,Entry.fn d1367),(1368,Entry.fn d1368),(1357,Entry.fn d1357),(1379,Entry.fn d1379),(1380,Entry.fn d1380),(1381,Entry.fn d1381),(1382,Entry.fn d1382),(1383,Entry.fn d1383),(1384,Entry.fn d1384),(1219,Entry.fn d1219),(1385,Entry.fn d1385),(1386,Entry.fn d1386),(1070,Entry.fn d1070),(1071,Entry.fn d1071),(1220,Entry.fn d1220),(1221,Entry.fn d1221),(1222,Entry.fn d1222),(1223,Entry.fn d1223),(1060,Entry.fn d1060),(1061,Entry.fn d1061),(1224,Entry.fn d1224),(1210,Entry.fn d1210),(1202,Entry.fn d1202),(1211,Entry.fn d1211),(1377,Entry.fn d1377),(1378,Entry.fn d1378),(1356,Entry.fn d1356),(1389,Entry.fn d1389),(1074,Entry.fn d1074),(1075,Entry.fn d1075),(1390,Entry.fn d1390),(1391,Entry.fn d1391),(1072,Entry.fn d1072),(1225,Entry.orc cmpG),(1212,Entry.fn d1212),(1387,Entry.fn d1387),(1388,Entry.fn d1388),(1392,Entry.fn d1392),(1694,Entry.fn d1694),(1695,Entry.fn d1695),(1696,Entry.fn d1696),(1697,Entry.fn d1697),(1498,Entry.fn d1498)].lookup k
theorem t1683:tab 1683=some (.fn d1683):=by rfl
theorem t1684:tab 1684=some (.fn d1684):=by rfl
theorem t1685:tab 1685=some (.fn d1685):=by rfl
theorem t1686:tab 1686=some (.fn d1686):=by rfl
theorem t1687:tab 1687=some (.fn d1687):=by rfl
theorem t1558:tab 1558=some (.fn d1558):=by rfl
theorem t1688:tab 1688=some (.fn d1688):=by rfl
theorem t1344:tab 1344=some (.fn d1344):=by rfl
theorem t1020:tab 1020=some (.fn d1020):=by rfl
theorem t1487:tab 1487=some (.fn d1487):=by rfl
theorem t1439:tab 1439=some (.fn d1439):=by rfl
theorem t1276:tab 1276=some (.fn d1276):=by rfl
theorem t1689:tab 1689=some (.fn d1689):=by rfl
theorem t1175:tab 1175=some (.fn d1175):=by rfl
theorem t1595:tab 1595=some (.fn d1595):=by rfl
theorem t1690:tab 1690=some (.fn d1690):=by rfl
theorem t1691:tab 1691=some (.fn d1691):=by rfl
theorem t1565:tab 1565=some (.fn d1565):=by rfl
theorem t1566:tab 1566=some (.fn d1566):=by rfl
theorem t1554:tab 1554=some (.fn d1554):=by rfl
theorem t1567:tab 1567=some (.fn d1567):=by rfl
theorem t1198:tab 1198=some (.fn d1198):=by rfl
theorem t1692:tab 1692=some (.fn d1692):=by rfl
theorem t1016:tab 1016=some (.fn d1016):=by rfl
theorem t1355:tab 1355=some (.fn d1355):=by rfl
theorem t1359:tab 1359=some (.fn d1359):=by rfl
theorem t1203:tab 1203=some (.fn d1203):=by rfl
theorem t1693:tab 1693=some (.fn d1693):=by rfl
theorem t1335:tab 1335=some (.fn d1335):=by rfl
theorem t1204:tab 1204=some (.fn d1204):=by rfl
theorem t1358:tab 1358=some (.fn d1358):=by rfl
theorem t1571:tab 1571=some (.fn d1571):=by rfl
theorem t1024:tab 1024=some (.orc (cloneG 1 8)):=by rfl
theorem t1572:tab 1572=some (.fn d1572):=by rfl
theorem t1208:tab 1208=some (.fn d1208):=by rfl
theorem t1209:tab 1209=some (.fn d1209):=by rfl
theorem t1192:tab 1192=some (.fn d1192):=by rfl
theorem t1341:tab 1341=some (.fn d1341):=by rfl
theorem t1188:tab 1188=some (.fn d1188):=by rfl
theorem t1369:tab 1369=some (.fn d1369):=by rfl
theorem t1365:tab 1365=some (.fn d1365):=by rfl
theorem t1363:tab 1363=some (.fn d1363):=by rfl
theorem t1373:tab 1373=some (.fn d1373):=by rfl
theorem t1364:tab 1364=some (.fn d1364):=by rfl
theorem t1213:tab 1213=some (.fn d1213):=by rfl
theorem t1353:tab 1353=some (.fn d1353):=by rfl
theorem t1372:tab 1372=some (.fn d1372):=by rfl
theorem t1059:tab 1059=some (.fn d1059):=by rfl
theorem t1214:tab 1214=some (.fn d1214):=by rfl
theorem t1215:tab 1215=some (.fn d1215):=by rfl
theorem t1216:tab 1216=some (.fn d1216):=by rfl
theorem t1217:tab 1217=some (.fn d1217):=by rfl
theorem t1218:tab 1218=some (.fn d1218):=by rfl
theorem t1199:tab 1199=some (.fn d1199):=by rfl
theorem t1200:tab 1200=some (.fn d1200):=by rfl
theorem t1374:tab 1374=some (.fn d1374):=by rfl
theorem t1371:tab 1371=some (.fn d1371):=by rfl
theorem t1370:tab 1370=some (.fn d1370):=by rfl
theorem t1367:tab 1367=some (.fn d1367):=by rfl
theorem t1368:tab 1368=some (.fn d1368):=by rfl
theorem t1357:tab 1357=some (.fn d1357):=by rfl
theorem t1379:tab 1379=some (.fn d1379):=by rfl
theorem t1380:tab 1380=some (.fn d1380):=by rfl
theorem t1381:tab 1381=some (.fn d1381):=by rfl
theorem t1382:tab 1382=some (.fn d1382):=by rfl
theorem t1383:tab 1383=some (.fn d1383):=by rfl
theorem t1384:tab 1384=some (.fn d1384):=by rfl
theorem t1219:tab 1219=some (.fn d1219):=by rfl
theorem t1385:tab 1385=some (.fn d1385):=by rfl
theorem t1386:tab 1386=some (.fn d1386):=by rfl
theorem t1070:tab 1070=some (.fn d1070):=by rfl
theorem t1071:tab 1071=some (.fn d1071):=by rfl
theorem t1220:tab 1220=some (.fn d1220):=by rfl
theorem t1221:tab 1221=some (.fn d1221):=by rfl
theorem t1222:tab 1222=some (.fn d1222):=by rfl
theorem t1223:tab 1223=some (.fn d1223):=by rfl
theorem t1060:tab 1060=some (.fn d1060):=by rfl
theorem t1061:tab 1061=some (.fn d1061):=by rfl
theorem t1224:tab 1224=some (.fn d1224):=by rfl
theorem t1210:tab 1210=some (.fn d1210):=by rfl
theorem t1202:tab 1202=some (.fn d1202):=by rfl
theorem t1211:tab 1211=some (.fn d1211):=by rfl
theorem t1377:tab 1377=some (.fn d1377):=by rfl
theorem t1378:tab 1378=some (.fn d1378):=by rfl
theorem t1356:tab 1356=some (.fn d1356):=by rfl
theorem t1389:tab 1389=some (.fn d1389):=by rfl
theorem t1074:tab 1074=some (.fn d1074):=by rfl
theorem t1075:tab 1075=some (.fn d1075):=by rfl
theorem t1390:tab 1390=some (.fn d1390):=by rfl
theorem t1391:tab 1391=some (.fn d1391):=by rfl
theorem t1072:tab 1072=some (.fn d1072):=by rfl
theorem t1225:tab 1225=some (.orc cmpG):=by rfl
theorem t1212:tab 1212=some (.fn d1212):=by rfl
theorem t1387:tab 1387=some (.fn d1387):=by rfl
theorem t1388:tab 1388=some (.fn d1388):=by rfl
theorem t1392:tab 1392=some (.fn d1392):=by rfl
theorem t1694:tab 1694=some (.fn d1694):=by rfl
theorem t1695:tab 1695=some (.fn d1695):=by rfl
theorem t1696:tab 1696=some (.fn d1696):=by rfl
theorem t1697:tab 1697=some (.fn d1697):=by rfl
theorem t1498:tab 1498=some (.fn d1498):=by rfl
theorem n1226:tab 1226=none:=by rfl
theorem n1698:tab 1698=none:=by rfl
end Go.Proofs.Ytgiofefdfcaibaa
