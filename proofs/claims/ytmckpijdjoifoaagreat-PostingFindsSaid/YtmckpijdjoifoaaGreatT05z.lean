import Derived.Test.YtmckpijdjoifoaaGreatF05z
import Derived.Test.YtmckpijdjoifoaaGreatKcp
namespace Go.Proofs.YtmckpijdjoifoaaGreat
set_option linter.unusedSimpArgs false
set_option linter.unusedVariables false
def fidL:List (Nat × Nat):=[(3,1551),(4,1263),(5,1265),(6,1552),(7,1553),(8,1554),(9,1020),(10,1555),(11,1214),(12,1277),(13,1218),(14,1278),(15,1216),(16,1208),(17,1556),(18,1557),(19,1558),(20,1559),(21,1560),(22,1016),(23,1024),(24,1222),(25,1561),(26,1220),(27,1221),(28,1104),(29,1282),(30,1224),(31,1283),(32,1284),(33,1223),(34,1060),(35,1061),(36,1215),(37,1217),(38,1562),(39,1563),(40,1564),(41,1565),(42,1566),(43,1567),(44,1568),(45,1285),(46,1059),(47,1225),(48,1286),(49,1072),(50,1569),(51,1570),(52,1358),(53,1571),(54,1572),(55,1573),(56,1287),(57,1288),(58,1289),(59,1290),(60,1291),(61,1292),(62,1293),(63,1294),(64,1070),(65,1071),(67,1295),(68,1296),(69,1297),(70,1298),(71,1299),(72,1300),(73,1301),(74,1302),(75,1574),(76,1575),(77,1576),(78,1577),(79,1578),(80,1579),(81,1580),(82,1581),(83,1582),(84,1372),(85,1583),(86,1303),(87,1074),(88,1075),(89,1304),(90,1305),(91,1306),(92,1307),(93,1308),(94,1584),(95,1585),(96,1586),(97,1587),(98,1379),(99,1380),(100,1381),(101,1382),(102,1383),(103,1384),(104,1219),(105,1385),(106,1386),(107,1309),(108,1310),(109,1588),(110,1389),(111,1390),(112,1391),(113,1392),(66,1226)]
def fid:FuncId→Option Nat:=fun f=>fidL.lookup f
def tab:Nat→Option Entry:=fun k=>[(1551,Entry.fn d1551),(1263,Entry.fn d1263),(1265,Entry.fn d1265),(1552,Entry.fn d1552),(1553,Entry.fn d1553),(1554,Entry.fn d1554),(1020,Entry.fn d1020),(1555,Entry.fn d1555),(1214,Entry.fn d1214),(1277,Entry.fn d1277),(1218,Entry.fn d1218),(1278,Entry.fn d1278),(1216,Entry.fn d1216),(1208,Entry.fn d1208),(1557,Entry.fn d1557),(1558,Entry.fn d1558),(1559,Entry.fn d1559),(1560,Entry.fn d1560),(1016,Entry.fn d1016),(1024,Entry.orc (cloneG 1 8)),(1222,Entry.fn d1222),(1561,Entry.fn d1561),(1220,Entry.fn d1220),(1221,Entry.fn d1221),(1104,Entry.orc (cloneG 1 16)),(1282,Entry.fn d1282),(1224,Entry.fn d1224),(1283,Entry.orc (cloneG 2 16)),(1284,Entry.fn d1284),(1223,Entry.fn d1223),(1060,Entry.fn d1060),(1061,Entry.fn d1061),(1215,Entry.fn d1215),(1217,Entry.fn d1217),(1563,Entry.fn d1563),(1565,Entry.fn d1565),(1566,Entry.fn d1566),(1567,Entry.fn d1567),(1568,Entry.fn d1568),(1285,Entry.fn d1285),(1059,Entry.fn d1059),(1225,Entry.orc cmpG),(1286,Entry.fn d1286),(1072,Entry.fn d1072),(1570,Entry.fn d1570),(1358,Entry.fn d1358),(1571,Entry.fn d1571),(1572,Entry.fn d1572),(1573,Entry.fn d1573),(1287,Entry.fn d1287),(1288,Entry.fn d1288),(1289,Entry.fn d1289),(1290,Entry.fn d1290),(1291,Entry.fn d1291),(1292,Entry.fn d1292),(1293,Entry.fn d1293),(1294,Entry.fn d1294),(1070,Entry.fn d1070),(1071,Entry.fn d1071),(1295,Entry.fn d1295),(1296,Entry.fn d1296),(1297,Entry.fn d1297),(1298,Entry.fn d1298),(1299,Entry.fn d1299),(1300,Entry.fn d1300),(1301,Entry.fn d1301),(1302,Entry.fn d1302),(1574,Entry.fn d1574),(1575,Entry.fn d1575),(1576,Entry.fn d1576),(1577,Entry.fn d1577),(1578,Entry.fn d1578),(1579,Entry.fn d1579),(1580,Entry.fn d1580),(1581,Entry.fn d1581),(1582,Entry.fn d1582),(1372,Entry.fn d1372),(1583,Entry.fn d1583),(1303,Entry.fn d1303),(1074,Entry.fn d1074),(1075,Entry.fn d1075),(1304,Entry.fn d1304),(1305,Entry.fn d1305),(1306,Entry.fn d1306),(1307,Entry.fn d1307),(1308,Entry.fn d1308),(1584,Entry.fn d1584),(1585,Entry.fn d1585),(1586,Entry.fn d1586),(1587,Entry.fn d1587),(1379,Entry.fn d1379),(1380,Entry.fn d1380),(1381,Entry.fn d1381),(1382,Entry.fn d1382),(1383,Entry.fn d1383),(1384,Entry.fn d1384),(1219,Entry.fn d1219),(1385,Entry.fn d1385),(1386,Entry.fn d1386),(1309,Entry.fn d1309),(1310,Entry.fn d1310),(1588,Entry.fn d1588),(1389,Entry.fn d1389),(1390,Entry.fn d1390),(1391,Entry.fn d1391),(1392,Entry.fn d1392)].lookup k
theorem t1551:tab 1551=some (.fn d1551):=by rfl
theorem t1263:tab 1263=some (.fn d1263):=by rfl
theorem t1265:tab 1265=some (.fn d1265):=by rfl
theorem t1552:tab 1552=some (.fn d1552):=by rfl
theorem t1553:tab 1553=some (.fn d1553):=by rfl
theorem t1554:tab 1554=some (.fn d1554):=by rfl
theorem t1020:tab 1020=some (.fn d1020):=by rfl
theorem t1555:tab 1555=some (.fn d1555):=by rfl
theorem t1214:tab 1214=some (.fn d1214):=by rfl
theorem t1277:tab 1277=some (.fn d1277):=by rfl
theorem t1218:tab 1218=some (.fn d1218):=by rfl
theorem t1278:tab 1278=some (.fn d1278):=by rfl
theorem t1216:tab 1216=some (.fn d1216):=by rfl
theorem t1208:tab 1208=some (.fn d1208):=by rfl
theorem nd1556:tab 1556=none:=by rfl
theorem t1557:tab 1557=some (.fn d1557):=by rfl
theorem t1558:tab 1558=some (.fn d1558):=by rfl
theorem t1559:tab 1559=some (.fn d1559):=by rfl
theorem t1560:tab 1560=some (.fn d1560):=by rfl
theorem t1016:tab 1016=some (.fn d1016):=by rfl
theorem t1024:tab 1024=some (.orc (cloneG 1 8)):=by rfl
theorem t1222:tab 1222=some (.fn d1222):=by rfl
theorem t1561:tab 1561=some (.fn d1561):=by rfl
theorem t1220:tab 1220=some (.fn d1220):=by rfl
theorem t1221:tab 1221=some (.fn d1221):=by rfl
theorem t1104:tab 1104=some (.orc (cloneG 1 16)):=by rfl
theorem t1282:tab 1282=some (.fn d1282):=by rfl
theorem t1224:tab 1224=some (.fn d1224):=by rfl
theorem t1283:tab 1283=some (.orc (cloneG 2 16)):=by rfl
theorem t1284:tab 1284=some (.fn d1284):=by rfl
theorem t1223:tab 1223=some (.fn d1223):=by rfl
theorem t1060:tab 1060=some (.fn d1060):=by rfl
theorem t1061:tab 1061=some (.fn d1061):=by rfl
theorem t1215:tab 1215=some (.fn d1215):=by rfl
theorem t1217:tab 1217=some (.fn d1217):=by rfl
theorem nd1562:tab 1562=none:=by rfl
theorem t1563:tab 1563=some (.fn d1563):=by rfl
theorem nd1564:tab 1564=none:=by rfl
theorem t1565:tab 1565=some (.fn d1565):=by rfl
theorem t1566:tab 1566=some (.fn d1566):=by rfl
theorem t1567:tab 1567=some (.fn d1567):=by rfl
theorem t1568:tab 1568=some (.fn d1568):=by rfl
theorem t1285:tab 1285=some (.fn d1285):=by rfl
theorem t1059:tab 1059=some (.fn d1059):=by rfl
theorem t1225:tab 1225=some (.orc cmpG):=by rfl
theorem t1286:tab 1286=some (.fn d1286):=by rfl
theorem t1072:tab 1072=some (.fn d1072):=by rfl
theorem nd1569:tab 1569=none:=by rfl
theorem t1570:tab 1570=some (.fn d1570):=by rfl
theorem t1358:tab 1358=some (.fn d1358):=by rfl
theorem t1571:tab 1571=some (.fn d1571):=by rfl
theorem t1572:tab 1572=some (.fn d1572):=by rfl
theorem t1573:tab 1573=some (.fn d1573):=by rfl
theorem t1287:tab 1287=some (.fn d1287):=by rfl
theorem t1288:tab 1288=some (.fn d1288):=by rfl
theorem t1289:tab 1289=some (.fn d1289):=by rfl
theorem t1290:tab 1290=some (.fn d1290):=by rfl
theorem t1291:tab 1291=some (.fn d1291):=by rfl
theorem t1292:tab 1292=some (.fn d1292):=by rfl
theorem t1293:tab 1293=some (.fn d1293):=by rfl
theorem t1294:tab 1294=some (.fn d1294):=by rfl
theorem t1070:tab 1070=some (.fn d1070):=by rfl
theorem t1071:tab 1071=some (.fn d1071):=by rfl
theorem t1295:tab 1295=some (.fn d1295):=by rfl
theorem t1296:tab 1296=some (.fn d1296):=by rfl
theorem t1297:tab 1297=some (.fn d1297):=by rfl
theorem t1298:tab 1298=some (.fn d1298):=by rfl
theorem t1299:tab 1299=some (.fn d1299):=by rfl
theorem t1300:tab 1300=some (.fn d1300):=by rfl
theorem t1301:tab 1301=some (.fn d1301):=by rfl
theorem t1302:tab 1302=some (.fn d1302):=by rfl
theorem t1574:tab 1574=some (.fn d1574):=by rfl
theorem t1575:tab 1575=some (.fn d1575):=by rfl
theorem t1576:tab 1576=some (.fn d1576):=by rfl
theorem t1577:tab 1577=some (.fn d1577):=by rfl
theorem t1578:tab 1578=some (.fn d1578):=by rfl
theorem t1579:tab 1579=some (.fn d1579):=by rfl
theorem t1580:tab 1580=some (.fn d1580):=by rfl
theorem t1581:tab 1581=some (.fn d1581):=by rfl
theorem t1582:tab 1582=some (.fn d1582):=by rfl
theorem t1372:tab 1372=some (.fn d1372):=by rfl
theorem t1583:tab 1583=some (.fn d1583):=by rfl
theorem t1303:tab 1303=some (.fn d1303):=by rfl
theorem t1074:tab 1074=some (.fn d1074):=by rfl
theorem t1075:tab 1075=some (.fn d1075):=by rfl
theorem t1304:tab 1304=some (.fn d1304):=by rfl
theorem t1305:tab 1305=some (.fn d1305):=by rfl
theorem t1306:tab 1306=some (.fn d1306):=by rfl
theorem t1307:tab 1307=some (.fn d1307):=by rfl
theorem t1308:tab 1308=some (.fn d1308):=by rfl
theorem t1584:tab 1584=some (.fn d1584):=by rfl
theorem t1585:tab 1585=some (.fn d1585):=by rfl
theorem t1586:tab 1586=some (.fn d1586):=by rfl
theorem t1587:tab 1587=some (.fn d1587):=by rfl
theorem t1379:tab 1379=some (.fn d1379):=by rfl
theorem t1380:tab 1380=some (.fn d1380):=by rfl
theorem t1381:tab 1381=some (.fn d1381):=by rfl
theorem t1382:tab 1382=some (.fn d1382):=by rfl
theorem t1383:tab 1383=some (.fn d1383):=by rfl
theorem t1384:tab 1384=some (.fn d1384):=by rfl
theorem t1219:tab 1219=some (.fn d1219):=by rfl
theorem t1385:tab 1385=some (.fn d1385):=by rfl
theorem t1386:tab 1386=some (.fn d1386):=by rfl
theorem t1309:tab 1309=some (.fn d1309):=by rfl
theorem t1310:tab 1310=some (.fn d1310):=by rfl
theorem t1588:tab 1588=some (.fn d1588):=by rfl
theorem t1389:tab 1389=some (.fn d1389):=by rfl
theorem t1390:tab 1390=some (.fn d1390):=by rfl
theorem t1391:tab 1391=some (.fn d1391):=by rfl
theorem t1392:tab 1392=some (.fn d1392):=by rfl
theorem n1226:tab 1226=none:=by rfl
end Go.Proofs.YtmckpijdjoifoaaGreat
