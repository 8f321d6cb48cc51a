import Derived.Test.YtgdfncnpcdafmaaF03
import Derived.Test.YtgdfncnpcdafmaaKcp
namespace Go.Proofs.Ytgdfncnpcdafmaa
set_option linter.unusedSimpArgs false
set_option linter.unusedVariables false
def fidL:List (Nat × Nat):=[(3,1658),(4,1659),(5,1660),(6,1661),(7,1662),(8,1263),(9,1264),(10,1663),(11,1664),(12,1665),(13,1267),(14,1666),(15,1667),(16,1265),(17,1208),(18,1276),(19,1421),(20,1668),(21,1639),(22,1269),(23,1464),(24,1669),(25,1670),(26,1641),(27,1105),(29,1672),(30,1455),(31,1673),(32,1214),(33,1277),(34,1218),(35,1278),(36,1216),(37,1215),(38,1217),(39,1432),(40,1674),(41,1647),(42,1268),(43,1281),(45,1444),(46,1470),(47,1445),(48,1676),(49,1677),(50,1678),(51,1651),(52,1220),(53,1221),(54,1222),(55,1104),(56,1282),(57,1224),(58,1283),(59,1284),(60,1223),(61,1060),(62,1061),(63,1441),(64,1442),(65,1270),(66,1459),(67,1679),(68,1650),(69,1285),(70,1059),(71,1225),(72,1286),(73,1072),(74,1458),(75,1467),(76,1468),(77,1680),(78,1655),(79,1287),(80,1288),(81,1289),(82,1290),(83,1291),(84,1292),(85,1293),(86,1294),(87,1070),(88,1071),(90,1295),(91,1296),(92,1297),(93,1298),(94,1299),(95,1300),(96,1301),(97,1302),(98,1466),(99,1681),(100,1682),(101,1656),(102,1657),(103,1303),(104,1074),(105,1075),(106,1304),(107,1305),(108,1306),(109,1307),(110,1308),(111,1309),(112,1310),(28,1671),(44,1675),(89,1226)]
def fid:FuncId→Option Nat:=fun f=>fidL.lookup f
def tab:Nat→Option Entry:=fun k=>[(1658,Entry.fn d1658),(1659,Entry.fn d1659),(1660,Entry.fn d1660),(1661,Entry.fn d1661),(1662,Entry.fn d1662),(1263,Entry.fn d1263),(1264,Entry.fn d1264),(1663,Entry.fn d1663),(1664,Entry.fn d1664),(1665,Entry.fn d1665),(1267,Entry.fn d1267),(1666,Entry.fn d1666),(1667,Entry.fn d1667),(1265,Entry.fn d1265),(1208,Entry.fn d1208),(1276,Entry.fn d1276),(1421,Entry.fn d1421),(1668,Entry.fn d1668),(1639,Entry.fn d1639),(1269,Entry.fn d1269),(1464,Entry.fn d1464),(1669,Entry.fn d1669),(1670,Entry.fn d1670),(1641,Entry.fn d1641),(1105,Entry.fn d1105),(1672,Entry.fn d1672),(1455,Entry.fn d1455),(1673,Entry.fn d1673),(1214,Entry.fn d1214),(1277,Entry.fn d1277),(1218,Entry.fn d1218),(1278,Entry.fn d1278),(1216,Entry.fn d1216),(1215,Entry.fn d1215),(1217,Entry.fn d1217),(1432,Entry.fn d1432),(1674,Entry.fn d1674),(1647,Entry.fn d1647),(1268,Entry.fn d1268),(1281,Entry.fn d1281),(1444,Entry.fn d1444),(1470,Entry.fn d1470),(1445,Entry.fn d1445),(1676,Entry.fn d1676),(1677,Entry.fn d1677),(1678,Entry.fn d1678),(1651,Entry.fn d1651),(1220,Entry.fn d1220),(1221,Entry.fn d1221),(1222,Entry.fn d1222),(1104,Entry.orc (cloneG 1 16)),(1282,Entry.fn d1282),(1224,Entry.fn d1224),(1283,Entry.orc (cloneG 2 16)),(1284,Entry.fn d1284),(1223,Entry.fn d1223),(1060,Entry.fn d1060),(1061,Entry.fn d1061),(1441,Entry.fn d1441),(1442,Entry.fn d1442),(1270,Entry.fn d1270),(1459,Entry.fn d1459),(1679,Entry.fn d1679),(1650,Entry.fn d1650),(1285,Entry.fn d1285),(1059,Entry.fn d1059),(1225,Entry.orc cmpG),(1286,Entry.fn d1286),(1072,Entry.fn d1072),(1458,Entry.fn d1458),(1467,Entry.fn d1467),(1468,Entry.fn d1468),(1680,Entry.fn d1680),(1655,Entry.fn d1655),(1287,Entry.fn d1287),(1288,Entry.fn d1288),(1289,Entry.fn d1289),(1290,Entry.fn d1290),(1291,Entry.fn d1291),(1292,Entry.fn d1292),(1293,Entry.fn d1293),(1294,Entry.fn d1294),(1070,Entry.fn d1070),(1071,Entry.fn d1071),(1295,Entry.fn d1295),(1296,Entry.fn d1296),(1297,Entry.fn d1297),(1298,Entry.fn d1298),(1299,Entry.fn d1299),(1300,Entry.fn d1300),(1301,Entry.fn d1301),(1302,Entry.fn d1302),(1466,Entry.fn d1466),(1681,Entry.fn d1681),(1682,Entry.fn d1682),(1656,Entry.fn d1656),(1657,Entry.fn d1657),(1303,Entry.fn d1303),(1074,Entry.fn d1074),(1075,Entry.fn d1075),(1304,Entry.fn d1304),(1305,Entry.fn d1305),(1306,Entry.fn d1306),(1307,Entry.fn d1307),(1308,Entry.fn d1308),(1309,Entry.fn d1309),(1310,Entry.fn d1310)].lookup k
theorem t1658:tab 1658=some (.fn d1658):=by rfl
theorem t1659:tab 1659=some (.fn d1659):=by rfl
theorem t1660:tab 1660=some (.fn d1660):=by rfl
theorem t1661:tab 1661=some (.fn d1661):=by rfl
theorem t1662:tab 1662=some (.fn d1662):=by rfl
theorem t1263:tab 1263=some (.fn d1263):=by rfl
theorem t1264:tab 1264=some (.fn d1264):=by rfl
theorem t1663:tab 1663=some (.fn d1663):=by rfl
theorem t1664:tab 1664=some (.fn d1664):=by rfl
theorem t1665:tab 1665=some (.fn d1665):=by rfl
theorem t1267:tab 1267=some (.fn d1267):=by rfl
theorem t1666:tab 1666=some (.fn d1666):=by rfl
theorem t1667:tab 1667=some (.fn d1667):=by rfl
theorem t1265:tab 1265=some (.fn d1265):=by rfl
theorem t1208:tab 1208=some (.fn d1208):=by rfl
theorem t1276:tab 1276=some (.fn d1276):=by rfl
theorem t1421:tab 1421=some (.fn d1421):=by rfl
theorem t1668:tab 1668=some (.fn d1668):=by rfl
theorem t1639:tab 1639=some (.fn d1639):=by rfl
theorem t1269:tab 1269=some (.fn d1269):=by rfl
theorem t1464:tab 1464=some (.fn d1464):=by rfl
theorem t1669:tab 1669=some (.fn d1669):=by rfl
theorem t1670:tab 1670=some (.fn d1670):=by rfl
theorem t1641:tab 1641=some (.fn d1641):=by rfl
theorem t1105:tab 1105=some (.fn d1105):=by rfl
theorem t1672:tab 1672=some (.fn d1672):=by rfl
theorem t1455:tab 1455=some (.fn d1455):=by rfl
theorem t1673:tab 1673=some (.fn d1673):=by rfl
theorem t1214:tab 1214=some (.fn d1214):=by rfl
theorem t1277:tab 1277=some (.fn d1277):=by rfl
theorem t1218:tab 1218=some (.fn d1218):=by rfl
theorem t1278:tab 1278=some (.fn d1278):=by rfl
theorem t1216:tab 1216=some (.fn d1216):=by rfl
theorem t1215:tab 1215=some (.fn d1215):=by rfl
theorem t1217:tab 1217=some (.fn d1217):=by rfl
theorem t1432:tab 1432=some (.fn d1432):=by rfl
theorem t1674:tab 1674=some (.fn d1674):=by rfl
theorem t1647:tab 1647=some (.fn d1647):=by rfl
theorem t1268:tab 1268=some (.fn d1268):=by rfl
theorem t1281:tab 1281=some (.fn d1281):=by rfl
theorem t1444:tab 1444=some (.fn d1444):=by rfl
theorem t1470:tab 1470=some (.fn d1470):=by rfl
theorem t1445:tab 1445=some (.fn d1445):=by rfl
theorem t1676:tab 1676=some (.fn d1676):=by rfl
theorem t1677:tab 1677=some (.fn d1677):=by rfl
theorem t1678:tab 1678=some (.fn d1678):=by rfl
theorem t1651:tab 1651=some (.fn d1651):=by rfl
theorem t1220:tab 1220=some (.fn d1220):=by rfl
theorem t1221:tab 1221=some (.fn d1221):=by rfl
theorem t1222:tab 1222=some (.fn d1222):=by rfl
theorem t1104:tab 1104=some (.orc (cloneG 1 16)):=by rfl
theorem t1282:tab 1282=some (.fn d1282):=by rfl
theorem t1224:tab 1224=some (.fn d1224):=by rfl
theorem t1283:tab 1283=some (.orc (cloneG 2 16)):=by rfl
theorem t1284:tab 1284=some (.fn d1284):=by rfl
theorem t1223:tab 1223=some (.fn d1223):=by rfl
theorem t1060:tab 1060=some (.fn d1060):=by rfl
theorem t1061:tab 1061=some (.fn d1061):=by rfl
theorem t1441:tab 1441=some (.fn d1441):=by rfl
theorem t1442:tab 1442=some (.fn d1442):=by rfl
theorem t1270:tab 1270=some (.fn d1270):=by rfl
theorem t1459:tab 1459=some (.fn d1459):=by rfl
theorem t1679:tab 1679=some (.fn d1679):=by rfl
theorem t1650:tab 1650=some (.fn d1650):=by rfl
theorem t1285:tab 1285=some (.fn d1285):=by rfl
theorem t1059:tab 1059=some (.fn d1059):=by rfl
theorem t1225:tab 1225=some (.orc cmpG):=by rfl
theorem t1286:tab 1286=some (.fn d1286):=by rfl
theorem t1072:tab 1072=some (.fn d1072):=by rfl
theorem t1458:tab 1458=some (.fn d1458):=by rfl
theorem t1467:tab 1467=some (.fn d1467):=by rfl
theorem t1468:tab 1468=some (.fn d1468):=by rfl
theorem t1680:tab 1680=some (.fn d1680):=by rfl
theorem t1655:tab 1655=some (.fn d1655):=by rfl
theorem t1287:tab 1287=some (.fn d1287):=by rfl
theorem t1288:tab 1288=some (.fn d1288):=by rfl
theorem t1289:tab 1289=some (.fn d1289):=by rfl
theorem t1290:tab 1290=some (.fn d1290):=by rfl
theorem t1291:tab 1291=some (.fn d1291):=by rfl
theorem t1292:tab 1292=some (.fn d1292):=by rfl
theorem t1293:tab 1293=some (.fn d1293):=by rfl
theorem t1294:tab 1294=some (.fn d1294):=by rfl
theorem t1070:tab 1070=some (.fn d1070):=by rfl
theorem t1071:tab 1071=some (.fn d1071):=by rfl
theorem t1295:tab 1295=some (.fn d1295):=by rfl
theorem t1296:tab 1296=some (.fn d1296):=by rfl
theorem t1297:tab 1297=some (.fn d1297):=by rfl
theorem t1298:tab 1298=some (.fn d1298):=by rfl
theorem t1299:tab 1299=some (.fn d1299):=by rfl
theorem t1300:tab 1300=some (.fn d1300):=by rfl
theorem t1301:tab 1301=some (.fn d1301):=by rfl
theorem t1302:tab 1302=some (.fn d1302):=by rfl
theorem t1466:tab 1466=some (.fn d1466):=by rfl
theorem t1681:tab 1681=some (.fn d1681):=by rfl
theorem t1682:tab 1682=some (.fn d1682):=by rfl
theorem t1656:tab 1656=some (.fn d1656):=by rfl
theorem t1657:tab 1657=some (.fn d1657):=by rfl
theorem t1303:tab 1303=some (.fn d1303):=by rfl
theorem t1074:tab 1074=some (.fn d1074):=by rfl
theorem t1075:tab 1075=some (.fn d1075):=by rfl
theorem t1304:tab 1304=some (.fn d1304):=by rfl
theorem t1305:tab 1305=some (.fn d1305):=by rfl
theorem t1306:tab 1306=some (.fn d1306):=by rfl
theorem t1307:tab 1307=some (.fn d1307):=by rfl
theorem t1308:tab 1308=some (.fn d1308):=by rfl
theorem t1309:tab 1309=some (.fn d1309):=by rfl
theorem t1310:tab 1310=some (.fn d1310):=by rfl
theorem n1671:tab 1671=none:=by rfl
theorem n1675:tab 1675=none:=by rfl
theorem n1226:tab 1226=none:=by rfl
end Go.Proofs.Ytgdfncnpcdafmaa
