import Derived.Test.YtmckpijdjoifoaaGreatT05z
import Derived.Test.YtmckpijdjoifoaaGreatProg
import Derived.KernelRfl
import Derived.Test.YtmckpijdjoifoaaGreatKcq
namespace Go.Proofs.YtmckpijdjoifoaaGreat
set_option linter.unusedSimpArgs false
set_option linter.unusedVariables false
set_option maxRecDepth 1000000
theorem e1551:EntryOk Tryz.prog fid 3 (.fn d1551):=⟨Tryz.f3,Tryz.f3.body.getD .skip,by kernel_rfl,by kernel_rfl,by kernel_rfl,⟨by kernel_rfl,by kernel_rfl,fun _=>by kernel_rfl⟩,by kernel_rfl,by kernel_rfl⟩
theorem e1263:EntryOk Tryz.prog fid 4 (.fn d1263):=⟨Tryz.f4,Tryz.f4.body.getD .skip,by kernel_rfl,by kernel_rfl,by kernel_rfl,⟨by kernel_rfl,by kernel_rfl,fun _=>by kernel_rfl⟩,by kernel_rfl,by kernel_rfl⟩
theorem e1265:EntryOk Tryz.prog fid 5 (.fn d1265):=⟨Tryz.f5,Tryz.f5.body.getD .skip,by kernel_rfl,by kernel_rfl,by kernel_rfl,⟨by kernel_rfl,by kernel_rfl,fun _=>by kernel_rfl⟩,by kernel_rfl,by kernel_rfl⟩
theorem e1552:EntryOk Tryz.prog fid 6 (.fn d1552):=⟨Tryz.f6,Tryz.f6.body.getD .skip,by kernel_rfl,by kernel_rfl,by kernel_rfl,⟨by kernel_rfl,by kernel_rfl,fun _=>by kernel_rfl⟩,by kernel_rfl,by kernel_rfl⟩
theorem e1553:EntryOk Tryz.prog fid 7 (.fn d1553):=⟨Tryz.f7,Tryz.f7.body.getD .skip,by kernel_rfl,by kernel_rfl,by kernel_rfl,⟨by kernel_rfl,by kernel_rfl,fun _=>by kernel_rfl⟩,by kernel_rfl,by kernel_rfl⟩
theorem e1554:EntryOk Tryz.prog fid 8 (.fn d1554):=⟨Tryz.f8,Tryz.f8.body.getD .skip,by kernel_rfl,by kernel_rfl,by kernel_rfl,⟨by kernel_rfl,by kernel_rfl,fun _=>by kernel_rfl⟩,by kernel_rfl,by kernel_rfl⟩
theorem e1020:EntryOk Tryz.prog fid 9 (.fn d1020):=⟨Tryz.f9,Tryz.f9.body.getD .skip,by kernel_rfl,by kernel_rfl,by kernel_rfl,⟨by kernel_rfl,by kernel_rfl,fun _=>by kernel_rfl⟩,by kernel_rfl,by kernel_rfl⟩
theorem e1555:EntryOk Tryz.prog fid 10 (.fn d1555):=⟨Tryz.f10,Tryz.f10.body.getD .skip,by kernel_rfl,by kernel_rfl,by kernel_rfl,⟨by kernel_rfl,by kernel_rfl,fun _=>by kernel_rfl⟩,by kernel_rfl,by kernel_rfl⟩
theorem e1214:EntryOk Tryz.prog fid 11 (.fn d1214):=⟨Tryz.f11,Tryz.f11.body.getD .skip,by kernel_rfl,by kernel_rfl,by kernel_rfl,⟨by kernel_rfl,by kernel_rfl,fun _=>by kernel_rfl⟩,by kernel_rfl,by kernel_rfl⟩
theorem e1277:EntryOk Tryz.prog fid 12 (.fn d1277):=⟨Tryz.f12,Tryz.f12.body.getD .skip,by kernel_rfl,by kernel_rfl,by kernel_rfl,⟨by kernel_rfl,by kernel_rfl,fun _=>by kernel_rfl⟩,by kernel_rfl,by kernel_rfl⟩
theorem e1218:EntryOk Tryz.prog fid 13 (.fn d1218):=⟨Tryz.f13,Tryz.f13.body.getD .skip,by kernel_rfl,by kernel_rfl,by kernel_rfl,⟨by kernel_rfl,by kernel_rfl,fun _=>by kernel_rfl⟩,by kernel_rfl,by kernel_rfl⟩
theorem e1278:EntryOk Tryz.prog fid 14 (.fn d1278):=⟨Tryz.f14,Tryz.f14.body.getD .skip,by kernel_rfl,by kernel_rfl,by kernel_rfl,⟨by kernel_rfl,by kernel_rfl,fun _=>by kernel_rfl⟩,by kernel_rfl,by kernel_rfl⟩
theorem e1216:EntryOk Tryz.prog fid 15 (.fn d1216):=⟨Tryz.f15,Tryz.f15.body.getD .skip,by kernel_rfl,by kernel_rfl,by kernel_rfl,⟨by kernel_rfl,by kernel_rfl,fun _=>by kernel_rfl⟩,by kernel_rfl,by kernel_rfl⟩
theorem e1208:EntryOk Tryz.prog fid 16 (.fn d1208):=⟨Tryz.f16,Tryz.f16.body.getD .skip,by kernel_rfl,by kernel_rfl,by kernel_rfl,⟨by kernel_rfl,by kernel_rfl,fun _=>by kernel_rfl⟩,by kernel_rfl,by kernel_rfl⟩
theorem e1556:EntryOk Tryz.prog fid 17 (.fn d1556):=⟨Tryz.f17,Tryz.f17.body.getD .skip,by kernel_rfl,by kernel_rfl,by kernel_rfl,⟨by kernel_rfl,by kernel_rfl,fun _=>by kernel_rfl⟩,by kernel_rfl,by kernel_rfl⟩
theorem e1557:EntryOk Tryz.prog fid 18 (.fn d1557):=⟨Tryz.f18,Tryz.f18.body.getD .skip,by kernel_rfl,by kernel_rfl,by kernel_rfl,⟨by kernel_rfl,by kernel_rfl,fun _=>by kernel_rfl⟩,by kernel_rfl,by kernel_rfl⟩
theorem e1558:EntryOk Tryz.prog fid 19 (.fn d1558):=⟨Tryz.f19,Tryz.f19.body.getD .skip,by kernel_rfl,by kernel_rfl,by kernel_rfl,⟨by kernel_rfl,by kernel_rfl,fun _=>by kernel_rfl⟩,by kernel_rfl,by kernel_rfl⟩
theorem e1559:EntryOk Tryz.prog fid 20 (.fn d1559):=⟨Tryz.f20,Tryz.f20.body.getD .skip,by kernel_rfl,by kernel_rfl,by kernel_rfl,⟨by kernel_rfl,by kernel_rfl,fun _=>by kernel_rfl⟩,by kernel_rfl,by kernel_rfl⟩
theorem e1560:EntryOk Tryz.prog fid 21 (.fn d1560):=⟨Tryz.f21,Tryz.f21.body.getD .skip,by kernel_rfl,by kernel_rfl,by kernel_rfl,⟨by kernel_rfl,by kernel_rfl,fun _=>by kernel_rfl⟩,by kernel_rfl,by kernel_rfl⟩
theorem e1016:EntryOk Tryz.prog fid 22 (.fn d1016):=⟨Tryz.f22,Tryz.f22.body.getD .skip,by kernel_rfl,by kernel_rfl,by kernel_rfl,⟨by kernel_rfl,by kernel_rfl,fun _=>by kernel_rfl⟩,by kernel_rfl,by kernel_rfl⟩
theorem e1024:EntryOk Tryz.prog fid 23 (.orc (cloneG 1 8)):=clone_ok (f:=23) (fn:=Tryz.f23) (c:=Tryz.f23.body.getD .skip) (z:=[.int .i64 0]) (by kernel_rfl) (by kernel_rfl) (by kernel_rfl) ⟨by kernel_rfl,by kernel_rfl,fun _=>by kernel_rfl⟩ (by kernel_rfl)
theorem e1222:EntryOk Tryz.prog fid 24 (.fn d1222):=⟨Tryz.f24,Tryz.f24.body.getD .skip,by kernel_rfl,by kernel_rfl,by kernel_rfl,⟨by kernel_rfl,by kernel_rfl,fun _=>by kernel_rfl⟩,by kernel_rfl,by kernel_rfl⟩
theorem e1561:EntryOk Tryz.prog fid 25 (.fn d1561):=⟨Tryz.f25,Tryz.f25.body.getD .skip,by kernel_rfl,by kernel_rfl,by kernel_rfl,⟨by kernel_rfl,by kernel_rfl,fun _=>by kernel_rfl⟩,by kernel_rfl,by kernel_rfl⟩
theorem e1220:EntryOk Tryz.prog fid 26 (.fn d1220):=⟨Tryz.f26,Tryz.f26.body.getD .skip,by kernel_rfl,by kernel_rfl,by kernel_rfl,⟨by kernel_rfl,by kernel_rfl,fun _=>by kernel_rfl⟩,by kernel_rfl,by kernel_rfl⟩
theorem e1221:EntryOk Tryz.prog fid 27 (.fn d1221):=⟨Tryz.f27,Tryz.f27.body.getD .skip,by kernel_rfl,by kernel_rfl,by kernel_rfl,⟨by kernel_rfl,by kernel_rfl,fun _=>by kernel_rfl⟩,by kernel_rfl,by kernel_rfl⟩
theorem e1104:EntryOk Tryz.prog fid 28 (.orc (cloneG 1 16)):=clone_ok (f:=28) (fn:=Tryz.f28) (c:=Tryz.f28.body.getD .skip) (z:=[.str []]) (by kernel_rfl) (by kernel_rfl) (by kernel_rfl) ⟨by kernel_rfl,by kernel_rfl,fun _=>by kernel_rfl⟩ (by kernel_rfl)
theorem e1282:EntryOk Tryz.prog fid 29 (.fn d1282):=⟨Tryz.f29,Tryz.f29.body.getD .skip,by kernel_rfl,by kernel_rfl,by kernel_rfl,⟨by kernel_rfl,by kernel_rfl,fun _=>by kernel_rfl⟩,by kernel_rfl,by kernel_rfl⟩
theorem e1224:EntryOk Tryz.prog fid 30 (.fn d1224):=⟨Tryz.f30,Tryz.f30.body.getD .skip,by kernel_rfl,by kernel_rfl,by kernel_rfl,⟨by kernel_rfl,by kernel_rfl,fun _=>by kernel_rfl⟩,by kernel_rfl,by kernel_rfl⟩
theorem e1283:EntryOk Tryz.prog fid 31 (.orc (cloneG 2 16)):=clone_ok (f:=31) (fn:=Tryz.f31) (c:=Tryz.f31.body.getD .skip) (z:=[.int .i64 0,.int .i64 0]) (by kernel_rfl) (by kernel_rfl) (by kernel_rfl) ⟨by kernel_rfl,by kernel_rfl,fun _=>by kernel_rfl⟩ (by kernel_rfl)
theorem e1284:EntryOk Tryz.prog fid 32 (.fn d1284):=⟨Tryz.f32,Tryz.f32.body.getD .skip,by kernel_rfl,by kernel_rfl,by kernel_rfl,⟨by kernel_rfl,by kernel_rfl,fun _=>by kernel_rfl⟩,by kernel_rfl,by kernel_rfl⟩
theorem e1223:EntryOk Tryz.prog fid 33 (.fn d1223):=⟨Tryz.f33,Tryz.f33.body.getD .skip,by kernel_rfl,by kernel_rfl,by kernel_rfl,⟨by kernel_rfl,by kernel_rfl,fun _=>by kernel_rfl⟩,by kernel_rfl,by kernel_rfl⟩
theorem e1060:EntryOk Tryz.prog fid 34 (.fn d1060):=⟨Tryz.f34,Tryz.f34.body.getD .skip,by kernel_rfl,by kernel_rfl,by kernel_rfl,⟨by kernel_rfl,by kernel_rfl,fun _=>by kernel_rfl⟩,by kernel_rfl,by kernel_rfl⟩
theorem e1061:EntryOk Tryz.prog fid 35 (.fn d1061):=⟨Tryz.f35,Tryz.f35.body.getD .skip,by kernel_rfl,by kernel_rfl,by kernel_rfl,⟨by kernel_rfl,by kernel_rfl,fun _=>by kernel_rfl⟩,by kernel_rfl,by kernel_rfl⟩
theorem e1215:EntryOk Tryz.prog fid 36 (.fn d1215):=⟨Tryz.f36,Tryz.f36.body.getD .skip,by kernel_rfl,by kernel_rfl,by kernel_rfl,⟨by kernel_rfl,by kernel_rfl,fun _=>by kernel_rfl⟩,by kernel_rfl,by kernel_rfl⟩
theorem e1217:EntryOk Tryz.prog fid 37 (.fn d1217):=⟨Tryz.f37,Tryz.f37.body.getD .skip,by kernel_rfl,by kernel_rfl,by kernel_rfl,⟨by kernel_rfl,by kernel_rfl,fun _=>by kernel_rfl⟩,by kernel_rfl,by kernel_rfl⟩
theorem e1562:EntryOk Tryz.prog fid 38 (.fn d1562):=⟨Tryz.f38,Tryz.f38.body.getD .skip,by kernel_rfl,by kernel_rfl,by kernel_rfl,⟨by kernel_rfl,by kernel_rfl,fun _=>by kernel_rfl⟩,by kernel_rfl,by kernel_rfl⟩
theorem e1563:EntryOk Tryz.prog fid 39 (.fn d1563):=⟨Tryz.f39,Tryz.f39.body.getD .skip,by kernel_rfl,by kernel_rfl,by kernel_rfl,⟨by kernel_rfl,by kernel_rfl,fun _=>by kernel_rfl⟩,by kernel_rfl,by kernel_rfl⟩
theorem e1564:EntryOk Tryz.prog fid 40 (.fn d1564):=⟨Tryz.f40,Tryz.f40.body.getD .skip,by kernel_rfl,by kernel_rfl,by kernel_rfl,⟨by kernel_rfl,by kernel_rfl,fun _=>by kernel_rfl⟩,by kernel_rfl,by kernel_rfl⟩
theorem e1565:EntryOk Tryz.prog fid 41 (.fn d1565):=⟨Tryz.f41,Tryz.f41.body.getD .skip,by kernel_rfl,by kernel_rfl,by kernel_rfl,⟨by kernel_rfl,by kernel_rfl,fun _=>by kernel_rfl⟩,by kernel_rfl,by kernel_rfl⟩
theorem e1566:EntryOk Tryz.prog fid 42 (.fn d1566):=⟨Tryz.f42,Tryz.f42.body.getD .skip,by kernel_rfl,by kernel_rfl,by kernel_rfl,⟨by kernel_rfl,by kernel_rfl,fun _=>by kernel_rfl⟩,by kernel_rfl,by kernel_rfl⟩
theorem e1567:EntryOk Tryz.prog fid 43 (.fn d1567):=⟨Tryz.f43,Tryz.f43.body.getD .skip,by kernel_rfl,by kernel_rfl,by kernel_rfl,⟨by kernel_rfl,by kernel_rfl,fun _=>by kernel_rfl⟩,by kernel_rfl,by kernel_rfl⟩
theorem e1568:EntryOk Tryz.prog fid 44 (.fn d1568):=⟨Tryz.f44,Tryz.f44.body.getD .skip,by kernel_rfl,by kernel_rfl,by kernel_rfl,⟨by kernel_rfl,by kernel_rfl,fun _=>by kernel_rfl⟩,by kernel_rfl,by kernel_rfl⟩
theorem e1285:EntryOk Tryz.prog fid 45 (.fn d1285):=⟨Tryz.f45,Tryz.f45.body.getD .skip,by kernel_rfl,by kernel_rfl,by kernel_rfl,⟨by kernel_rfl,by kernel_rfl,fun _=>by kernel_rfl⟩,by kernel_rfl,by kernel_rfl⟩
theorem e1059:EntryOk Tryz.prog fid 46 (.fn d1059):=⟨Tryz.f46,Tryz.f46.body.getD .skip,by kernel_rfl,by kernel_rfl,by kernel_rfl,⟨by kernel_rfl,by kernel_rfl,fun _=>by kernel_rfl⟩,by kernel_rfl,by kernel_rfl⟩
theorem e1225:EntryOk Tryz.prog fid 47 (.orc cmpG):=cmp_ok fid
theorem e1286:EntryOk Tryz.prog fid 48 (.fn d1286):=⟨Tryz.f48,Tryz.f48.body.getD .skip,by kernel_rfl,by kernel_rfl,by kernel_rfl,⟨by kernel_rfl,by kernel_rfl,fun _=>by kernel_rfl⟩,by kernel_rfl,by kernel_rfl⟩
theorem e1072:EntryOk Tryz.prog fid 49 (.fn d1072):=⟨Tryz.f49,Tryz.f49.body.getD .skip,by kernel_rfl,by kernel_rfl,by kernel_rfl,⟨by kernel_rfl,by kernel_rfl,fun _=>by kernel_rfl⟩,by kernel_rfl,by kernel_rfl⟩
theorem e1569:EntryOk Tryz.prog fid 50 (.fn d1569):=⟨Tryz.f50,Tryz.f50.body.getD .skip,by kernel_rfl,by kernel_rfl,by kernel_rfl,⟨by kernel_rfl,by kernel_rfl,fun _=>by kernel_rfl⟩,by kernel_rfl,by kernel_rfl⟩
theorem e1570:EntryOk Tryz.prog fid 51 (.fn d1570):=⟨Tryz.f51,Tryz.f51.body.getD .skip,by kernel_rfl,by kernel_rfl,by kernel_rfl,⟨by kernel_rfl,by kernel_rfl,fun _=>by kernel_rfl⟩,by kernel_rfl,by kernel_rfl⟩
theorem e1358:EntryOk Tryz.prog fid 52 (.fn d1358):=⟨Tryz.f52,Tryz.f52.body.getD .skip,by kernel_rfl,by kernel_rfl,by kernel_rfl,⟨by kernel_rfl,by kernel_rfl,fun _=>by kernel_rfl⟩,by kernel_rfl,by kernel_rfl⟩
theorem e1571:EntryOk Tryz.prog fid 53 (.fn d1571):=⟨Tryz.f53,Tryz.f53.body.getD .skip,by kernel_rfl,by kernel_rfl,by kernel_rfl,⟨by kernel_rfl,by kernel_rfl,fun _=>by kernel_rfl⟩,by kernel_rfl,by kernel_rfl⟩
theorem e1572:EntryOk Tryz.prog fid 54 (.fn d1572):=⟨Tryz.f54,Tryz.f54.body.getD .skip,by kernel_rfl,by kernel_rfl,by kernel_rfl,⟨by kernel_rfl,by kernel_rfl,fun _=>by kernel_rfl⟩,by kernel_rfl,by kernel_rfl⟩
theorem e1573:EntryOk Tryz.prog fid 55 (.fn d1573):=⟨Tryz.f55,Tryz.f55.body.getD .skip,by kernel_rfl,by kernel_rfl,by kernel_rfl,⟨by kernel_rfl,by kernel_rfl,fun _=>by kernel_rfl⟩,by kernel_rfl,by kernel_rfl⟩
theorem e1287:EntryOk Tryz.prog fid 56 (.fn d1287):=⟨Tryz.f56,Tryz.f56.body.getD .skip,by kernel_rfl,by kernel_rfl,by kernel_rfl,⟨by kernel_rfl,by kernel_rfl,fun _=>by kernel_rfl⟩,by kernel_rfl,by kernel_rfl⟩
theorem e1288:EntryOk Tryz.prog fid 57 (.fn d1288):=⟨Tryz.f57,Tryz.f57.body.getD .skip,by kernel_rfl,by kernel_rfl,by kernel_rfl,⟨by kernel_rfl,by kernel_rfl,fun _=>by kernel_rfl⟩,by kernel_rfl,by kernel_rfl⟩
theorem e1289:EntryOk Tryz.prog fid 58 (.fn d1289):=⟨Tryz.f58,Tryz.f58.body.getD .skip,by kernel_rfl,by kernel_rfl,by kernel_rfl,⟨by kernel_rfl,by kernel_rfl,fun _=>by kernel_rfl⟩,by kernel_rfl,by kernel_rfl⟩
theorem e1290:EntryOk Tryz.prog fid 59 (.fn d1290):=⟨Tryz.f59,Tryz.f59.body.getD .skip,by kernel_rfl,by kernel_rfl,by kernel_rfl,⟨by kernel_rfl,by kernel_rfl,fun _=>by kernel_rfl⟩,by kernel_rfl,by kernel_rfl⟩
theorem e1291:EntryOk Tryz.prog fid 60 (.fn d1291):=⟨Tryz.f60,Tryz.f60.body.getD .skip,by kernel_rfl,by kernel_rfl,by kernel_rfl,⟨by kernel_rfl,by kernel_rfl,fun _=>by kernel_rfl⟩,by kernel_rfl,by kernel_rfl⟩
theorem e1292:EntryOk Tryz.prog fid 61 (.fn d1292):=⟨Tryz.f61,Tryz.f61.body.getD .skip,by kernel_rfl,by kernel_rfl,by kernel_rfl,⟨by kernel_rfl,by kernel_rfl,fun _=>by kernel_rfl⟩,by kernel_rfl,by kernel_rfl⟩
theorem e1293:EntryOk Tryz.prog fid 62 (.fn d1293):=⟨Tryz.f62,Tryz.f62.body.getD .skip,by kernel_rfl,by kernel_rfl,by kernel_rfl,⟨by kernel_rfl,by kernel_rfl,fun _=>by kernel_rfl⟩,by kernel_rfl,by kernel_rfl⟩
theorem e1294:EntryOk Tryz.prog fid 63 (.fn d1294):=⟨Tryz.f63,Tryz.f63.body.getD .skip,by kernel_rfl,by kernel_rfl,by kernel_rfl,⟨by kernel_rfl,by kernel_rfl,fun _=>by kernel_rfl⟩,by kernel_rfl,by kernel_rfl⟩
theorem e1070:EntryOk Tryz.prog fid 64 (.fn d1070):=⟨Tryz.f64,Tryz.f64.body.getD .skip,by kernel_rfl,by kernel_rfl,by kernel_rfl,⟨by kernel_rfl,by kernel_rfl,fun _=>by kernel_rfl⟩,by kernel_rfl,by kernel_rfl⟩
theorem e1071:EntryOk Tryz.prog fid 65 (.fn d1071):=⟨Tryz.f65,Tryz.f65.body.getD .skip,by kernel_rfl,by kernel_rfl,by kernel_rfl,⟨by kernel_rfl,by kernel_rfl,fun _=>by kernel_rfl⟩,by kernel_rfl,by kernel_rfl⟩
theorem e1295:EntryOk Tryz.prog fid 67 (.fn d1295):=⟨Tryz.f67,Tryz.f67.body.getD .skip,by kernel_rfl,by kernel_rfl,by kernel_rfl,⟨by kernel_rfl,by kernel_rfl,fun _=>by kernel_rfl⟩,by kernel_rfl,by kernel_rfl⟩
theorem e1296:EntryOk Tryz.prog fid 68 (.fn d1296):=⟨Tryz.f68,Tryz.f68.body.getD .skip,by kernel_rfl,by kernel_rfl,by kernel_rfl,⟨by kernel_rfl,by kernel_rfl,fun _=>by kernel_rfl⟩,by kernel_rfl,by kernel_rfl⟩
theorem e1297:EntryOk Tryz.prog fid 69 (.fn d1297):=⟨Tryz.f69,Tryz.f69.body.getD .skip,by kernel_rfl,by kernel_rfl,by kernel_rfl,⟨by kernel_rfl,by kernel_rfl,fun _=>by kernel_rfl⟩,by kernel_rfl,by kernel_rfl⟩
theorem e1298:EntryOk Tryz.prog fid 70 (.fn d1298):=⟨Tryz.f70,Tryz.f70.body.getD .skip,by kernel_rfl,by kernel_rfl,by kernel_rfl,⟨by kernel_rfl,by kernel_rfl,fun _=>by kernel_rfl⟩,by kernel_rfl,by kernel_rfl⟩
theorem e1299:EntryOk Tryz.prog fid 71 (.fn d1299):=⟨Tryz.f71,Tryz.f71.body.getD .skip,by kernel_rfl,by kernel_rfl,by kernel_rfl,⟨by kernel_rfl,by kernel_rfl,fun _=>by kernel_rfl⟩,by kernel_rfl,by kernel_rfl⟩
theorem e1300:EntryOk Tryz.prog fid 72 (.fn d1300):=⟨Tryz.f72,Tryz.f72.body.getD .skip,by kernel_rfl,by kernel_rfl,by kernel_rfl,⟨by kernel_rfl,by kernel_rfl,fun _=>by kernel_rfl⟩,by kernel_rfl,by kernel_rfl⟩
theorem e1301:EntryOk Tryz.prog fid 73 (.fn d1301):=⟨Tryz.f73,Tryz.f73.body.getD .skip,by kernel_rfl,by kernel_rfl,by kernel_rfl,⟨by kernel_rfl,by kernel_rfl,fun _=>by kernel_rfl⟩,by kernel_rfl,by kernel_rfl⟩
theorem e1302:EntryOk Tryz.prog fid 74 (.fn d1302):=⟨Tryz.f74,Tryz.f74.body.getD .skip,by kernel_rfl,by kernel_rfl,by kernel_rfl,⟨by kernel_rfl,by kernel_rfl,fun _=>by kernel_rfl⟩,by kernel_rfl,by kernel_rfl⟩
theorem e1574:EntryOk Tryz.prog fid 75 (.fn d1574):=⟨Tryz.f75,Tryz.f75.body.getD .skip,by kernel_rfl,by kernel_rfl,by kernel_rfl,⟨by kernel_rfl,by kernel_rfl,fun _=>by kernel_rfl⟩,by kernel_rfl,by kernel_rfl⟩
theorem e1575:EntryOk Tryz.prog fid 76 (.fn d1575):=⟨Tryz.f76,Tryz.f76.body.getD .skip,by kernel_rfl,by kernel_rfl,by kernel_rfl,⟨by kernel_rfl,by kernel_rfl,fun _=>by kernel_rfl⟩,by kernel_rfl,by kernel_rfl⟩
theorem e1576:EntryOk Tryz.prog fid 77 (.fn d1576):=⟨Tryz.f77,Tryz.f77.body.getD .skip,by kernel_rfl,by kernel_rfl,by kernel_rfl,⟨by kernel_rfl,by kernel_rfl,fun _=>by kernel_rfl⟩,by kernel_rfl,by kernel_rfl⟩
theorem e1577:EntryOk Tryz.prog fid 78 (.fn d1577):=⟨Tryz.f78,Tryz.f78.body.getD .skip,by kernel_rfl,by kernel_rfl,by kernel_rfl,⟨by kernel_rfl,by kernel_rfl,fun _=>by kernel_rfl⟩,by kernel_rfl,by kernel_rfl⟩
theorem e1578:EntryOk Tryz.prog fid 79 (.fn d1578):=⟨Tryz.f79,Tryz.f79.body.getD .skip,by kernel_rfl,by kernel_rfl,by kernel_rfl,⟨by kernel_rfl,by kernel_rfl,fun _=>by kernel_rfl⟩,by kernel_rfl,by kernel_rfl⟩
theorem e1579:EntryOk Tryz.prog fid 80 (.fn d1579):=⟨Tryz.f80,Tryz.f80.body.getD .skip,by kernel_rfl,by kernel_rfl,by kernel_rfl,⟨by kernel_rfl,by kernel_rfl,fun _=>by kernel_rfl⟩,by kernel_rfl,by kernel_rfl⟩
theorem e1580:EntryOk Tryz.prog fid 81 (.fn d1580):=⟨Tryz.f81,Tryz.f81.body.getD .skip,by kernel_rfl,by kernel_rfl,by kernel_rfl,⟨by kernel_rfl,by kernel_rfl,fun _=>by kernel_rfl⟩,by kernel_rfl,by kernel_rfl⟩
theorem e1581:EntryOk Tryz.prog fid 82 (.fn d1581):=⟨Tryz.f82,Tryz.f82.body.getD .skip,by kernel_rfl,by kernel_rfl,by kernel_rfl,⟨by kernel_rfl,by kernel_rfl,fun _=>by kernel_rfl⟩,by kernel_rfl,by kernel_rfl⟩
theorem e1582:EntryOk Tryz.prog fid 83 (.fn d1582):=⟨Tryz.f83,Tryz.f83.body.getD .skip,by kernel_rfl,by kernel_rfl,by kernel_rfl,⟨by kernel_rfl,by kernel_rfl,fun _=>by kernel_rfl⟩,by kernel_rfl,by kernel_rfl⟩
theorem e1372:EntryOk Tryz.prog fid 84 (.fn d1372):=⟨Tryz.f84,Tryz.f84.body.getD .skip,by kernel_rfl,by kernel_rfl,by kernel_rfl,⟨by kernel_rfl,by kernel_rfl,fun _=>by kernel_rfl⟩,by kernel_rfl,by kernel_rfl⟩
theorem e1583:EntryOk Tryz.prog fid 85 (.fn d1583):=⟨Tryz.f85,Tryz.f85.body.getD .skip,by kernel_rfl,by kernel_rfl,by kernel_rfl,⟨by kernel_rfl,by kernel_rfl,fun _=>by kernel_rfl⟩,by kernel_rfl,by kernel_rfl⟩
theorem e1303:EntryOk Tryz.prog fid 86 (.fn d1303):=⟨Tryz.f86,Tryz.f86.body.getD .skip,by kernel_rfl,by kernel_rfl,by kernel_rfl,⟨by kernel_rfl,by kernel_rfl,fun _=>by kernel_rfl⟩,by kernel_rfl,by kernel_rfl⟩
theorem e1074:EntryOk Tryz.prog fid 87 (.fn d1074):=⟨Tryz.f87,Tryz.f87.body.getD .skip,by kernel_rfl,by kernel_rfl,by kernel_rfl,⟨by kernel_rfl,by kernel_rfl,fun _=>by kernel_rfl⟩,by kernel_rfl,by kernel_rfl⟩
theorem e1075:EntryOk Tryz.prog fid 88 (.fn d1075):=⟨Tryz.f88,Tryz.f88.body.getD .skip,by kernel_rfl,by kernel_rfl,by kernel_rfl,⟨by kernel_rfl,by kernel_rfl,fun _=>by kernel_rfl⟩,by kernel_rfl,by kernel_rfl⟩
theorem e1304:EntryOk Tryz.prog fid 89 (.fn d1304):=⟨Tryz.f89,Tryz.f89.body.getD .skip,by kernel_rfl,by kernel_rfl,by kernel_rfl,⟨by kernel_rfl,by kernel_rfl,fun _=>by kernel_rfl⟩,by kernel_rfl,by kernel_rfl⟩
theorem e1305:EntryOk Tryz.prog fid 90 (.fn d1305):=⟨Tryz.f90,Tryz.f90.body.getD .skip,by kernel_rfl,by kernel_rfl,by kernel_rfl,⟨by kernel_rfl,by kernel_rfl,fun _=>by kernel_rfl⟩,by kernel_rfl,by kernel_rfl⟩
theorem e1306:EntryOk Tryz.prog fid 91 (.fn d1306):=⟨Tryz.f91,Tryz.f91.body.getD .skip,by kernel_rfl,by kernel_rfl,by kernel_rfl,⟨by kernel_rfl,by kernel_rfl,fun _=>by kernel_rfl⟩,by kernel_rfl,by kernel_rfl⟩
theorem e1307:EntryOk Tryz.prog fid 92 (.fn d1307):=⟨Tryz.f92,Tryz.f92.body.getD .skip,by kernel_rfl,by kernel_rfl,by kernel_rfl,⟨by kernel_rfl,by kernel_rfl,fun _=>by kernel_rfl⟩,by kernel_rfl,by kernel_rfl⟩
theorem e1308:EntryOk Tryz.prog fid 93 (.fn d1308):=⟨Tryz.f93,Tryz.f93.body.getD .skip,by kernel_rfl,by kernel_rfl,by kernel_rfl,⟨by kernel_rfl,by kernel_rfl,fun _=>by kernel_rfl⟩,by kernel_rfl,by kernel_rfl⟩
theorem e1584:EntryOk Tryz.prog fid 94 (.fn d1584):=⟨Tryz.f94,Tryz.f94.body.getD .skip,by kernel_rfl,by kernel_rfl,by kernel_rfl,⟨by kernel_rfl,by kernel_rfl,fun _=>by kernel_rfl⟩,by kernel_rfl,by kernel_rfl⟩
theorem e1585:EntryOk Tryz.prog fid 95 (.fn d1585):=⟨Tryz.f95,Tryz.f95.body.getD .skip,by kernel_rfl,by kernel_rfl,by kernel_rfl,⟨by kernel_rfl,by kernel_rfl,fun _=>by kernel_rfl⟩,by kernel_rfl,by kernel_rfl⟩
theorem e1586:EntryOk Tryz.prog fid 96 (.fn d1586):=⟨Tryz.f96,Tryz.f96.body.getD .skip,by kernel_rfl,by kernel_rfl,by kernel_rfl,⟨by kernel_rfl,by kernel_rfl,fun _=>by kernel_rfl⟩,by kernel_rfl,by kernel_rfl⟩
theorem e1587:EntryOk Tryz.prog fid 97 (.fn d1587):=⟨Tryz.f97,Tryz.f97.body.getD .skip,by kernel_rfl,by kernel_rfl,by kernel_rfl,⟨by kernel_rfl,by kernel_rfl,fun _=>by kernel_rfl⟩,by kernel_rfl,by kernel_rfl⟩
theorem e1379:EntryOk Tryz.prog fid 98 (.fn d1379):=⟨Tryz.f98,Tryz.f98.body.getD .skip,by kernel_rfl,by kernel_rfl,by kernel_rfl,⟨by kernel_rfl,by kernel_rfl,fun _=>by kernel_rfl⟩,by kernel_rfl,by kernel_rfl⟩
theorem e1380:EntryOk Tryz.prog fid 99 (.fn d1380):=⟨Tryz.f99,Tryz.f99.body.getD .skip,by kernel_rfl,by kernel_rfl,by kernel_rfl,⟨by kernel_rfl,by kernel_rfl,fun _=>by kernel_rfl⟩,by kernel_rfl,by kernel_rfl⟩
theorem e1381:EntryOk Tryz.prog fid 100 (.fn d1381):=⟨Tryz.f100,Tryz.f100.body.getD .skip,by kernel_rfl,by kernel_rfl,by kernel_rfl,⟨by kernel_rfl,by kernel_rfl,fun _=>by kernel_rfl⟩,by kernel_rfl,by kernel_rfl⟩
theorem e1382:EntryOk Tryz.prog fid 101 (.fn d1382):=⟨Tryz.f101,Tryz.f101.body.getD .skip,by kernel_rfl,by kernel_rfl,by kernel_rfl,⟨by kernel_rfl,by kernel_rfl,fun _=>by kernel_rfl⟩,by kernel_rfl,by kernel_rfl⟩
theorem e1383:EntryOk Tryz.prog fid 102 (.fn d1383):=⟨Tryz.f102,Tryz.f102.body.getD .skip,by kernel_rfl,by kernel_rfl,by kernel_rfl,⟨by kernel_rfl,by kernel_rfl,fun _=>by kernel_rfl⟩,by kernel_rfl,by kernel_rfl⟩
theorem e1384:EntryOk Tryz.prog fid 103 (.fn d1384):=⟨Tryz.f103,Tryz.f103.body.getD .skip,by kernel_rfl,by kernel_rfl,by kernel_rfl,⟨by kernel_rfl,by kernel_rfl,fun _=>by kernel_rfl⟩,by kernel_rfl,by kernel_rfl⟩
theorem e1219:EntryOk Tryz.prog fid 104 (.fn d1219):=⟨Tryz.f104,Tryz.f104.body.getD .skip,by kernel_rfl,by kernel_rfl,by kernel_rfl,⟨by kernel_rfl,by kernel_rfl,fun _=>by kernel_rfl⟩,by kernel_rfl,by kernel_rfl⟩
theorem e1385:EntryOk Tryz.prog fid 105 (.fn d1385):=⟨Tryz.f105,Tryz.f105.body.getD .skip,by kernel_rfl,by kernel_rfl,by kernel_rfl,⟨by kernel_rfl,by kernel_rfl,fun _=>by kernel_rfl⟩,by kernel_rfl,by kernel_rfl⟩
theorem e1386:EntryOk Tryz.prog fid 106 (.fn d1386):=⟨Tryz.f106,Tryz.f106.body.getD .skip,by kernel_rfl,by kernel_rfl,by kernel_rfl,⟨by kernel_rfl,by kernel_rfl,fun _=>by kernel_rfl⟩,by kernel_rfl,by kernel_rfl⟩
theorem e1309:EntryOk Tryz.prog fid 107 (.fn d1309):=⟨Tryz.f107,Tryz.f107.body.getD .skip,by kernel_rfl,by kernel_rfl,by kernel_rfl,⟨by kernel_rfl,by kernel_rfl,fun _=>by kernel_rfl⟩,by kernel_rfl,by kernel_rfl⟩
theorem e1310:EntryOk Tryz.prog fid 108 (.fn d1310):=⟨Tryz.f108,Tryz.f108.body.getD .skip,by kernel_rfl,by kernel_rfl,by kernel_rfl,⟨by kernel_rfl,by kernel_rfl,fun _=>by kernel_rfl⟩,by kernel_rfl,by kernel_rfl⟩
theorem e1588:EntryOk Tryz.prog fid 109 (.fn d1588):=⟨Tryz.f109,Tryz.f109.body.getD .skip,by kernel_rfl,by kernel_rfl,by kernel_rfl,⟨by kernel_rfl,by kernel_rfl,fun _=>by kernel_rfl⟩,by kernel_rfl,by kernel_rfl⟩
theorem e1389:EntryOk Tryz.prog fid 110 (.fn d1389):=⟨Tryz.f110,Tryz.f110.body.getD .skip,by kernel_rfl,by kernel_rfl,by kernel_rfl,⟨by kernel_rfl,by kernel_rfl,fun _=>by kernel_rfl⟩,by kernel_rfl,by kernel_rfl⟩
theorem e1390:EntryOk Tryz.prog fid 111 (.fn d1390):=⟨Tryz.f111,Tryz.f111.body.getD .skip,by kernel_rfl,by kernel_rfl,by kernel_rfl,⟨by kernel_rfl,by kernel_rfl,fun _=>by kernel_rfl⟩,by kernel_rfl,by kernel_rfl⟩
theorem e1391:EntryOk Tryz.prog fid 112 (.fn d1391):=⟨Tryz.f112,Tryz.f112.body.getD .skip,by kernel_rfl,by kernel_rfl,by kernel_rfl,⟨by kernel_rfl,by kernel_rfl,fun _=>by kernel_rfl⟩,by kernel_rfl,by kernel_rfl⟩
theorem e1392:EntryOk Tryz.prog fid 113 (.fn d1392):=⟨Tryz.f113,Tryz.f113.body.getD .skip,by kernel_rfl,by kernel_rfl,by kernel_rfl,⟨by kernel_rfl,by kernel_rfl,fun _=>by kernel_rfl⟩,by kernel_rfl,by kernel_rfl⟩
theorem fid_mem:∀ {l:List (Nat × Nat)} {f k:Nat},l.lookup f=some k→(f,k)∈l
 | [],_,_,h=>by cases h
 | (a,b)::l,f,k,h=>by
  rw [List.lookup_cons] at h
  split at h
  ·rename_i hf
   injection h with h
   subst h
   rw [show f=a by simpa using hf]
   exact List.mem_cons_self
  ·exact List.mem_cons_of_mem _ (fid_mem h)
def AllOk:List (Nat × Nat)→Prop
 | []=>True
 |p::l=>(∀ e,tab p.2=some e→EntryOk Tryz.prog fid p.1 e)∧AllOk l
theorem all_mem:∀ {l:List (Nat × Nat)},AllOk l→∀ p∈l,∀ e,tab p.2=some e→EntryOk Tryz.prog fid p.1 e
 |_::_,h,p,hp=>by
  rcases List.mem_cons.1 hp with rfl | hp
  ·exact h.1
  ·exact all_mem h.2 p hp
theorem one_ok {f k:Nat} {d:Entry} (h:tab k=some d) (e:EntryOk Tryz.prog fid f d):∀ x,tab k=some x→EntryOk Tryz.prog fid f x:=by
 intro x hx
 rw [h] at hx
 injection hx with hx
 exact hx ▸ e
theorem none_ok {f k:Nat} (h:tab k=none):∀ x,tab k=some x→EntryOk Tryz.prog fid f x:=by
 intro x hx
 rw [h] at hx
 cases hx
theorem all_ok:AllOk fidL:=⟨one_ok t1551 e1551,one_ok t1263 e1263,one_ok t1265 e1265,one_ok t1552 e1552,one_ok t1553 e1553,one_ok t1554 e1554,one_ok t1020 e1020,one_ok t1555 e1555,one_ok t1214 e1214,one_ok t1277 e1277,one_ok t1218 e1218,one_ok t1278 e1278,one_ok t1216 e1216,one_ok t1208 e1208,none_ok nd1556,one_ok t1557 e1557,one_ok t1558 e1558,one_ok t1559 e1559,one_ok t1560 e1560,one_ok t1016 e1016,one_ok t1024 e1024,one_ok t1222 e1222,one_ok t1561 e1561,one_ok t1220 e1220,one_ok t1221 e1221,one_ok t1104 e1104,one_ok t1282 e1282,one_ok t1224 e1224,one_ok t1283 e1283,one_ok t1284 e1284,one_ok t1223 e1223,one_ok t1060 e1060,one_ok t1061 e1061,one_ok t1215 e1215,one_ok t1217 e1217,none_ok nd1562,one_ok t1563 e1563,none_ok nd1564,one_ok t1565 e1565,one_ok t1566 e1566,one_ok t1567 e1567,one_ok t1568 e1568,one_ok t1285 e1285,one_ok t1059 e1059,one_ok t1225 e1225,one_ok t1286 e1286,one_ok t1072 e1072,none_ok nd1569,one_ok t1570 e1570,one_ok t1358 e1358,one_ok t1571 e1571,one_ok t1572 e1572,one_ok t1573 e1573,one_ok t1287 e1287,one_ok t1288 e1288,one_ok t1289 e1289,one_ok t1290 e1290,one_ok t1291 e1291,one_ok t1292 e1292,one_ok t1293 e1293,one_ok t1294 e1294,one_ok t1070 e1070,one_ok t1071 e1071,one_ok t1295 e1295,one_ok t1296 e1296,one_ok t1297 e1297,one_ok t1298 e1298,one_ok t1299 e1299,one_ok t1300 e1300,one_ok t1301 e1301,one_ok t1302 e1302,one_ok t1574 e1574,one_ok t1575 e1575,one_ok t1576 e1576,one_ok t1577 e1577,one_ok t1578 e1578,one_ok t1579 e1579,one_ok t1580 e1580,one_ok t1581 e1581,one_ok t1582 e1582,one_ok t1372 e1372,one_ok t1583 e1583,one_ok t1303 e1303,one_ok t1074 e1074,one_ok t1075 e1075,one_ok t1304 e1304,one_ok t1305 e1305,one_ok t1306 e1306,one_ok t1307 e1307,one_ok t1308 e1308,one_ok t1584 e1584,one_ok t1585 e1585,one_ok t1586 e1586,one_ok t1587 e1587,one_ok t1379 e1379,one_ok t1380 e1380,one_ok t1381 e1381,one_ok t1382 e1382,one_ok t1383 e1383,one_ok t1384 e1384,one_ok t1219 e1219,one_ok t1385 e1385,one_ok t1386 e1386,one_ok t1309 e1309,one_ok t1310 e1310,one_ok t1588 e1588,one_ok t1389 e1389,one_ok t1390 e1390,one_ok t1391 e1391,one_ok t1392 e1392,none_ok n1226,trivial⟩
theorem goodP:Good Tryz.prog fid tab:=fun f k e hf he=>all_mem all_ok (f,k) (fid_mem hf) e he
end Go.Proofs.YtmckpijdjoifoaaGreat
