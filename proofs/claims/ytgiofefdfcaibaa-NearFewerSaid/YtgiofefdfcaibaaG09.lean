import Derived.Test.YtgiofefdfcaibaaT09
import Derived.Test.YtgiofefdfcaibaaProg
import Derived.KernelRfl
import Derived.Test.YtgiofefdfcaibaaKcq
namespace Go.Proofs.Ytgiofefdfcaibaa
set_option linter.unusedSimpArgs false
set_option linter.unusedVariables false
set_option maxRecDepth 1000000
theorem e1683:EntryOk Try.prog fid 3 (.fn d1683):=⟨Try.f3,Try.f3.body.getD .skip,by kernel_rfl,by kernel_rfl,by kernel_rfl,⟨by kernel_rfl,by kernel_rfl,fun _=>by kernel_rfl⟩,by kernel_rfl,by kernel_rfl⟩
theorem e1684:EntryOk Try.prog fid 4 (.fn d1684):=⟨Try.f4,Try.f4.body.getD .skip,by kernel_rfl,by kernel_rfl,by kernel_rfl,⟨by kernel_rfl,by kernel_rfl,fun _=>by kernel_rfl⟩,by kernel_rfl,by kernel_rfl⟩
theorem e1685:EntryOk Try.prog fid 5 (.fn d1685):=⟨Try.f5,Try.f5.body.getD .skip,by kernel_rfl,by kernel_rfl,by kernel_rfl,⟨by kernel_rfl,by kernel_rfl,fun _=>by kernel_rfl⟩,by kernel_rfl,by kernel_rfl⟩
theorem e1686:EntryOk Try.prog fid 6 (.fn d1686):=⟨Try.f6,Try.f6.body.getD .skip,by kernel_rfl,by kernel_rfl,by kernel_rfl,⟨by kernel_rfl,by kernel_rfl,fun _=>by kernel_rfl⟩,by kernel_rfl,by kernel_rfl⟩
theorem e1687:EntryOk Try.prog fid 7 (.fn d1687):=⟨Try.f7,Try.f7.body.getD .skip,by kernel_rfl,by kernel_rfl,by kernel_rfl,⟨by kernel_rfl,by kernel_rfl,fun _=>by kernel_rfl⟩,by kernel_rfl,by kernel_rfl⟩
theorem e1558:EntryOk Try.prog fid 8 (.fn d1558):=⟨Try.f8,Try.f8.body.getD .skip,by kernel_rfl,by kernel_rfl,by kernel_rfl,⟨by kernel_rfl,by kernel_rfl,fun _=>by kernel_rfl⟩,by kernel_rfl,by kernel_rfl⟩
theorem e1688:EntryOk Try.prog fid 9 (.fn d1688):=⟨Try.f9,Try.f9.body.getD .skip,by kernel_rfl,by kernel_rfl,by kernel_rfl,⟨by kernel_rfl,by kernel_rfl,fun _=>by kernel_rfl⟩,by kernel_rfl,by kernel_rfl⟩
theorem e1344:EntryOk Try.prog fid 10 (.fn d1344):=⟨Try.f10,Try.f10.body.getD .skip,by kernel_rfl,by kernel_rfl,by kernel_rfl,⟨by kernel_rfl,by kernel_rfl,fun _=>by kernel_rfl⟩,by kernel_rfl,by kernel_rfl⟩
theorem e1020:EntryOk Try.prog fid 11 (.fn d1020):=⟨Try.f11,Try.f11.body.getD .skip,by kernel_rfl,by kernel_rfl,by kernel_rfl,⟨by kernel_rfl,by kernel_rfl,fun _=>by kernel_rfl⟩,by kernel_rfl,by kernel_rfl⟩
theorem e1487:EntryOk Try.prog fid 12 (.fn d1487):=⟨Try.f12,Try.f12.body.getD .skip,by kernel_rfl,by kernel_rfl,by kernel_rfl,⟨by kernel_rfl,by kernel_rfl,fun _=>by kernel_rfl⟩,by kernel_rfl,by kernel_rfl⟩
theorem e1439:EntryOk Try.prog fid 13 (.fn d1439):=⟨Try.f13,Try.f13.body.getD .skip,by kernel_rfl,by kernel_rfl,by kernel_rfl,⟨by kernel_rfl,by kernel_rfl,fun _=>by kernel_rfl⟩,by kernel_rfl,by kernel_rfl⟩
theorem e1276:EntryOk Try.prog fid 14 (.fn d1276):=⟨Try.f14,Try.f14.body.getD .skip,by kernel_rfl,by kernel_rfl,by kernel_rfl,⟨by kernel_rfl,by kernel_rfl,fun _=>by kernel_rfl⟩,by kernel_rfl,by kernel_rfl⟩
theorem e1689:EntryOk Try.prog fid 15 (.fn d1689):=⟨Try.f15,Try.f15.body.getD .skip,by kernel_rfl,by kernel_rfl,by kernel_rfl,⟨by kernel_rfl,by kernel_rfl,fun _=>by kernel_rfl⟩,by kernel_rfl,by kernel_rfl⟩
theorem e1175:EntryOk Try.prog fid 16 (.fn d1175):=⟨Try.f16,Try.f16.body.getD .skip,by kernel_rfl,by kernel_rfl,by kernel_rfl,⟨by kernel_rfl,by kernel_rfl,fun _=>by kernel_rfl⟩,by kernel_rfl,by kernel_rfl⟩
theorem e1595:EntryOk Try.prog fid 17 (.fn d1595):=⟨Try.f17,Try.f17.body.getD .skip,by kernel_rfl,by kernel_rfl,by kernel_rfl,⟨by kernel_rfl,by kernel_rfl,fun _=>by kernel_rfl⟩,by kernel_rfl,by kernel_rfl⟩
theorem e1690:EntryOk Try.prog fid 18 (.fn d1690):=⟨Try.f18,Try.f18.body.getD .skip,by kernel_rfl,by kernel_rfl,by kernel_rfl,⟨by kernel_rfl,by kernel_rfl,fun _=>by kernel_rfl⟩,by kernel_rfl,by kernel_rfl⟩
theorem e1691:EntryOk Try.prog fid 19 (.fn d1691):=⟨Try.f19,Try.f19.body.getD .skip,by kernel_rfl,by kernel_rfl,by kernel_rfl,⟨by kernel_rfl,by kernel_rfl,fun _=>by kernel_rfl⟩,by kernel_rfl,by kernel_rfl⟩
theorem e1565:EntryOk Try.prog fid 20 (.fn d1565):=⟨Try.f20,Try.f20.body.getD .skip,by kernel_rfl,by kernel_rfl,by kernel_rfl,⟨by kernel_rfl,by kernel_rfl,fun _=>by kernel_rfl⟩,by kernel_rfl,by kernel_rfl⟩
theorem e1566:EntryOk Try.prog fid 21 (.fn d1566):=⟨Try.f21,Try.f21.body.getD .skip,by kernel_rfl,by kernel_rfl,by kernel_rfl,⟨by kernel_rfl,by kernel_rfl,fun _=>by kernel_rfl⟩,by kernel_rfl,by kernel_rfl⟩
theorem e1554:EntryOk Try.prog fid 22 (.fn d1554):=⟨Try.f22,Try.f22.body.getD .skip,by kernel_rfl,by kernel_rfl,by kernel_rfl,⟨by kernel_rfl,by kernel_rfl,fun _=>by kernel_rfl⟩,by kernel_rfl,by kernel_rfl⟩
theorem e1567:EntryOk Try.prog fid 23 (.fn d1567):=⟨Try.f23,Try.f23.body.getD .skip,by kernel_rfl,by kernel_rfl,by kernel_rfl,⟨by kernel_rfl,by kernel_rfl,fun _=>by kernel_rfl⟩,by kernel_rfl,by kernel_rfl⟩
theorem e1198:EntryOk Try.prog fid 24 (.fn d1198):=⟨Try.f24,Try.f24.body.getD .skip,by kernel_rfl,by kernel_rfl,by kernel_rfl,⟨by kernel_rfl,by kernel_rfl,fun _=>by kernel_rfl⟩,by kernel_rfl,by kernel_rfl⟩
theorem e1692:EntryOk Try.prog fid 25 (.fn d1692):=⟨Try.f25,Try.f25.body.getD .skip,by kernel_rfl,by kernel_rfl,by kernel_rfl,⟨by kernel_rfl,by kernel_rfl,fun _=>by kernel_rfl⟩,by kernel_rfl,by kernel_rfl⟩
theorem e1016:EntryOk Try.prog fid 26 (.fn d1016):=⟨Try.f26,Try.f26.body.getD .skip,by kernel_rfl,by kernel_rfl,by kernel_rfl,⟨by kernel_rfl,by kernel_rfl,fun _=>by kernel_rfl⟩,by kernel_rfl,by kernel_rfl⟩
theorem e1355:EntryOk Try.prog fid 27 (.fn d1355):=⟨Try.f27,Try.f27.body.getD .skip,by kernel_rfl,by kernel_rfl,by kernel_rfl,⟨by kernel_rfl,by kernel_rfl,fun _=>by kernel_rfl⟩,by kernel_rfl,by kernel_rfl⟩
theorem e1359:EntryOk Try.prog fid 28 (.fn d1359):=⟨Try.f28,Try.f28.body.getD .skip,by kernel_rfl,by kernel_rfl,by kernel_rfl,⟨by kernel_rfl,by kernel_rfl,fun _=>by kernel_rfl⟩,by kernel_rfl,by kernel_rfl⟩
theorem e1203:EntryOk Try.prog fid 29 (.fn d1203):=⟨Try.f29,Try.f29.body.getD .skip,by kernel_rfl,by kernel_rfl,by kernel_rfl,⟨by kernel_rfl,by kernel_rfl,fun _=>by kernel_rfl⟩,by kernel_rfl,by kernel_rfl⟩
theorem e1693:EntryOk Try.prog fid 30 (.fn d1693):=⟨Try.f30,Try.f30.body.getD .skip,by kernel_rfl,by kernel_rfl,by kernel_rfl,⟨by kernel_rfl,by kernel_rfl,fun _=>by kernel_rfl⟩,by kernel_rfl,by kernel_rfl⟩
theorem e1335:EntryOk Try.prog fid 31 (.fn d1335):=⟨Try.f31,Try.f31.body.getD .skip,by kernel_rfl,by kernel_rfl,by kernel_rfl,⟨by kernel_rfl,by kernel_rfl,fun _=>by kernel_rfl⟩,by kernel_rfl,by kernel_rfl⟩
theorem e1204:EntryOk Try.prog fid 32 (.fn d1204):=⟨Try.f32,Try.f32.body.getD .skip,by kernel_rfl,by kernel_rfl,by kernel_rfl,⟨by kernel_rfl,by kernel_rfl,fun _=>by kernel_rfl⟩,by kernel_rfl,by kernel_rfl⟩
theorem e1358:EntryOk Try.prog fid 33 (.fn d1358):=⟨Try.f33,Try.f33.body.getD .skip,by kernel_rfl,by kernel_rfl,by kernel_rfl,⟨by kernel_rfl,by kernel_rfl,fun _=>by kernel_rfl⟩,by kernel_rfl,by kernel_rfl⟩
theorem e1571:EntryOk Try.prog fid 34 (.fn d1571):=⟨Try.f34,Try.f34.body.getD .skip,by kernel_rfl,by kernel_rfl,by kernel_rfl,⟨by kernel_rfl,by kernel_rfl,fun _=>by kernel_rfl⟩,by kernel_rfl,by kernel_rfl⟩
theorem e1024:EntryOk Try.prog fid 35 (.orc (cloneG 1 8)):=clone_ok (f:=35) (fn:=Try.f35) (c:=Try.f35.body.getD .skip) (z:=[.int .i64 0]) (by kernel_rfl) (by kernel_rfl) (by kernel_rfl) ⟨by kernel_rfl,by kernel_rfl,fun _=>by kernel_rfl⟩ (by kernel_rfl)
theorem e1572:EntryOk Try.prog fid 36 (.fn d1572):=⟨Try.f36,Try.f36.body.getD .skip,by kernel_rfl,by kernel_rfl,by kernel_rfl,⟨by kernel_rfl,by kernel_rfl,fun _=>by kernel_rfl⟩,by kernel_rfl,by kernel_rfl⟩
theorem e1208:EntryOk Try.prog fid 37 (.fn d1208):=⟨Try.f37,Try.f37.body.getD .skip,by kernel_rfl,by kernel_rfl,by kernel_rfl,⟨by kernel_rfl,by kernel_rfl,fun _=>by kernel_rfl⟩,by kernel_rfl,by kernel_rfl⟩
theorem e1209:EntryOk Try.prog fid 38 (.fn d1209):=⟨Try.f38,Try.f38.body.getD .skip,by kernel_rfl,by kernel_rfl,by kernel_rfl,⟨by kernel_rfl,by kernel_rfl,fun _=>by kernel_rfl⟩,by kernel_rfl,by kernel_rfl⟩
theorem e1192:EntryOk Try.prog fid 39 (.fn d1192):=⟨Try.f39,Try.f39.body.getD .skip,by kernel_rfl,by kernel_rfl,by kernel_rfl,⟨by kernel_rfl,by kernel_rfl,fun _=>by kernel_rfl⟩,by kernel_rfl,by kernel_rfl⟩
theorem e1341:EntryOk Try.prog fid 40 (.fn d1341):=⟨Try.f40,Try.f40.body.getD .skip,by kernel_rfl,by kernel_rfl,by kernel_rfl,⟨by kernel_rfl,by kernel_rfl,fun _=>by kernel_rfl⟩,by kernel_rfl,by kernel_rfl⟩
theorem e1188:EntryOk Try.prog fid 41 (.fn d1188):=⟨Try.f41,Try.f41.body.getD .skip,by kernel_rfl,by kernel_rfl,by kernel_rfl,⟨by kernel_rfl,by kernel_rfl,fun _=>by kernel_rfl⟩,by kernel_rfl,by kernel_rfl⟩
theorem e1369:EntryOk Try.prog fid 42 (.fn d1369):=⟨Try.f42,Try.f42.body.getD .skip,by kernel_rfl,by kernel_rfl,by kernel_rfl,⟨by kernel_rfl,by kernel_rfl,fun _=>by kernel_rfl⟩,by kernel_rfl,by kernel_rfl⟩
theorem e1365:EntryOk Try.prog fid 43 (.fn d1365):=⟨Try.f43,Try.f43.body.getD .skip,by kernel_rfl,by kernel_rfl,by kernel_rfl,⟨by kernel_rfl,by kernel_rfl,fun _=>by kernel_rfl⟩,by kernel_rfl,by kernel_rfl⟩
theorem e1363:EntryOk Try.prog fid 44 (.fn d1363):=⟨Try.f44,Try.f44.body.getD .skip,by kernel_rfl,by kernel_rfl,by kernel_rfl,⟨by kernel_rfl,by kernel_rfl,fun _=>by kernel_rfl⟩,by kernel_rfl,by kernel_rfl⟩
theorem e1373:EntryOk Try.prog fid 45 (.fn d1373):=⟨Try.f45,Try.f45.body.getD .skip,by kernel_rfl,by kernel_rfl,by kernel_rfl,⟨by kernel_rfl,by kernel_rfl,fun _=>by kernel_rfl⟩,by kernel_rfl,by kernel_rfl⟩
theorem e1364:EntryOk Try.prog fid 46 (.fn d1364):=⟨Try.f46,Try.f46.body.getD .skip,by kernel_rfl,by kernel_rfl,by kernel_rfl,⟨by kernel_rfl,by kernel_rfl,fun _=>by kernel_rfl⟩,by kernel_rfl,by kernel_rfl⟩
theorem e1213:EntryOk Try.prog fid 47 (.fn d1213):=⟨Try.f47,Try.f47.body.getD .skip,by kernel_rfl,by kernel_rfl,by kernel_rfl,⟨by kernel_rfl,by kernel_rfl,fun _=>by kernel_rfl⟩,by kernel_rfl,by kernel_rfl⟩
theorem e1353:EntryOk Try.prog fid 48 (.fn d1353):=⟨Try.f48,Try.f48.body.getD .skip,by kernel_rfl,by kernel_rfl,by kernel_rfl,⟨by kernel_rfl,by kernel_rfl,fun _=>by kernel_rfl⟩,by kernel_rfl,by kernel_rfl⟩
theorem e1372:EntryOk Try.prog fid 49 (.fn d1372):=⟨Try.f49,Try.f49.body.getD .skip,by kernel_rfl,by kernel_rfl,by kernel_rfl,⟨by kernel_rfl,by kernel_rfl,fun _=>by kernel_rfl⟩,by kernel_rfl,by kernel_rfl⟩
theorem e1059:EntryOk Try.prog fid 50 (.fn d1059):=⟨Try.f50,Try.f50.body.getD .skip,by kernel_rfl,by kernel_rfl,by kernel_rfl,⟨by kernel_rfl,by kernel_rfl,fun _=>by kernel_rfl⟩,by kernel_rfl,by kernel_rfl⟩
theorem e1214:EntryOk Try.prog fid 51 (.fn d1214):=⟨Try.f51,Try.f51.body.getD .skip,by kernel_rfl,by kernel_rfl,by kernel_rfl,⟨by kernel_rfl,by kernel_rfl,fun _=>by kernel_rfl⟩,by kernel_rfl,by kernel_rfl⟩
theorem e1215:EntryOk Try.prog fid 52 (.fn d1215):=⟨Try.f52,Try.f52.body.getD .skip,by kernel_rfl,by kernel_rfl,by kernel_rfl,⟨by kernel_rfl,by kernel_rfl,fun _=>by kernel_rfl⟩,by kernel_rfl,by kernel_rfl⟩
theorem e1216:EntryOk Try.prog fid 53 (.fn d1216):=⟨Try.f53,Try.f53.body.getD .skip,by kernel_rfl,by kernel_rfl,by kernel_rfl,⟨by kernel_rfl,by kernel_rfl,fun _=>by kernel_rfl⟩,by kernel_rfl,by kernel_rfl⟩
theorem e1217:EntryOk Try.prog fid 54 (.fn d1217):=⟨Try.f54,Try.f54.body.getD .skip,by kernel_rfl,by kernel_rfl,by kernel_rfl,⟨by kernel_rfl,by kernel_rfl,fun _=>by kernel_rfl⟩,by kernel_rfl,by kernel_rfl⟩
theorem e1218:EntryOk Try.prog fid 55 (.fn d1218):=⟨Try.f55,Try.f55.body.getD .skip,by kernel_rfl,by kernel_rfl,by kernel_rfl,⟨by kernel_rfl,by kernel_rfl,fun _=>by kernel_rfl⟩,by kernel_rfl,by kernel_rfl⟩
theorem e1199:EntryOk Try.prog fid 56 (.fn d1199):=⟨Try.f56,Try.f56.body.getD .skip,by kernel_rfl,by kernel_rfl,by kernel_rfl,⟨by kernel_rfl,by kernel_rfl,fun _=>by kernel_rfl⟩,by kernel_rfl,by kernel_rfl⟩
theorem e1200:EntryOk Try.prog fid 57 (.fn d1200):=⟨Try.f57,Try.f57.body.getD .skip,by kernel_rfl,by kernel_rfl,by kernel_rfl,⟨by kernel_rfl,by kernel_rfl,fun _=>by kernel_rfl⟩,by kernel_rfl,by kernel_rfl⟩
theorem e1374:EntryOk Try.prog fid 58 (.fn d1374):=⟨Try.f58,Try.f58.body.getD .skip,by kernel_rfl,by kernel_rfl,by kernel_rfl,⟨by kernel_rfl,by kernel_rfl,fun _=>by kernel_rfl⟩,by kernel_rfl,by kernel_rfl⟩
theorem e1371:EntryOk Try.prog fid 59 (.fn d1371):=⟨Try.f59,Try.f59.body.getD .skip,by kernel_rfl,by kernel_rfl,by kernel_rfl,⟨by kernel_rfl,by kernel_rfl,fun _=>by kernel_rfl⟩,by kernel_rfl,by kernel_rfl⟩
theorem e1370:EntryOk Try.prog fid 60 (.fn d1370):=⟨Try.f60,Try.f60.body.getD .skip,by kernel_rfl,by kernel_rfl,by kernel_rfl,⟨by kernel_rfl,by kernel_rfl,fun _=>by kernel_rfl⟩,by kernel_rfl,by kernel_rfl⟩
theorem e1367:EntryOk Try.prog fid 61 (.fn d1367):=⟨Try.f61,Try.f61.body.getD .skip,by kernel_rfl,by kernel_rfl,by kernel_rfl,⟨by kernel_rfl,by kernel_rfl,fun _=>by kernel_rfl⟩,by kernel_rfl,by kernel_rfl⟩
theorem e1368:EntryOk Try.prog fid 62 (.fn d1368):=⟨Try.f62,Try.f62.body.getD .skip,by kernel_rfl,by kernel_rfl,by kernel_rfl,⟨by kernel_rfl,by kernel_rfl,fun _=>by kernel_rfl⟩,by kernel_rfl,by kernel_rfl⟩
theorem e1357:EntryOk Try.prog fid 63 (.fn d1357):=⟨Try.f63,Try.f63.body.getD .skip,by kernel_rfl,by kernel_rfl,by kernel_rfl,⟨by kernel_rfl,by kernel_rfl,fun _=>by kernel_rfl⟩,by kernel_rfl,by kernel_rfl⟩
theorem e1379:EntryOk Try.prog fid 64 (.fn d1379):=⟨Try.f64,Try.f64.body.getD .skip,by kernel_rfl,by kernel_rfl,by kernel_rfl,⟨by kernel_rfl,by kernel_rfl,fun _=>by kernel_rfl⟩,by kernel_rfl,by kernel_rfl⟩
theorem e1380:EntryOk Try.prog fid 65 (.fn d1380):=⟨Try.f65,Try.f65.body.getD .skip,by kernel_rfl,by kernel_rfl,by kernel_rfl,⟨by kernel_rfl,by kernel_rfl,fun _=>by kernel_rfl⟩,by kernel_rfl,by kernel_rfl⟩
theorem e1381:EntryOk Try.prog fid 66 (.fn d1381):=⟨Try.f66,Try.f66.body.getD .skip,by kernel_rfl,by kernel_rfl,by kernel_rfl,⟨by kernel_rfl,by kernel_rfl,fun _=>by kernel_rfl⟩,by kernel_rfl,by kernel_rfl⟩
theorem e1382:EntryOk Try.prog fid 67 (.fn d1382):=⟨Try.f67,Try.f67.body.getD .skip,by kernel_rfl,by kernel_rfl,by kernel_rfl,⟨by kernel_rfl,by kernel_rfl,fun _=>by kernel_rfl⟩,by kernel_rfl,by kernel_rfl⟩
theorem e1383:EntryOk Try.prog fid 68 (.fn d1383):=⟨Try.f68,Try.f68.body.getD .skip,by kernel_rfl,by kernel_rfl,by kernel_rfl,⟨by kernel_rfl,by kernel_rfl,fun _=>by kernel_rfl⟩,by kernel_rfl,by kernel_rfl⟩
theorem e1384:EntryOk Try.prog fid 69 (.fn d1384):=⟨Try.f69,Try.f69.body.getD .skip,by kernel_rfl,by kernel_rfl,by kernel_rfl,⟨by kernel_rfl,by kernel_rfl,fun _=>by kernel_rfl⟩,by kernel_rfl,by kernel_rfl⟩
theorem e1219:EntryOk Try.prog fid 70 (.fn d1219):=⟨Try.f70,Try.f70.body.getD .skip,by kernel_rfl,by kernel_rfl,by kernel_rfl,⟨by kernel_rfl,by kernel_rfl,fun _=>by kernel_rfl⟩,by kernel_rfl,by kernel_rfl⟩
theorem e1385:EntryOk Try.prog fid 71 (.fn d1385):=⟨Try.f71,Try.f71.body.getD .skip,by kernel_rfl,by kernel_rfl,by kernel_rfl,⟨by kernel_rfl,by kernel_rfl,fun _=>by kernel_rfl⟩,by kernel_rfl,by kernel_rfl⟩
theorem e1386:EntryOk Try.prog fid 72 (.fn d1386):=⟨Try.f72,Try.f72.body.getD .skip,by kernel_rfl,by kernel_rfl,by kernel_rfl,⟨by kernel_rfl,by kernel_rfl,fun _=>by kernel_rfl⟩,by kernel_rfl,by kernel_rfl⟩
theorem e1070:EntryOk Try.prog fid 73 (.fn d1070):=⟨Try.f73,Try.f73.body.getD .skip,by kernel_rfl,by kernel_rfl,by kernel_rfl,⟨by kernel_rfl,by kernel_rfl,fun _=>by kernel_rfl⟩,by kernel_rfl,by kernel_rfl⟩
theorem e1071:EntryOk Try.prog fid 74 (.fn d1071):=⟨Try.f74,Try.f74.body.getD .skip,by kernel_rfl,by kernel_rfl,by kernel_rfl,⟨by kernel_rfl,by kernel_rfl,fun _=>by kernel_rfl⟩,by kernel_rfl,by kernel_rfl⟩
theorem e1220:EntryOk Try.prog fid 75 (.fn d1220):=⟨Try.f75,Try.f75.body.getD .skip,by kernel_rfl,by kernel_rfl,by kernel_rfl,⟨by kernel_rfl,by kernel_rfl,fun _=>by kernel_rfl⟩,by kernel_rfl,by kernel_rfl⟩
theorem e1221:EntryOk Try.prog fid 76 (.fn d1221):=⟨Try.f76,Try.f76.body.getD .skip,by kernel_rfl,by kernel_rfl,by kernel_rfl,⟨by kernel_rfl,by kernel_rfl,fun _=>by kernel_rfl⟩,by kernel_rfl,by kernel_rfl⟩
theorem e1222:EntryOk Try.prog fid 77 (.fn d1222):=⟨Try.f77,Try.f77.body.getD .skip,by kernel_rfl,by kernel_rfl,by kernel_rfl,⟨by kernel_rfl,by kernel_rfl,fun _=>by kernel_rfl⟩,by kernel_rfl,by kernel_rfl⟩
theorem e1223:EntryOk Try.prog fid 78 (.fn d1223):=⟨Try.f78,Try.f78.body.getD .skip,by kernel_rfl,by kernel_rfl,by kernel_rfl,⟨by kernel_rfl,by kernel_rfl,fun _=>by kernel_rfl⟩,by kernel_rfl,by kernel_rfl⟩
theorem e1060:EntryOk Try.prog fid 79 (.fn d1060):=⟨Try.f79,Try.f79.body.getD .skip,by kernel_rfl,by kernel_rfl,by kernel_rfl,⟨by kernel_rfl,by kernel_rfl,fun _=>by kernel_rfl⟩,by kernel_rfl,by kernel_rfl⟩
theorem e1061:EntryOk Try.prog fid 80 (.fn d1061):=⟨Try.f80,Try.f80.body.getD .skip,by kernel_rfl,by kernel_rfl,by kernel_rfl,⟨by kernel_rfl,by kernel_rfl,fun _=>by kernel_rfl⟩,by kernel_rfl,by kernel_rfl⟩
theorem e1224:EntryOk Try.prog fid 81 (.fn d1224):=⟨Try.f81,Try.f81.body.getD .skip,by kernel_rfl,by kernel_rfl,by kernel_rfl,⟨by kernel_rfl,by kernel_rfl,fun _=>by kernel_rfl⟩,by kernel_rfl,by kernel_rfl⟩
theorem e1210:EntryOk Try.prog fid 82 (.fn d1210):=⟨Try.f82,Try.f82.body.getD .skip,by kernel_rfl,by kernel_rfl,by kernel_rfl,⟨by kernel_rfl,by kernel_rfl,fun _=>by kernel_rfl⟩,by kernel_rfl,by kernel_rfl⟩
theorem e1202:EntryOk Try.prog fid 83 (.fn d1202):=⟨Try.f83,Try.f83.body.getD .skip,by kernel_rfl,by kernel_rfl,by kernel_rfl,⟨by kernel_rfl,by kernel_rfl,fun _=>by kernel_rfl⟩,by kernel_rfl,by kernel_rfl⟩
theorem e1211:EntryOk Try.prog fid 84 (.fn d1211):=⟨Try.f84,Try.f84.body.getD .skip,by kernel_rfl,by kernel_rfl,by kernel_rfl,⟨by kernel_rfl,by kernel_rfl,fun _=>by kernel_rfl⟩,by kernel_rfl,by kernel_rfl⟩
theorem e1377:EntryOk Try.prog fid 85 (.fn d1377):=⟨Try.f85,Try.f85.body.getD .skip,by kernel_rfl,by kernel_rfl,by kernel_rfl,⟨by kernel_rfl,by kernel_rfl,fun _=>by kernel_rfl⟩,by kernel_rfl,by kernel_rfl⟩
theorem e1378:EntryOk Try.prog fid 86 (.fn d1378):=⟨Try.f86,Try.f86.body.getD .skip,by kernel_rfl,by kernel_rfl,by kernel_rfl,⟨by kernel_rfl,by kernel_rfl,fun _=>by kernel_rfl⟩,by kernel_rfl,by kernel_rfl⟩
theorem e1356:EntryOk Try.prog fid 87 (.fn d1356):=⟨Try.f87,Try.f87.body.getD .skip,by kernel_rfl,by kernel_rfl,by kernel_rfl,⟨by kernel_rfl,by kernel_rfl,fun _=>by kernel_rfl⟩,by kernel_rfl,by kernel_rfl⟩
theorem e1389:EntryOk Try.prog fid 88 (.fn d1389):=⟨Try.f88,Try.f88.body.getD .skip,by kernel_rfl,by kernel_rfl,by kernel_rfl,⟨by kernel_rfl,by kernel_rfl,fun _=>by kernel_rfl⟩,by kernel_rfl,by kernel_rfl⟩
theorem e1074:EntryOk Try.prog fid 89 (.fn d1074):=⟨Try.f89,Try.f89.body.getD .skip,by kernel_rfl,by kernel_rfl,by kernel_rfl,⟨by kernel_rfl,by kernel_rfl,fun _=>by kernel_rfl⟩,by kernel_rfl,by kernel_rfl⟩
theorem e1075:EntryOk Try.prog fid 90 (.fn d1075):=⟨Try.f90,Try.f90.body.getD .skip,by kernel_rfl,by kernel_rfl,by kernel_rfl,⟨by kernel_rfl,by kernel_rfl,fun _=>by kernel_rfl⟩,by kernel_rfl,by kernel_rfl⟩
theorem e1390:EntryOk Try.prog fid 91 (.fn d1390):=⟨Try.f91,Try.f91.body.getD .skip,by kernel_rfl,by kernel_rfl,by kernel_rfl,⟨by kernel_rfl,by kernel_rfl,fun _=>by kernel_rfl⟩,by kernel_rfl,by kernel_rfl⟩
theorem e1391:EntryOk Try.prog fid 92 (.fn d1391):=⟨Try.f92,Try.f92.body.getD .skip,by kernel_rfl,by kernel_rfl,by kernel_rfl,⟨by kernel_rfl,by kernel_rfl,fun _=>by kernel_rfl⟩,by kernel_rfl,by kernel_rfl⟩
theorem e1072:EntryOk Try.prog fid 93 (.fn d1072):=⟨Try.f93,Try.f93.body.getD .skip,by kernel_rfl,by kernel_rfl,by kernel_rfl,⟨by kernel_rfl,by kernel_rfl,fun _=>by kernel_rfl⟩,by kernel_rfl,by kernel_rfl⟩
theorem e1225:EntryOk Try.prog fid 94 (.orc cmpG):=cmp_ok fid
theorem e1212:EntryOk Try.prog fid 95 (.fn d1212):=⟨Try.f95,Try.f95.body.getD .skip,by kernel_rfl,by kernel_rfl,by kernel_rfl,⟨by kernel_rfl,by kernel_rfl,fun _=>by kernel_rfl⟩,by kernel_rfl,by kernel_rfl⟩
theorem e1387:EntryOk Try.prog fid 96 (.fn d1387):=⟨Try.f96,Try.f96.body.getD .skip,by kernel_rfl,by kernel_rfl,by kernel_rfl,⟨by kernel_rfl,by kernel_rfl,fun _=>by kernel_rfl⟩,by kernel_rfl,by kernel_rfl⟩
theorem e1388:EntryOk Try.prog fid 97 (.fn d1388):=⟨Try.f97,Try.f97.body.getD .skip,by kernel_rfl,by kernel_rfl,by kernel_rfl,⟨by kernel_rfl,by kernel_rfl,fun _=>by kernel_rfl⟩,by kernel_rfl,by kernel_rfl⟩
theorem e1392:EntryOk Try.prog fid 98 (.fn d1392):=⟨Try.f98,Try.f98.body.getD .skip,by kernel_rfl,by kernel_rfl,by kernel_rfl,⟨by kernel_rfl,by kernel_rfl,fun _=>by kernel_rfl⟩,by kernel_rfl,by kernel_rfl⟩
theorem e1694:EntryOk Try.prog fid 116 (.fn d1694):=⟨Try.f116,Try.f116.body.getD .skip,by kernel_rfl,by kernel_rfl,by kernel_rfl,⟨by kernel_rfl,by kernel_rfl,fun _=>by kernel_rfl⟩,by kernel_rfl,by kernel_rfl⟩
theorem e1695:EntryOk Try.prog fid 117 (.fn d1695):=⟨Try.f117,Try.f117.body.getD .skip,by kernel_rfl,by kernel_rfl,by kernel_rfl,⟨by kernel_rfl,by kernel_rfl,fun _=>by kernel_rfl⟩,by kernel_rfl,by kernel_rfl⟩
theorem e1696:EntryOk Try.prog fid 118 (.fn d1696):=⟨Try.f118,Try.f118.body.getD .skip,by kernel_rfl,by kernel_rfl,by kernel_rfl,⟨by kernel_rfl,by kernel_rfl,fun _=>by kernel_rfl⟩,by kernel_rfl,by kernel_rfl⟩
theorem e1697:EntryOk Try.prog fid 119 (.fn d1697):=⟨Try.f119,Try.f119.body.getD .skip,by kernel_rfl,by kernel_rfl,by kernel_rfl,⟨by kernel_rfl,by kernel_rfl,fun _=>by kernel_rfl⟩,by kernel_rfl,by kernel_rfl⟩
theorem e1498:EntryOk Try.prog fid 120 (.fn d1498):=⟨Try.f120,Try.f120.body.getD .skip,by kernel_rfl,by kernel_rfl,by kernel_rfl,⟨by kernel_rfl,by kernel_rfl,fun _=>by kernel_rfl⟩,by kernel_rfl,by kernel_rfl⟩
theorem fid_mem:∀ {l:List (Nat × Nat)} {f k:Nat},l.lookup f=some k→(f,k)∈l
 | [],_,_,h=>by cases h
 | (a,b)::l,f,k,h=>by
  rw [List.lookup_cons] at h
  split at h
  ·rename_i hf
   injection h with h
   subst h
   rw [show f=a by simpa using hf]
   exact List.mem_cons_self
  ·exact List.mem_cons_of_mem _ (fid_mem h)
def AllOk:List (Nat × Nat)→Prop
 | []=>True
 |p::l=>(∀ e,tab p.2=some e→EntryOk Try.prog fid p.1 e)∧AllOk l
theorem all_mem:∀ {l:List (Nat × Nat)},AllOk l→∀ p∈l,∀ e,tab p.2=some e→EntryOk Try.prog fid p.1 e
 |_::_,h,p,hp=>by
  rcases List.mem_cons.1 hp with rfl | hp
  ·exact h.1
  ·exact all_mem h.2 p hp
theorem one_ok {f k:Nat} {d:Entry} (h:tab k=some d) (e:EntryOk Try.prog fid f d):∀ x,tab k=some x→EntryOk Try.prog fid f x:=by
 intro x hx
 rw [h] at hx
 injection hx with hx
 exact hx ▸ e
theorem none_ok {f k:Nat} (h:tab k=none):∀ x,tab k=some x→EntryOk Try.prog fid f x:=by
 intro x hx
 rw [h] at hx
 cases hx
theorem all_ok:AllOk fidL:=⟨one_ok t1683 e1683,one_ok t1684 e1684,one_ok t1685 e1685,one_ok t1686 e1686,one_ok t1687 e1687,one_ok t1558 e1558,one_ok t1688 e1688,one_ok t1344 e1344,one_ok t1020 e1020,one_ok t1487 e1487,one_ok t1439 e1439,one_ok t1276 e1276,one_ok t1689 e1689,one_ok t1175 e1175,one_ok t1595 e1595,one_ok t1690 e1690,one_ok t1691 e1691,one_ok t1565 e1565,one_ok t1566 e1566,one_ok t1554 e1554,one_ok t1567 e1567,one_ok t1198 e1198,one_ok t1692 e1692,one_ok t1016 e1016,one_ok t1355 e1355,one_ok t1359 e1359,one_ok t1203 e1203,one_ok t1693 e1693,one_ok t1335 e1335,one_ok t1204 e1204,one_ok t1358 e1358,one_ok t1571 e1571,one_ok t1024 e1024,one_ok t1572 e1572,one_ok t1208 e1208,one_ok t1209 e1209,one_ok t1192 e1192,one_ok t1341 e1341,one_ok t1188 e1188,one_ok t1369 e1369,one_ok t1365 e1365,one_ok t1363 e1363,one_ok t1373 e1373,one_ok t1364 e1364,one_ok t1213 e1213,one_ok t1353 e1353,one_ok t1372 e1372,one_ok t1059 e1059,one_ok t1214 e1214,one_ok t1215 e1215,one_ok t1216 e1216,one_ok t1217 e1217,one_ok t1218 e1218,one_ok t1199 e1199,one_ok t1200 e1200,one_ok t1374 e1374,one_ok t1371 e1371,one_ok t1370 e1370,one_ok t1367 e1367,one_ok t1368 e1368,one_ok t1357 e1357,one_ok t1379 e1379,one_ok t1380 e1380,one_ok t1381 e1381,one_ok t1382 e1382,one_ok t1383 e1383,one_ok t1384 e1384,one_ok t1219 e1219,one_ok t1385 e1385,one_ok t1386 e1386,one_ok t1070 e1070,one_ok t1071 e1071,one_ok t1220 e1220,one_ok t1221 e1221,one_ok t1222 e1222,one_ok t1223 e1223,one_ok t1060 e1060,one_ok t1061 e1061,one_ok t1224 e1224,one_ok t1210 e1210,one_ok t1202 e1202,one_ok t1211 e1211,one_ok t1377 e1377,one_ok t1378 e1378,one_ok t1356 e1356,one_ok t1389 e1389,one_ok t1074 e1074,one_ok t1075 e1075,one_ok t1390 e1390,one_ok t1391 e1391,one_ok t1072 e1072,one_ok t1225 e1225,one_ok t1212 e1212,one_ok t1387 e1387,one_ok t1388 e1388,one_ok t1392 e1392,one_ok t1694 e1694,one_ok t1695 e1695,one_ok t1696 e1696,one_ok t1697 e1697,one_ok t1498 e1498,none_ok n1226,none_ok n1698,trivial⟩
theorem goodP:Good Try.prog fid tab:=fun f k e hf he=>all_mem all_ok (f,k) (fid_mem hf) e he
end Go.Proofs.Ytgiofefdfcaibaa
