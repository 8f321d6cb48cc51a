import Derived.Test.YtgiofefdfcaibaaGreatT09z
import Derived.Test.YtgiofefdfcaibaaGreatProg
import Derived.KernelRfl
import Derived.Test.YtgiofefdfcaibaaGreatKcq
namespace Go.Proofs.YtgiofefdfcaibaaGreat
set_option linter.unusedSimpArgs false
set_option linter.unusedVariables false
set_option maxRecDepth 1000000
theorem e1699:EntryOk Tryz.prog fid 3 (.fn d1699):=⟨Tryz.f3,Tryz.f3.body.getD .skip,by kernel_rfl,by kernel_rfl,by kernel_rfl,⟨by kernel_rfl,by kernel_rfl,fun _=>by kernel_rfl⟩,by kernel_rfl,by kernel_rfl⟩
theorem e1700:EntryOk Tryz.prog fid 4 (.fn d1700):=⟨Tryz.f4,Tryz.f4.body.getD .skip,by kernel_rfl,by kernel_rfl,by kernel_rfl,⟨by kernel_rfl,by kernel_rfl,fun _=>by kernel_rfl⟩,by kernel_rfl,by kernel_rfl⟩
theorem e1686:EntryOk Tryz.prog fid 5 (.fn d1686):=⟨Tryz.f5,Tryz.f5.body.getD .skip,by kernel_rfl,by kernel_rfl,by kernel_rfl,⟨by kernel_rfl,by kernel_rfl,fun _=>by kernel_rfl⟩,by kernel_rfl,by kernel_rfl⟩
theorem e1176:EntryOk Tryz.prog fid 6 (.fn d1176):=⟨Tryz.f6,Tryz.f6.body.getD .skip,by kernel_rfl,by kernel_rfl,by kernel_rfl,⟨by kernel_rfl,by kernel_rfl,fun _=>by kernel_rfl⟩,by kernel_rfl,by kernel_rfl⟩
theorem e1597:EntryOk Tryz.prog fid 7 (.fn d1597):=⟨Tryz.f7,Tryz.f7.body.getD .skip,by kernel_rfl,by kernel_rfl,by kernel_rfl,⟨by kernel_rfl,by kernel_rfl,fun _=>by kernel_rfl⟩,by kernel_rfl,by kernel_rfl⟩
theorem e1687:EntryOk Tryz.prog fid 8 (.fn d1687):=⟨Tryz.f8,Tryz.f8.body.getD .skip,by kernel_rfl,by kernel_rfl,by kernel_rfl,⟨by kernel_rfl,by kernel_rfl,fun _=>by kernel_rfl⟩,by kernel_rfl,by kernel_rfl⟩
theorem e1701:EntryOk Tryz.prog fid 9 (.fn d1701):=⟨Tryz.f9,Tryz.f9.body.getD .skip,by kernel_rfl,by kernel_rfl,by kernel_rfl,⟨by kernel_rfl,by kernel_rfl,fun _=>by kernel_rfl⟩,by kernel_rfl,by kernel_rfl⟩
theorem e1689:EntryOk Tryz.prog fid 10 (.fn d1689):=⟨Tryz.f10,Tryz.f10.body.getD .skip,by kernel_rfl,by kernel_rfl,by kernel_rfl,⟨by kernel_rfl,by kernel_rfl,fun _=>by kernel_rfl⟩,by kernel_rfl,by kernel_rfl⟩
theorem e1702:EntryOk Tryz.prog fid 11 (.fn d1702):=⟨Tryz.f11,Tryz.f11.body.getD .skip,by kernel_rfl,by kernel_rfl,by kernel_rfl,⟨by kernel_rfl,by kernel_rfl,fun _=>by kernel_rfl⟩,by kernel_rfl,by kernel_rfl⟩
theorem e1688:EntryOk Tryz.prog fid 12 (.fn d1688):=⟨Tryz.f12,Tryz.f12.body.getD .skip,by kernel_rfl,by kernel_rfl,by kernel_rfl,⟨by kernel_rfl,by kernel_rfl,fun _=>by kernel_rfl⟩,by kernel_rfl,by kernel_rfl⟩
theorem e1439:EntryOk Tryz.prog fid 13 (.fn d1439):=⟨Tryz.f13,Tryz.f13.body.getD .skip,by kernel_rfl,by kernel_rfl,by kernel_rfl,⟨by kernel_rfl,by kernel_rfl,fun _=>by kernel_rfl⟩,by kernel_rfl,by kernel_rfl⟩
theorem e1187:EntryOk Tryz.prog fid 14 (.fn d1187):=⟨Tryz.f14,Tryz.f14.body.getD .skip,by kernel_rfl,by kernel_rfl,by kernel_rfl,⟨by kernel_rfl,by kernel_rfl,fun _=>by kernel_rfl⟩,by kernel_rfl,by kernel_rfl⟩
theorem e1560:EntryOk Tryz.prog fid 15 (.fn d1560):=⟨Tryz.f15,Tryz.f15.body.getD .skip,by kernel_rfl,by kernel_rfl,by kernel_rfl,⟨by kernel_rfl,by kernel_rfl,fun _=>by kernel_rfl⟩,by kernel_rfl,by kernel_rfl⟩
theorem e1692:EntryOk Tryz.prog fid 16 (.fn d1692):=⟨Tryz.f16,Tryz.f16.body.getD .skip,by kernel_rfl,by kernel_rfl,by kernel_rfl,⟨by kernel_rfl,by kernel_rfl,fun _=>by kernel_rfl⟩,by kernel_rfl,by kernel_rfl⟩
theorem e1703:EntryOk Tryz.prog fid 17 (.fn d1703):=⟨Tryz.f17,Tryz.f17.body.getD .skip,by kernel_rfl,by kernel_rfl,by kernel_rfl,⟨by kernel_rfl,by kernel_rfl,fun _=>by kernel_rfl⟩,by kernel_rfl,by kernel_rfl⟩
theorem e1016:EntryOk Tryz.prog fid 18 (.fn d1016):=⟨Tryz.f18,Tryz.f18.body.getD .skip,by kernel_rfl,by kernel_rfl,by kernel_rfl,⟨by kernel_rfl,by kernel_rfl,fun _=>by kernel_rfl⟩,by kernel_rfl,by kernel_rfl⟩
theorem e1175:EntryOk Tryz.prog fid 19 (.fn d1175):=⟨Tryz.f19,Tryz.f19.body.getD .skip,by kernel_rfl,by kernel_rfl,by kernel_rfl,⟨by kernel_rfl,by kernel_rfl,fun _=>by kernel_rfl⟩,by kernel_rfl,by kernel_rfl⟩
theorem e1595:EntryOk Tryz.prog fid 20 (.fn d1595):=⟨Tryz.f20,Tryz.f20.body.getD .skip,by kernel_rfl,by kernel_rfl,by kernel_rfl,⟨by kernel_rfl,by kernel_rfl,fun _=>by kernel_rfl⟩,by kernel_rfl,by kernel_rfl⟩
theorem e1022:EntryOk Tryz.prog fid 21 (.fn d1022):=⟨Tryz.f21,Tryz.f21.body.getD .skip,by kernel_rfl,by kernel_rfl,by kernel_rfl,⟨by kernel_rfl,by kernel_rfl,fun _=>by kernel_rfl⟩,by kernel_rfl,by kernel_rfl⟩
theorem e1690:EntryOk Tryz.prog fid 22 (.fn d1690):=⟨Tryz.f22,Tryz.f22.body.getD .skip,by kernel_rfl,by kernel_rfl,by kernel_rfl,⟨by kernel_rfl,by kernel_rfl,fun _=>by kernel_rfl⟩,by kernel_rfl,by kernel_rfl⟩
theorem e1691:EntryOk Tryz.prog fid 23 (.fn d1691):=⟨Tryz.f23,Tryz.f23.body.getD .skip,by kernel_rfl,by kernel_rfl,by kernel_rfl,⟨by kernel_rfl,by kernel_rfl,fun _=>by kernel_rfl⟩,by kernel_rfl,by kernel_rfl⟩
theorem e1336:EntryOk Tryz.prog fid 24 (.fn d1336):=⟨Tryz.f24,Tryz.f24.body.getD .skip,by kernel_rfl,by kernel_rfl,by kernel_rfl,⟨by kernel_rfl,by kernel_rfl,fun _=>by kernel_rfl⟩,by kernel_rfl,by kernel_rfl⟩
theorem e1598:EntryOk Tryz.prog fid 25 (.fn d1598):=⟨Tryz.f25,Tryz.f25.body.getD .skip,by kernel_rfl,by kernel_rfl,by kernel_rfl,⟨by kernel_rfl,by kernel_rfl,fun _=>by kernel_rfl⟩,by kernel_rfl,by kernel_rfl⟩
theorem e1704:EntryOk Tryz.prog fid 26 (.fn d1704):=⟨Tryz.f26,Tryz.f26.body.getD .skip,by kernel_rfl,by kernel_rfl,by kernel_rfl,⟨by kernel_rfl,by kernel_rfl,fun _=>by kernel_rfl⟩,by kernel_rfl,by kernel_rfl⟩
theorem e1203:EntryOk Tryz.prog fid 27 (.fn d1203):=⟨Tryz.f27,Tryz.f27.body.getD .skip,by kernel_rfl,by kernel_rfl,by kernel_rfl,⟨by kernel_rfl,by kernel_rfl,fun _=>by kernel_rfl⟩,by kernel_rfl,by kernel_rfl⟩
theorem e1198:EntryOk Tryz.prog fid 28 (.fn d1198):=⟨Tryz.f28,Tryz.f28.body.getD .skip,by kernel_rfl,by kernel_rfl,by kernel_rfl,⟨by kernel_rfl,by kernel_rfl,fun _=>by kernel_rfl⟩,by kernel_rfl,by kernel_rfl⟩
theorem e1693:EntryOk Tryz.prog fid 29 (.fn d1693):=⟨Tryz.f29,Tryz.f29.body.getD .skip,by kernel_rfl,by kernel_rfl,by kernel_rfl,⟨by kernel_rfl,by kernel_rfl,fun _=>by kernel_rfl⟩,by kernel_rfl,by kernel_rfl⟩
theorem e1192:EntryOk Tryz.prog fid 30 (.fn d1192):=⟨Tryz.f30,Tryz.f30.body.getD .skip,by kernel_rfl,by kernel_rfl,by kernel_rfl,⟨by kernel_rfl,by kernel_rfl,fun _=>by kernel_rfl⟩,by kernel_rfl,by kernel_rfl⟩
theorem e1341:EntryOk Tryz.prog fid 31 (.fn d1341):=⟨Tryz.f31,Tryz.f31.body.getD .skip,by kernel_rfl,by kernel_rfl,by kernel_rfl,⟨by kernel_rfl,by kernel_rfl,fun _=>by kernel_rfl⟩,by kernel_rfl,by kernel_rfl⟩
theorem e1194:EntryOk Tryz.prog fid 32 (.fn d1194):=⟨Tryz.f32,Tryz.f32.body.getD .skip,by kernel_rfl,by kernel_rfl,by kernel_rfl,⟨by kernel_rfl,by kernel_rfl,fun _=>by kernel_rfl⟩,by kernel_rfl,by kernel_rfl⟩
theorem e1335:EntryOk Tryz.prog fid 33 (.fn d1335):=⟨Tryz.f33,Tryz.f33.body.getD .skip,by kernel_rfl,by kernel_rfl,by kernel_rfl,⟨by kernel_rfl,by kernel_rfl,fun _=>by kernel_rfl⟩,by kernel_rfl,by kernel_rfl⟩
theorem e1204:EntryOk Tryz.prog fid 34 (.fn d1204):=⟨Tryz.f34,Tryz.f34.body.getD .skip,by kernel_rfl,by kernel_rfl,by kernel_rfl,⟨by kernel_rfl,by kernel_rfl,fun _=>by kernel_rfl⟩,by kernel_rfl,by kernel_rfl⟩
theorem e1354:EntryOk Tryz.prog fid 35 (.fn d1354):=⟨Tryz.f35,Tryz.f35.body.getD .skip,by kernel_rfl,by kernel_rfl,by kernel_rfl,⟨by kernel_rfl,by kernel_rfl,fun _=>by kernel_rfl⟩,by kernel_rfl,by kernel_rfl⟩
theorem e1021:EntryOk Tryz.prog fid 36 (.fn d1021):=⟨Tryz.f36,Tryz.f36.body.getD .skip,by kernel_rfl,by kernel_rfl,by kernel_rfl,⟨by kernel_rfl,by kernel_rfl,fun _=>by kernel_rfl⟩,by kernel_rfl,by kernel_rfl⟩
theorem e1600:EntryOk Tryz.prog fid 37 (.fn d1600):=⟨Tryz.f37,Tryz.f37.body.getD .skip,by kernel_rfl,by kernel_rfl,by kernel_rfl,⟨by kernel_rfl,by kernel_rfl,fun _=>by kernel_rfl⟩,by kernel_rfl,by kernel_rfl⟩
theorem e1602:EntryOk Tryz.prog fid 38 (.fn d1602):=⟨Tryz.f38,Tryz.f38.body.getD .skip,by kernel_rfl,by kernel_rfl,by kernel_rfl,⟨by kernel_rfl,by kernel_rfl,fun _=>by kernel_rfl⟩,by kernel_rfl,by kernel_rfl⟩
theorem e1487:EntryOk Tryz.prog fid 39 (.fn d1487):=⟨Tryz.f39,Tryz.f39.body.getD .skip,by kernel_rfl,by kernel_rfl,by kernel_rfl,⟨by kernel_rfl,by kernel_rfl,fun _=>by kernel_rfl⟩,by kernel_rfl,by kernel_rfl⟩
theorem e1213:EntryOk Tryz.prog fid 40 (.fn d1213):=⟨Tryz.f40,Tryz.f40.body.getD .skip,by kernel_rfl,by kernel_rfl,by kernel_rfl,⟨by kernel_rfl,by kernel_rfl,fun _=>by kernel_rfl⟩,by kernel_rfl,by kernel_rfl⟩
theorem e1208:EntryOk Tryz.prog fid 41 (.fn d1208):=⟨Tryz.f41,Tryz.f41.body.getD .skip,by kernel_rfl,by kernel_rfl,by kernel_rfl,⟨by kernel_rfl,by kernel_rfl,fun _=>by kernel_rfl⟩,by kernel_rfl,by kernel_rfl⟩
theorem e1209:EntryOk Tryz.prog fid 42 (.fn d1209):=⟨Tryz.f42,Tryz.f42.body.getD .skip,by kernel_rfl,by kernel_rfl,by kernel_rfl,⟨by kernel_rfl,by kernel_rfl,fun _=>by kernel_rfl⟩,by kernel_rfl,by kernel_rfl⟩
theorem e1188:EntryOk Tryz.prog fid 43 (.fn d1188):=⟨Tryz.f43,Tryz.f43.body.getD .skip,by kernel_rfl,by kernel_rfl,by kernel_rfl,⟨by kernel_rfl,by kernel_rfl,fun _=>by kernel_rfl⟩,by kernel_rfl,by kernel_rfl⟩
theorem e1558:EntryOk Tryz.prog fid 44 (.fn d1558):=⟨Tryz.f44,Tryz.f44.body.getD .skip,by kernel_rfl,by kernel_rfl,by kernel_rfl,⟨by kernel_rfl,by kernel_rfl,fun _=>by kernel_rfl⟩,by kernel_rfl,by kernel_rfl⟩
theorem e1369:EntryOk Tryz.prog fid 45 (.fn d1369):=⟨Tryz.f45,Tryz.f45.body.getD .skip,by kernel_rfl,by kernel_rfl,by kernel_rfl,⟨by kernel_rfl,by kernel_rfl,fun _=>by kernel_rfl⟩,by kernel_rfl,by kernel_rfl⟩
theorem e1353:EntryOk Tryz.prog fid 46 (.fn d1353):=⟨Tryz.f46,Tryz.f46.body.getD .skip,by kernel_rfl,by kernel_rfl,by kernel_rfl,⟨by kernel_rfl,by kernel_rfl,fun _=>by kernel_rfl⟩,by kernel_rfl,by kernel_rfl⟩
theorem e1205:EntryOk Tryz.prog fid 47 (.fn d1205):=⟨Tryz.f47,Tryz.f47.body.getD .skip,by kernel_rfl,by kernel_rfl,by kernel_rfl,⟨by kernel_rfl,by kernel_rfl,fun _=>by kernel_rfl⟩,by kernel_rfl,by kernel_rfl⟩
theorem e1206:EntryOk Tryz.prog fid 48 (.fn d1206):=⟨Tryz.f48,Tryz.f48.body.getD .skip,by kernel_rfl,by kernel_rfl,by kernel_rfl,⟨by kernel_rfl,by kernel_rfl,fun _=>by kernel_rfl⟩,by kernel_rfl,by kernel_rfl⟩
theorem e1207:EntryOk Tryz.prog fid 49 (.fn d1207):=⟨Tryz.f49,Tryz.f49.body.getD .skip,by kernel_rfl,by kernel_rfl,by kernel_rfl,⟨by kernel_rfl,by kernel_rfl,fun _=>by kernel_rfl⟩,by kernel_rfl,by kernel_rfl⟩
theorem e1330:EntryOk Tryz.prog fid 50 (.fn d1330):=⟨Tryz.f50,Tryz.f50.body.getD .skip,by kernel_rfl,by kernel_rfl,by kernel_rfl,⟨by kernel_rfl,by kernel_rfl,fun _=>by kernel_rfl⟩,by kernel_rfl,by kernel_rfl⟩
theorem e1020:EntryOk Tryz.prog fid 51 (.fn d1020):=⟨Tryz.f51,Tryz.f51.body.getD .skip,by kernel_rfl,by kernel_rfl,by kernel_rfl,⟨by kernel_rfl,by kernel_rfl,fun _=>by kernel_rfl⟩,by kernel_rfl,by kernel_rfl⟩
theorem e1214:EntryOk Tryz.prog fid 52 (.fn d1214):=⟨Tryz.f52,Tryz.f52.body.getD .skip,by kernel_rfl,by kernel_rfl,by kernel_rfl,⟨by kernel_rfl,by kernel_rfl,fun _=>by kernel_rfl⟩,by kernel_rfl,by kernel_rfl⟩
theorem e1215:EntryOk Tryz.prog fid 53 (.fn d1215):=⟨Tryz.f53,Tryz.f53.body.getD .skip,by kernel_rfl,by kernel_rfl,by kernel_rfl,⟨by kernel_rfl,by kernel_rfl,fun _=>by kernel_rfl⟩,by kernel_rfl,by kernel_rfl⟩
theorem e1216:EntryOk Tryz.prog fid 54 (.fn d1216):=⟨Tryz.f54,Tryz.f54.body.getD .skip,by kernel_rfl,by kernel_rfl,by kernel_rfl,⟨by kernel_rfl,by kernel_rfl,fun _=>by kernel_rfl⟩,by kernel_rfl,by kernel_rfl⟩
theorem e1217:EntryOk Tryz.prog fid 55 (.fn d1217):=⟨Tryz.f55,Tryz.f55.body.getD .skip,by kernel_rfl,by kernel_rfl,by kernel_rfl,⟨by kernel_rfl,by kernel_rfl,fun _=>by kernel_rfl⟩,by kernel_rfl,by kernel_rfl⟩
theorem e1218:EntryOk Tryz.prog fid 56 (.fn d1218):=⟨Tryz.f56,Tryz.f56.body.getD .skip,by kernel_rfl,by kernel_rfl,by kernel_rfl,⟨by kernel_rfl,by kernel_rfl,fun _=>by kernel_rfl⟩,by kernel_rfl,by kernel_rfl⟩
theorem e1199:EntryOk Tryz.prog fid 57 (.fn d1199):=⟨Tryz.f57,Tryz.f57.body.getD .skip,by kernel_rfl,by kernel_rfl,by kernel_rfl,⟨by kernel_rfl,by kernel_rfl,fun _=>by kernel_rfl⟩,by kernel_rfl,by kernel_rfl⟩
theorem e1200:EntryOk Tryz.prog fid 58 (.fn d1200):=⟨Tryz.f58,Tryz.f58.body.getD .skip,by kernel_rfl,by kernel_rfl,by kernel_rfl,⟨by kernel_rfl,by kernel_rfl,fun _=>by kernel_rfl⟩,by kernel_rfl,by kernel_rfl⟩
theorem e1565:EntryOk Tryz.prog fid 59 (.fn d1565):=⟨Tryz.f59,Tryz.f59.body.getD .skip,by kernel_rfl,by kernel_rfl,by kernel_rfl,⟨by kernel_rfl,by kernel_rfl,fun _=>by kernel_rfl⟩,by kernel_rfl,by kernel_rfl⟩
theorem e1566:EntryOk Tryz.prog fid 60 (.fn d1566):=⟨Tryz.f60,Tryz.f60.body.getD .skip,by kernel_rfl,by kernel_rfl,by kernel_rfl,⟨by kernel_rfl,by kernel_rfl,fun _=>by kernel_rfl⟩,by kernel_rfl,by kernel_rfl⟩
theorem e1554:EntryOk Tryz.prog fid 61 (.fn d1554):=⟨Tryz.f61,Tryz.f61.body.getD .skip,by kernel_rfl,by kernel_rfl,by kernel_rfl,⟨by kernel_rfl,by kernel_rfl,fun _=>by kernel_rfl⟩,by kernel_rfl,by kernel_rfl⟩
theorem e1567:EntryOk Tryz.prog fid 62 (.fn d1567):=⟨Tryz.f62,Tryz.f62.body.getD .skip,by kernel_rfl,by kernel_rfl,by kernel_rfl,⟨by kernel_rfl,by kernel_rfl,fun _=>by kernel_rfl⟩,by kernel_rfl,by kernel_rfl⟩
theorem e1355:EntryOk Tryz.prog fid 63 (.fn d1355):=⟨Tryz.f63,Tryz.f63.body.getD .skip,by kernel_rfl,by kernel_rfl,by kernel_rfl,⟨by kernel_rfl,by kernel_rfl,fun _=>by kernel_rfl⟩,by kernel_rfl,by kernel_rfl⟩
theorem e1367:EntryOk Tryz.prog fid 64 (.fn d1367):=⟨Tryz.f64,Tryz.f64.body.getD .skip,by kernel_rfl,by kernel_rfl,by kernel_rfl,⟨by kernel_rfl,by kernel_rfl,fun _=>by kernel_rfl⟩,by kernel_rfl,by kernel_rfl⟩
theorem e1368:EntryOk Tryz.prog fid 65 (.fn d1368):=⟨Tryz.f65,Tryz.f65.body.getD .skip,by kernel_rfl,by kernel_rfl,by kernel_rfl,⟨by kernel_rfl,by kernel_rfl,fun _=>by kernel_rfl⟩,by kernel_rfl,by kernel_rfl⟩
theorem e1357:EntryOk Tryz.prog fid 66 (.fn d1357):=⟨Tryz.f66,Tryz.f66.body.getD .skip,by kernel_rfl,by kernel_rfl,by kernel_rfl,⟨by kernel_rfl,by kernel_rfl,fun _=>by kernel_rfl⟩,by kernel_rfl,by kernel_rfl⟩
theorem e1220:EntryOk Tryz.prog fid 67 (.fn d1220):=⟨Tryz.f67,Tryz.f67.body.getD .skip,by kernel_rfl,by kernel_rfl,by kernel_rfl,⟨by kernel_rfl,by kernel_rfl,fun _=>by kernel_rfl⟩,by kernel_rfl,by kernel_rfl⟩
theorem e1221:EntryOk Tryz.prog fid 68 (.fn d1221):=⟨Tryz.f68,Tryz.f68.body.getD .skip,by kernel_rfl,by kernel_rfl,by kernel_rfl,⟨by kernel_rfl,by kernel_rfl,fun _=>by kernel_rfl⟩,by kernel_rfl,by kernel_rfl⟩
theorem e1222:EntryOk Tryz.prog fid 69 (.fn d1222):=⟨Tryz.f69,Tryz.f69.body.getD .skip,by kernel_rfl,by kernel_rfl,by kernel_rfl,⟨by kernel_rfl,by kernel_rfl,fun _=>by kernel_rfl⟩,by kernel_rfl,by kernel_rfl⟩
theorem e1223:EntryOk Tryz.prog fid 70 (.fn d1223):=⟨Tryz.f70,Tryz.f70.body.getD .skip,by kernel_rfl,by kernel_rfl,by kernel_rfl,⟨by kernel_rfl,by kernel_rfl,fun _=>by kernel_rfl⟩,by kernel_rfl,by kernel_rfl⟩
theorem e1060:EntryOk Tryz.prog fid 71 (.fn d1060):=⟨Tryz.f71,Tryz.f71.body.getD .skip,by kernel_rfl,by kernel_rfl,by kernel_rfl,⟨by kernel_rfl,by kernel_rfl,fun _=>by kernel_rfl⟩,by kernel_rfl,by kernel_rfl⟩
theorem e1061:EntryOk Tryz.prog fid 72 (.fn d1061):=⟨Tryz.f72,Tryz.f72.body.getD .skip,by kernel_rfl,by kernel_rfl,by kernel_rfl,⟨by kernel_rfl,by kernel_rfl,fun _=>by kernel_rfl⟩,by kernel_rfl,by kernel_rfl⟩
theorem e1224:EntryOk Tryz.prog fid 73 (.fn d1224):=⟨Tryz.f73,Tryz.f73.body.getD .skip,by kernel_rfl,by kernel_rfl,by kernel_rfl,⟨by kernel_rfl,by kernel_rfl,fun _=>by kernel_rfl⟩,by kernel_rfl,by kernel_rfl⟩
theorem e1210:EntryOk Tryz.prog fid 74 (.fn d1210):=⟨Tryz.f74,Tryz.f74.body.getD .skip,by kernel_rfl,by kernel_rfl,by kernel_rfl,⟨by kernel_rfl,by kernel_rfl,fun _=>by kernel_rfl⟩,by kernel_rfl,by kernel_rfl⟩
theorem e1202:EntryOk Tryz.prog fid 75 (.fn d1202):=⟨Tryz.f75,Tryz.f75.body.getD .skip,by kernel_rfl,by kernel_rfl,by kernel_rfl,⟨by kernel_rfl,by kernel_rfl,fun _=>by kernel_rfl⟩,by kernel_rfl,by kernel_rfl⟩
theorem e1211:EntryOk Tryz.prog fid 76 (.fn d1211):=⟨Tryz.f76,Tryz.f76.body.getD .skip,by kernel_rfl,by kernel_rfl,by kernel_rfl,⟨by kernel_rfl,by kernel_rfl,fun _=>by kernel_rfl⟩,by kernel_rfl,by kernel_rfl⟩
theorem e1024:EntryOk Tryz.prog fid 77 (.orc (cloneG 1 8)):=clone_ok (f:=77) (fn:=Tryz.f77) (c:=Tryz.f77.body.getD .skip) (z:=[.int .i64 0]) (by kernel_rfl) (by kernel_rfl) (by kernel_rfl) ⟨by kernel_rfl,by kernel_rfl,fun _=>by kernel_rfl⟩ (by kernel_rfl)
theorem e1358:EntryOk Tryz.prog fid 78 (.fn d1358):=⟨Tryz.f78,Tryz.f78.body.getD .skip,by kernel_rfl,by kernel_rfl,by kernel_rfl,⟨by kernel_rfl,by kernel_rfl,fun _=>by kernel_rfl⟩,by kernel_rfl,by kernel_rfl⟩
theorem e1571:EntryOk Tryz.prog fid 79 (.fn d1571):=⟨Tryz.f79,Tryz.f79.body.getD .skip,by kernel_rfl,by kernel_rfl,by kernel_rfl,⟨by kernel_rfl,by kernel_rfl,fun _=>by kernel_rfl⟩,by kernel_rfl,by kernel_rfl⟩
theorem e1572:EntryOk Tryz.prog fid 80 (.fn d1572):=⟨Tryz.f80,Tryz.f80.body.getD .skip,by kernel_rfl,by kernel_rfl,by kernel_rfl,⟨by kernel_rfl,by kernel_rfl,fun _=>by kernel_rfl⟩,by kernel_rfl,by kernel_rfl⟩
theorem e1377:EntryOk Tryz.prog fid 81 (.fn d1377):=⟨Tryz.f81,Tryz.f81.body.getD .skip,by kernel_rfl,by kernel_rfl,by kernel_rfl,⟨by kernel_rfl,by kernel_rfl,fun _=>by kernel_rfl⟩,by kernel_rfl,by kernel_rfl⟩
theorem e1378:EntryOk Tryz.prog fid 82 (.fn d1378):=⟨Tryz.f82,Tryz.f82.body.getD .skip,by kernel_rfl,by kernel_rfl,by kernel_rfl,⟨by kernel_rfl,by kernel_rfl,fun _=>by kernel_rfl⟩,by kernel_rfl,by kernel_rfl⟩
theorem e1356:EntryOk Tryz.prog fid 83 (.fn d1356):=⟨Tryz.f83,Tryz.f83.body.getD .skip,by kernel_rfl,by kernel_rfl,by kernel_rfl,⟨by kernel_rfl,by kernel_rfl,fun _=>by kernel_rfl⟩,by kernel_rfl,by kernel_rfl⟩
theorem e1370:EntryOk Tryz.prog fid 84 (.fn d1370):=⟨Tryz.f84,Tryz.f84.body.getD .skip,by kernel_rfl,by kernel_rfl,by kernel_rfl,⟨by kernel_rfl,by kernel_rfl,fun _=>by kernel_rfl⟩,by kernel_rfl,by kernel_rfl⟩
theorem e1371:EntryOk Tryz.prog fid 85 (.fn d1371):=⟨Tryz.f85,Tryz.f85.body.getD .skip,by kernel_rfl,by kernel_rfl,by kernel_rfl,⟨by kernel_rfl,by kernel_rfl,fun _=>by kernel_rfl⟩,by kernel_rfl,by kernel_rfl⟩
theorem e1072:EntryOk Tryz.prog fid 86 (.fn d1072):=⟨Tryz.f86,Tryz.f86.body.getD .skip,by kernel_rfl,by kernel_rfl,by kernel_rfl,⟨by kernel_rfl,by kernel_rfl,fun _=>by kernel_rfl⟩,by kernel_rfl,by kernel_rfl⟩
theorem e1225:EntryOk Tryz.prog fid 87 (.orc cmpG):=cmp_ok fid
theorem e1219:EntryOk Tryz.prog fid 88 (.fn d1219):=⟨Tryz.f88,Tryz.f88.body.getD .skip,by kernel_rfl,by kernel_rfl,by kernel_rfl,⟨by kernel_rfl,by kernel_rfl,fun _=>by kernel_rfl⟩,by kernel_rfl,by kernel_rfl⟩
theorem e1212:EntryOk Tryz.prog fid 89 (.fn d1212):=⟨Tryz.f89,Tryz.f89.body.getD .skip,by kernel_rfl,by kernel_rfl,by kernel_rfl,⟨by kernel_rfl,by kernel_rfl,fun _=>by kernel_rfl⟩,by kernel_rfl,by kernel_rfl⟩
theorem e1372:EntryOk Tryz.prog fid 90 (.fn d1372):=⟨Tryz.f90,Tryz.f90.body.getD .skip,by kernel_rfl,by kernel_rfl,by kernel_rfl,⟨by kernel_rfl,by kernel_rfl,fun _=>by kernel_rfl⟩,by kernel_rfl,by kernel_rfl⟩
theorem e1059:EntryOk Tryz.prog fid 91 (.fn d1059):=⟨Tryz.f91,Tryz.f91.body.getD .skip,by kernel_rfl,by kernel_rfl,by kernel_rfl,⟨by kernel_rfl,by kernel_rfl,fun _=>by kernel_rfl⟩,by kernel_rfl,by kernel_rfl⟩
theorem e1387:EntryOk Tryz.prog fid 92 (.fn d1387):=⟨Tryz.f92,Tryz.f92.body.getD .skip,by kernel_rfl,by kernel_rfl,by kernel_rfl,⟨by kernel_rfl,by kernel_rfl,fun _=>by kernel_rfl⟩,by kernel_rfl,by kernel_rfl⟩
theorem e1388:EntryOk Tryz.prog fid 93 (.fn d1388):=⟨Tryz.f93,Tryz.f93.body.getD .skip,by kernel_rfl,by kernel_rfl,by kernel_rfl,⟨by kernel_rfl,by kernel_rfl,fun _=>by kernel_rfl⟩,by kernel_rfl,by kernel_rfl⟩
theorem e1379:EntryOk Tryz.prog fid 95 (.fn d1379):=⟨Tryz.f95,Tryz.f95.body.getD .skip,by kernel_rfl,by kernel_rfl,by kernel_rfl,⟨by kernel_rfl,by kernel_rfl,fun _=>by kernel_rfl⟩,by kernel_rfl,by kernel_rfl⟩
theorem e1380:EntryOk Tryz.prog fid 96 (.fn d1380):=⟨Tryz.f96,Tryz.f96.body.getD .skip,by kernel_rfl,by kernel_rfl,by kernel_rfl,⟨by kernel_rfl,by kernel_rfl,fun _=>by kernel_rfl⟩,by kernel_rfl,by kernel_rfl⟩
theorem e1381:EntryOk Tryz.prog fid 97 (.fn d1381):=⟨Tryz.f97,Tryz.f97.body.getD .skip,by kernel_rfl,by kernel_rfl,by kernel_rfl,⟨by kernel_rfl,by kernel_rfl,fun _=>by kernel_rfl⟩,by kernel_rfl,by kernel_rfl⟩
theorem e1382:EntryOk Tryz.prog fid 98 (.fn d1382):=⟨Tryz.f98,Tryz.f98.body.getD .skip,by kernel_rfl,by kernel_rfl,by kernel_rfl,⟨by kernel_rfl,by kernel_rfl,fun _=>by kernel_rfl⟩,by kernel_rfl,by kernel_rfl⟩
theorem e1383:EntryOk Tryz.prog fid 99 (.fn d1383):=⟨Tryz.f99,Tryz.f99.body.getD .skip,by kernel_rfl,by kernel_rfl,by kernel_rfl,⟨by kernel_rfl,by kernel_rfl,fun _=>by kernel_rfl⟩,by kernel_rfl,by kernel_rfl⟩
theorem e1384:EntryOk Tryz.prog fid 100 (.fn d1384):=⟨Tryz.f100,Tryz.f100.body.getD .skip,by kernel_rfl,by kernel_rfl,by kernel_rfl,⟨by kernel_rfl,by kernel_rfl,fun _=>by kernel_rfl⟩,by kernel_rfl,by kernel_rfl⟩
theorem e1385:EntryOk Tryz.prog fid 101 (.fn d1385):=⟨Tryz.f101,Tryz.f101.body.getD .skip,by kernel_rfl,by kernel_rfl,by kernel_rfl,⟨by kernel_rfl,by kernel_rfl,fun _=>by kernel_rfl⟩,by kernel_rfl,by kernel_rfl⟩
theorem e1386:EntryOk Tryz.prog fid 102 (.fn d1386):=⟨Tryz.f102,Tryz.f102.body.getD .skip,by kernel_rfl,by kernel_rfl,by kernel_rfl,⟨by kernel_rfl,by kernel_rfl,fun _=>by kernel_rfl⟩,by kernel_rfl,by kernel_rfl⟩
theorem e1070:EntryOk Tryz.prog fid 103 (.fn d1070):=⟨Tryz.f103,Tryz.f103.body.getD .skip,by kernel_rfl,by kernel_rfl,by kernel_rfl,⟨by kernel_rfl,by kernel_rfl,fun _=>by kernel_rfl⟩,by kernel_rfl,by kernel_rfl⟩
theorem e1071:EntryOk Tryz.prog fid 104 (.fn d1071):=⟨Tryz.f104,Tryz.f104.body.getD .skip,by kernel_rfl,by kernel_rfl,by kernel_rfl,⟨by kernel_rfl,by kernel_rfl,fun _=>by kernel_rfl⟩,by kernel_rfl,by kernel_rfl⟩
theorem e1389:EntryOk Tryz.prog fid 105 (.fn d1389):=⟨Tryz.f105,Tryz.f105.body.getD .skip,by kernel_rfl,by kernel_rfl,by kernel_rfl,⟨by kernel_rfl,by kernel_rfl,fun _=>by kernel_rfl⟩,by kernel_rfl,by kernel_rfl⟩
theorem e1074:EntryOk Tryz.prog fid 106 (.fn d1074):=⟨Tryz.f106,Tryz.f106.body.getD .skip,by kernel_rfl,by kernel_rfl,by kernel_rfl,⟨by kernel_rfl,by kernel_rfl,fun _=>by kernel_rfl⟩,by kernel_rfl,by kernel_rfl⟩
theorem e1075:EntryOk Tryz.prog fid 107 (.fn d1075):=⟨Tryz.f107,Tryz.f107.body.getD .skip,by kernel_rfl,by kernel_rfl,by kernel_rfl,⟨by kernel_rfl,by kernel_rfl,fun _=>by kernel_rfl⟩,by kernel_rfl,by kernel_rfl⟩
theorem e1390:EntryOk Tryz.prog fid 108 (.fn d1390):=⟨Tryz.f108,Tryz.f108.body.getD .skip,by kernel_rfl,by kernel_rfl,by kernel_rfl,⟨by kernel_rfl,by kernel_rfl,fun _=>by kernel_rfl⟩,by kernel_rfl,by kernel_rfl⟩
theorem e1391:EntryOk Tryz.prog fid 109 (.fn d1391):=⟨Tryz.f109,Tryz.f109.body.getD .skip,by kernel_rfl,by kernel_rfl,by kernel_rfl,⟨by kernel_rfl,by kernel_rfl,fun _=>by kernel_rfl⟩,by kernel_rfl,by kernel_rfl⟩
theorem e1392:EntryOk Tryz.prog fid 110 (.fn d1392):=⟨Tryz.f110,Tryz.f110.body.getD .skip,by kernel_rfl,by kernel_rfl,by kernel_rfl,⟨by kernel_rfl,by kernel_rfl,fun _=>by kernel_rfl⟩,by kernel_rfl,by kernel_rfl⟩
theorem e1694:EntryOk Tryz.prog fid 127 (.fn d1694):=⟨Tryz.f127,Tryz.f127.body.getD .skip,by kernel_rfl,by kernel_rfl,by kernel_rfl,⟨by kernel_rfl,by kernel_rfl,fun _=>by kernel_rfl⟩,by kernel_rfl,by kernel_rfl⟩
theorem e1695:EntryOk Tryz.prog fid 128 (.fn d1695):=⟨Tryz.f128,Tryz.f128.body.getD .skip,by kernel_rfl,by kernel_rfl,by kernel_rfl,⟨by kernel_rfl,by kernel_rfl,fun _=>by kernel_rfl⟩,by kernel_rfl,by kernel_rfl⟩
theorem e1696:EntryOk Tryz.prog fid 129 (.fn d1696):=⟨Tryz.f129,Tryz.f129.body.getD .skip,by kernel_rfl,by kernel_rfl,by kernel_rfl,⟨by kernel_rfl,by kernel_rfl,fun _=>by kernel_rfl⟩,by kernel_rfl,by kernel_rfl⟩
theorem e1697:EntryOk Tryz.prog fid 130 (.fn d1697):=⟨Tryz.f130,Tryz.f130.body.getD .skip,by kernel_rfl,by kernel_rfl,by kernel_rfl,⟨by kernel_rfl,by kernel_rfl,fun _=>by kernel_rfl⟩,by kernel_rfl,by kernel_rfl⟩
theorem e1498:EntryOk Tryz.prog fid 131 (.fn d1498):=⟨Tryz.f131,Tryz.f131.body.getD .skip,by kernel_rfl,by kernel_rfl,by kernel_rfl,⟨by kernel_rfl,by kernel_rfl,fun _=>by kernel_rfl⟩,by kernel_rfl,by kernel_rfl⟩
theorem fid_mem:∀ {l:List (Nat × Nat)} {f k:Nat},l.lookup f=some k→(f,k)∈l
 | [],_,_,h=>by cases h
 | (a,b)::l,f,k,h=>by
  rw [List.lookup_cons] at h
  split at h
  ·rename_i hf
   injection h with h
   subst h
   rw [show f=a by simpa using hf]
   exact List.mem_cons_self
  ·exact List.mem_cons_of_mem _ (fid_mem h)
def AllOk:List (Nat × Nat)→Prop
 | []=>True
 |p::l=>(∀ e,tab p.2=some e→EntryOk Tryz.prog fid p.1 e)∧AllOk l
theorem all_mem:∀ {l:List (Nat × Nat)},AllOk l→∀ p∈l,∀ e,tab p.2=some e→EntryOk Tryz.prog fid p.1 e
 |_::_,h,p,hp=>by
  rcases List.mem_cons.1 hp with rfl | hp
  ·exact h.1
  ·exact all_mem h.2 p hp
theorem one_ok {f k:Nat} {d:Entry} (h:tab k=some d) (e:EntryOk Tryz.prog fid f d):∀ x,tab k=some x→EntryOk Tryz.prog fid f x:=by
 intro x hx
 rw [h] at hx
 injection hx with hx
 exact hx ▸ e
theorem none_ok {f k:Nat} (h:tab k=none):∀ x,tab k=some x→EntryOk Tryz.prog fid f x:=by
 intro x hx
 rw [h] at hx
 cases hx
theorem all_ok:AllOk fidL:=⟨one_ok t1699 e1699,one_ok t1700 e1700,one_ok t1686 e1686,one_ok t1176 e1176,one_ok t1597 e1597,one_ok t1687 e1687,one_ok t1701 e1701,one_ok t1689 e1689,one_ok t1702 e1702,one_ok t1688 e1688,one_ok t1439 e1439,one_ok t1187 e1187,one_ok t1560 e1560,one_ok t1692 e1692,one_ok t1703 e1703,one_ok t1016 e1016,one_ok t1175 e1175,one_ok t1595 e1595,one_ok t1022 e1022,one_ok t1690 e1690,one_ok t1691 e1691,one_ok t1336 e1336,one_ok t1598 e1598,one_ok t1704 e1704,one_ok t1203 e1203,one_ok t1198 e1198,one_ok t1693 e1693,one_ok t1192 e1192,one_ok t1341 e1341,one_ok t1194 e1194,one_ok t1335 e1335,one_ok t1204 e1204,one_ok t1354 e1354,one_ok t1021 e1021,one_ok t1600 e1600,one_ok t1602 e1602,one_ok t1487 e1487,one_ok t1213 e1213,one_ok t1208 e1208,one_ok t1209 e1209,one_ok t1188 e1188,one_ok t1558 e1558,one_ok t1369 e1369,one_ok t1353 e1353,one_ok t1205 e1205,one_ok t1206 e1206,one_ok t1207 e1207,one_ok t1330 e1330,one_ok t1020 e1020,one_ok t1214 e1214,one_ok t1215 e1215,one_ok t1216 e1216,one_ok t1217 e1217,one_ok t1218 e1218,one_ok t1199 e1199,one_ok t1200 e1200,one_ok t1565 e1565,one_ok t1566 e1566,one_ok t1554 e1554,one_ok t1567 e1567,one_ok t1355 e1355,one_ok t1367 e1367,one_ok t1368 e1368,one_ok t1357 e1357,one_ok t1220 e1220,one_ok t1221 e1221,one_ok t1222 e1222,one_ok t1223 e1223,one_ok t1060 e1060,one_ok t1061 e1061,one_ok t1224 e1224,one_ok t1210 e1210,one_ok t1202 e1202,one_ok t1211 e1211,one_ok t1024 e1024,one_ok t1358 e1358,one_ok t1571 e1571,one_ok t1572 e1572,one_ok t1377 e1377,one_ok t1378 e1378,one_ok t1356 e1356,one_ok t1370 e1370,one_ok t1371 e1371,one_ok t1072 e1072,one_ok t1225 e1225,one_ok t1219 e1219,one_ok t1212 e1212,one_ok t1372 e1372,one_ok t1059 e1059,one_ok t1387 e1387,one_ok t1388 e1388,one_ok t1379 e1379,one_ok t1380 e1380,one_ok t1381 e1381,one_ok t1382 e1382,one_ok t1383 e1383,one_ok t1384 e1384,one_ok t1385 e1385,one_ok t1386 e1386,one_ok t1070 e1070,one_ok t1071 e1071,one_ok t1389 e1389,one_ok t1074 e1074,one_ok t1075 e1075,one_ok t1390 e1390,one_ok t1391 e1391,one_ok t1392 e1392,one_ok t1694 e1694,one_ok t1695 e1695,one_ok t1696 e1696,one_ok t1697 e1697,one_ok t1498 e1498,none_ok n1226,none_ok n1698,trivial⟩
theorem goodP:Good Tryz.prog fid tab:=fun f k e hf he=>all_mem all_ok (f,k) (fid_mem hf) e he
end Go.Proofs.YtgiofefdfcaibaaGreat
