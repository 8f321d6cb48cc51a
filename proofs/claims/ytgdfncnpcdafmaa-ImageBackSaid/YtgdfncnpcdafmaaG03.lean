import Derived.Test.YtgdfncnpcdafmaaT03
import Derived.Test.YtgdfncnpcdafmaaProg
import Derived.KernelRfl
import Derived.Test.YtgdfncnpcdafmaaKcq
namespace Go.Proofs.Ytgdfncnpcdafmaa
set_option linter.unusedSimpArgs false
set_option linter.unusedVariables false
set_option maxRecDepth 1000000
theorem e1658:EntryOk Try.prog fid 3 (.fn d1658):=⟨Try.f3,Try.f3.body.getD .skip,by kernel_rfl,by kernel_rfl,by kernel_rfl,⟨by kernel_rfl,by kernel_rfl,fun _=>by kernel_rfl⟩,by kernel_rfl,by kernel_rfl⟩
theorem e1659:EntryOk Try.prog fid 4 (.fn d1659):=⟨Try.f4,Try.f4.body.getD .skip,by kernel_rfl,by kernel_rfl,by kernel_rfl,⟨by kernel_rfl,by kernel_rfl,fun _=>by kernel_rfl⟩,by kernel_rfl,by kernel_rfl⟩
theorem e1660:EntryOk Try.prog fid 5 (.fn d1660):=⟨Try.f5,Try.f5.body.getD .skip,by kernel_rfl,by kernel_rfl,by kernel_rfl,⟨by kernel_rfl,by kernel_rfl,fun _=>by kernel_rfl⟩,by kernel_rfl,by kernel_rfl⟩
theorem e1661:EntryOk Try.prog fid 6 (.fn d1661):=⟨Try.f6,Try.f6.body.getD .skip,by kernel_rfl,by kernel_rfl,by kernel_rfl,⟨by kernel_rfl,by kernel_rfl,fun _=>by kernel_rfl⟩,by kernel_rfl,by kernel_rfl⟩
theorem e1662:EntryOk Try.prog fid 7 (.fn d1662):=⟨Try.f7,Try.f7.body.getD .skip,by kernel_rfl,by kernel_rfl,by kernel_rfl,⟨by kernel_rfl,by kernel_rfl,fun _=>by kernel_rfl⟩,by kernel_rfl,by kernel_rfl⟩
theorem e1263:EntryOk Try.prog fid 8 (.fn d1263):=⟨Try.f8,Try.f8.body.getD .skip,by kernel_rfl,by kernel_rfl,by kernel_rfl,⟨by kernel_rfl,by kernel_rfl,fun _=>by kernel_rfl⟩,by kernel_rfl,by kernel_rfl⟩
theorem e1264:EntryOk Try.prog fid 9 (.fn d1264):=⟨Try.f9,Try.f9.body.getD .skip,by kernel_rfl,by kernel_rfl,by kernel_rfl,⟨by kernel_rfl,by kernel_rfl,fun _=>by kernel_rfl⟩,by kernel_rfl,by kernel_rfl⟩
theorem e1663:EntryOk Try.prog fid 10 (.fn d1663):=⟨Try.f10,Try.f10.body.getD .skip,by kernel_rfl,by kernel_rfl,by kernel_rfl,⟨by kernel_rfl,by kernel_rfl,fun _=>by kernel_rfl⟩,by kernel_rfl,by kernel_rfl⟩
theorem e1664:EntryOk Try.prog fid 11 (.fn d1664):=⟨Try.f11,Try.f11.body.getD .skip,by kernel_rfl,by kernel_rfl,by kernel_rfl,⟨by kernel_rfl,by kernel_rfl,fun _=>by kernel_rfl⟩,by kernel_rfl,by kernel_rfl⟩
theorem e1665:EntryOk Try.prog fid 12 (.fn d1665):=⟨Try.f12,Try.f12.body.getD .skip,by kernel_rfl,by kernel_rfl,by kernel_rfl,⟨by kernel_rfl,by kernel_rfl,fun _=>by kernel_rfl⟩,by kernel_rfl,by kernel_rfl⟩
theorem e1267:EntryOk Try.prog fid 13 (.fn d1267):=⟨Try.f13,Try.f13.body.getD .skip,by kernel_rfl,by kernel_rfl,by kernel_rfl,⟨by kernel_rfl,by kernel_rfl,fun _=>by kernel_rfl⟩,by kernel_rfl,by kernel_rfl⟩
theorem e1666:EntryOk Try.prog fid 14 (.fn d1666):=⟨Try.f14,Try.f14.body.getD .skip,by kernel_rfl,by kernel_rfl,by kernel_rfl,⟨by kernel_rfl,by kernel_rfl,fun _=>by kernel_rfl⟩,by kernel_rfl,by kernel_rfl⟩
theorem e1667:EntryOk Try.prog fid 15 (.fn d1667):=⟨Try.f15,Try.f15.body.getD .skip,by kernel_rfl,by kernel_rfl,by kernel_rfl,⟨by kernel_rfl,by kernel_rfl,fun _=>by kernel_rfl⟩,by kernel_rfl,by kernel_rfl⟩
theorem e1265:EntryOk Try.prog fid 16 (.fn d1265):=⟨Try.f16,Try.f16.body.getD .skip,by kernel_rfl,by kernel_rfl,by kernel_rfl,⟨by kernel_rfl,by kernel_rfl,fun _=>by kernel_rfl⟩,by kernel_rfl,by kernel_rfl⟩
theorem e1208:EntryOk Try.prog fid 17 (.fn d1208):=⟨Try.f17,Try.f17.body.getD .skip,by kernel_rfl,by kernel_rfl,by kernel_rfl,⟨by kernel_rfl,by kernel_rfl,fun _=>by kernel_rfl⟩,by kernel_rfl,by kernel_rfl⟩
theorem e1276:EntryOk Try.prog fid 18 (.fn d1276):=⟨Try.f18,Try.f18.body.getD .skip,by kernel_rfl,by kernel_rfl,by kernel_rfl,⟨by kernel_rfl,by kernel_rfl,fun _=>by kernel_rfl⟩,by kernel_rfl,by kernel_rfl⟩
theorem e1421:EntryOk Try.prog fid 19 (.fn d1421):=⟨Try.f19,Try.f19.body.getD .skip,by kernel_rfl,by kernel_rfl,by kernel_rfl,⟨by kernel_rfl,by kernel_rfl,fun _=>by kernel_rfl⟩,by kernel_rfl,by kernel_rfl⟩
theorem e1668:EntryOk Try.prog fid 20 (.fn d1668):=⟨Try.f20,Try.f20.body.getD .skip,by kernel_rfl,by kernel_rfl,by kernel_rfl,⟨by kernel_rfl,by kernel_rfl,fun _=>by kernel_rfl⟩,by kernel_rfl,by kernel_rfl⟩
theorem e1639:EntryOk Try.prog fid 21 (.fn d1639):=⟨Try.f21,Try.f21.body.getD .skip,by kernel_rfl,by kernel_rfl,by kernel_rfl,⟨by kernel_rfl,by kernel_rfl,fun _=>by kernel_rfl⟩,by kernel_rfl,by kernel_rfl⟩
theorem e1269:EntryOk Try.prog fid 22 (.fn d1269):=⟨Try.f22,Try.f22.body.getD .skip,by kernel_rfl,by kernel_rfl,by kernel_rfl,⟨by kernel_rfl,by kernel_rfl,fun _=>by kernel_rfl⟩,by kernel_rfl,by kernel_rfl⟩
theorem e1464:EntryOk Try.prog fid 23 (.fn d1464):=⟨Try.f23,Try.f23.body.getD .skip,by kernel_rfl,by kernel_rfl,by kernel_rfl,⟨by kernel_rfl,by kernel_rfl,fun _=>by kernel_rfl⟩,by kernel_rfl,by kernel_rfl⟩
theorem e1669:EntryOk Try.prog fid 24 (.fn d1669):=⟨Try.f24,Try.f24.body.getD .skip,by kernel_rfl,by kernel_rfl,by kernel_rfl,⟨by kernel_rfl,by kernel_rfl,fun _=>by kernel_rfl⟩,by kernel_rfl,by kernel_rfl⟩
theorem e1670:EntryOk Try.prog fid 25 (.fn d1670):=⟨Try.f25,Try.f25.body.getD .skip,by kernel_rfl,by kernel_rfl,by kernel_rfl,⟨by kernel_rfl,by kernel_rfl,fun _=>by kernel_rfl⟩,by kernel_rfl,by kernel_rfl⟩
theorem e1641:EntryOk Try.prog fid 26 (.fn d1641):=⟨Try.f26,Try.f26.body.getD .skip,by kernel_rfl,by kernel_rfl,by kernel_rfl,⟨by kernel_rfl,by kernel_rfl,fun _=>by kernel_rfl⟩,by kernel_rfl,by kernel_rfl⟩
theorem e1105:EntryOk Try.prog fid 27 (.fn d1105):=⟨Try.f27,Try.f27.body.getD .skip,by kernel_rfl,by kernel_rfl,by kernel_rfl,⟨by kernel_rfl,by kernel_rfl,fun _=>by kernel_rfl⟩,by kernel_rfl,by kernel_rfl⟩
theorem e1672:EntryOk Try.prog fid 29 (.fn d1672):=⟨Try.f29,Try.f29.body.getD .skip,by kernel_rfl,by kernel_rfl,by kernel_rfl,⟨by kernel_rfl,by kernel_rfl,fun _=>by kernel_rfl⟩,by kernel_rfl,by kernel_rfl⟩
theorem e1455:EntryOk Try.prog fid 30 (.fn d1455):=⟨Try.f30,Try.f30.body.getD .skip,by kernel_rfl,by kernel_rfl,by kernel_rfl,⟨by kernel_rfl,by kernel_rfl,fun _=>by kernel_rfl⟩,by kernel_rfl,by kernel_rfl⟩
theorem e1673:EntryOk Try.prog fid 31 (.fn d1673):=⟨Try.f31,Try.f31.body.getD .skip,by kernel_rfl,by kernel_rfl,by kernel_rfl,⟨by kernel_rfl,by kernel_rfl,fun _=>by kernel_rfl⟩,by kernel_rfl,by kernel_rfl⟩
theorem e1214:EntryOk Try.prog fid 32 (.fn d1214):=⟨Try.f32,Try.f32.body.getD .skip,by kernel_rfl,by kernel_rfl,by kernel_rfl,⟨by kernel_rfl,by kernel_rfl,fun _=>by kernel_rfl⟩,by kernel_rfl,by kernel_rfl⟩
theorem e1277:EntryOk Try.prog fid 33 (.fn d1277):=⟨Try.f33,Try.f33.body.getD .skip,by kernel_rfl,by kernel_rfl,by kernel_rfl,⟨by kernel_rfl,by kernel_rfl,fun _=>by kernel_rfl⟩,by kernel_rfl,by kernel_rfl⟩
theorem e1218:EntryOk Try.prog fid 34 (.fn d1218):=⟨Try.f34,Try.f34.body.getD .skip,by kernel_rfl,by kernel_rfl,by kernel_rfl,⟨by kernel_rfl,by kernel_rfl,fun _=>by kernel_rfl⟩,by kernel_rfl,by kernel_rfl⟩
theorem e1278:EntryOk Try.prog fid 35 (.fn d1278):=⟨Try.f35,Try.f35.body.getD .skip,by kernel_rfl,by kernel_rfl,by kernel_rfl,⟨by kernel_rfl,by kernel_rfl,fun _=>by kernel_rfl⟩,by kernel_rfl,by kernel_rfl⟩
theorem e1216:EntryOk Try.prog fid 36 (.fn d1216):=⟨Try.f36,Try.f36.body.getD .skip,by kernel_rfl,by kernel_rfl,by kernel_rfl,⟨by kernel_rfl,by kernel_rfl,fun _=>by kernel_rfl⟩,by kernel_rfl,by kernel_rfl⟩
theorem e1215:EntryOk Try.prog fid 37 (.fn d1215):=⟨Try.f37,Try.f37.body.getD .skip,by kernel_rfl,by kernel_rfl,by kernel_rfl,⟨by kernel_rfl,by kernel_rfl,fun _=>by kernel_rfl⟩,by kernel_rfl,by kernel_rfl⟩
theorem e1217:EntryOk Try.prog fid 38 (.fn d1217):=⟨Try.f38,Try.f38.body.getD .skip,by kernel_rfl,by kernel_rfl,by kernel_rfl,⟨by kernel_rfl,by kernel_rfl,fun _=>by kernel_rfl⟩,by kernel_rfl,by kernel_rfl⟩
theorem e1432:EntryOk Try.prog fid 39 (.fn d1432):=⟨Try.f39,Try.f39.body.getD .skip,by kernel_rfl,by kernel_rfl,by kernel_rfl,⟨by kernel_rfl,by kernel_rfl,fun _=>by kernel_rfl⟩,by kernel_rfl,by kernel_rfl⟩
theorem e1674:EntryOk Try.prog fid 40 (.fn d1674):=⟨Try.f40,Try.f40.body.getD .skip,by kernel_rfl,by kernel_rfl,by kernel_rfl,⟨by kernel_rfl,by kernel_rfl,fun _=>by kernel_rfl⟩,by kernel_rfl,by kernel_rfl⟩
theorem e1647:EntryOk Try.prog fid 41 (.fn d1647):=⟨Try.f41,Try.f41.body.getD .skip,by kernel_rfl,by kernel_rfl,by kernel_rfl,⟨by kernel_rfl,by kernel_rfl,fun _=>by kernel_rfl⟩,by kernel_rfl,by kernel_rfl⟩
theorem e1268:EntryOk Try.prog fid 42 (.fn d1268):=⟨Try.f42,Try.f42.body.getD .skip,by kernel_rfl,by kernel_rfl,by kernel_rfl,⟨by kernel_rfl,by kernel_rfl,fun _=>by kernel_rfl⟩,by kernel_rfl,by kernel_rfl⟩
theorem e1281:EntryOk Try.prog fid 43 (.fn d1281):=⟨Try.f43,Try.f43.body.getD .skip,by kernel_rfl,by kernel_rfl,by kernel_rfl,⟨by kernel_rfl,by kernel_rfl,fun _=>by kernel_rfl⟩,by kernel_rfl,by kernel_rfl⟩
theorem e1444:EntryOk Try.prog fid 45 (.fn d1444):=⟨Try.f45,Try.f45.body.getD .skip,by kernel_rfl,by kernel_rfl,by kernel_rfl,⟨by kernel_rfl,by kernel_rfl,fun _=>by kernel_rfl⟩,by kernel_rfl,by kernel_rfl⟩
theorem e1470:EntryOk Try.prog fid 46 (.fn d1470):=⟨Try.f46,Try.f46.body.getD .skip,by kernel_rfl,by kernel_rfl,by kernel_rfl,⟨by kernel_rfl,by kernel_rfl,fun _=>by kernel_rfl⟩,by kernel_rfl,by kernel_rfl⟩
theorem e1445:EntryOk Try.prog fid 47 (.fn d1445):=⟨Try.f47,Try.f47.body.getD .skip,by kernel_rfl,by kernel_rfl,by kernel_rfl,⟨by kernel_rfl,by kernel_rfl,fun _=>by kernel_rfl⟩,by kernel_rfl,by kernel_rfl⟩
theorem e1676:EntryOk Try.prog fid 48 (.fn d1676):=⟨Try.f48,Try.f48.body.getD .skip,by kernel_rfl,by kernel_rfl,by kernel_rfl,⟨by kernel_rfl,by kernel_rfl,fun _=>by kernel_rfl⟩,by kernel_rfl,by kernel_rfl⟩
theorem e1677:EntryOk Try.prog fid 49 (.fn d1677):=⟨Try.f49,Try.f49.body.getD .skip,by kernel_rfl,by kernel_rfl,by kernel_rfl,⟨by kernel_rfl,by kernel_rfl,fun _=>by kernel_rfl⟩,by kernel_rfl,by kernel_rfl⟩
theorem e1678:EntryOk Try.prog fid 50 (.fn d1678):=⟨Try.f50,Try.f50.body.getD .skip,by kernel_rfl,by kernel_rfl,by kernel_rfl,⟨by kernel_rfl,by kernel_rfl,fun _=>by kernel_rfl⟩,by kernel_rfl,by kernel_rfl⟩
theorem e1651:EntryOk Try.prog fid 51 (.fn d1651):=⟨Try.f51,Try.f51.body.getD .skip,by kernel_rfl,by kernel_rfl,by kernel_rfl,⟨by kernel_rfl,by kernel_rfl,fun _=>by kernel_rfl⟩,by kernel_rfl,by kernel_rfl⟩
theorem e1220:EntryOk Try.prog fid 52 (.fn d1220):=⟨Try.f52,Try.f52.body.getD .skip,by kernel_rfl,by kernel_rfl,by kernel_rfl,⟨by kernel_rfl,by kernel_rfl,fun _=>by kernel_rfl⟩,by kernel_rfl,by kernel_rfl⟩
theorem e1221:EntryOk Try.prog fid 53 (.fn d1221):=⟨Try.f53,Try.f53.body.getD .skip,by kernel_rfl,by kernel_rfl,by kernel_rfl,⟨by kernel_rfl,by kernel_rfl,fun _=>by kernel_rfl⟩,by kernel_rfl,by kernel_rfl⟩
theorem e1222:EntryOk Try.prog fid 54 (.fn d1222):=⟨Try.f54,Try.f54.body.getD .skip,by kernel_rfl,by kernel_rfl,by kernel_rfl,⟨by kernel_rfl,by kernel_rfl,fun _=>by kernel_rfl⟩,by kernel_rfl,by kernel_rfl⟩
theorem e1104:EntryOk Try.prog fid 55 (.orc (cloneG 1 16)):=clone_ok (f:=55) (fn:=Try.f55) (c:=Try.f55.body.getD .skip) (z:=[.str []]) (by kernel_rfl) (by kernel_rfl) (by kernel_rfl) ⟨by kernel_rfl,by kernel_rfl,fun _=>by kernel_rfl⟩ (by kernel_rfl)
theorem e1282:EntryOk Try.prog fid 56 (.fn d1282):=⟨Try.f56,Try.f56.body.getD .skip,by kernel_rfl,by kernel_rfl,by kernel_rfl,⟨by kernel_rfl,by kernel_rfl,fun _=>by kernel_rfl⟩,by kernel_rfl,by kernel_rfl⟩
theorem e1224:EntryOk Try.prog fid 57 (.fn d1224):=⟨Try.f57,Try.f57.body.getD .skip,by kernel_rfl,by kernel_rfl,by kernel_rfl,⟨by kernel_rfl,by kernel_rfl,fun _=>by kernel_rfl⟩,by kernel_rfl,by kernel_rfl⟩
theorem e1283:EntryOk Try.prog fid 58 (.orc (cloneG 2 16)):=clone_ok (f:=58) (fn:=Try.f58) (c:=Try.f58.body.getD .skip) (z:=[.int .i64 0,.int .i64 0]) (by kernel_rfl) (by kernel_rfl) (by kernel_rfl) ⟨by kernel_rfl,by kernel_rfl,fun _=>by kernel_rfl⟩ (by kernel_rfl)
theorem e1284:EntryOk Try.prog fid 59 (.fn d1284):=⟨Try.f59,Try.f59.body.getD .skip,by kernel_rfl,by kernel_rfl,by kernel_rfl,⟨by kernel_rfl,by kernel_rfl,fun _=>by kernel_rfl⟩,by kernel_rfl,by kernel_rfl⟩
theorem e1223:EntryOk Try.prog fid 60 (.fn d1223):=⟨Try.f60,Try.f60.body.getD .skip,by kernel_rfl,by kernel_rfl,by kernel_rfl,⟨by kernel_rfl,by kernel_rfl,fun _=>by kernel_rfl⟩,by kernel_rfl,by kernel_rfl⟩
theorem e1060:EntryOk Try.prog fid 61 (.fn d1060):=⟨Try.f61,Try.f61.body.getD .skip,by kernel_rfl,by kernel_rfl,by kernel_rfl,⟨by kernel_rfl,by kernel_rfl,fun _=>by kernel_rfl⟩,by kernel_rfl,by kernel_rfl⟩
theorem e1061:EntryOk Try.prog fid 62 (.fn d1061):=⟨Try.f62,Try.f62.body.getD .skip,by kernel_rfl,by kernel_rfl,by kernel_rfl,⟨by kernel_rfl,by kernel_rfl,fun _=>by kernel_rfl⟩,by kernel_rfl,by kernel_rfl⟩
theorem e1441:EntryOk Try.prog fid 63 (.fn d1441):=⟨Try.f63,Try.f63.body.getD .skip,by kernel_rfl,by kernel_rfl,by kernel_rfl,⟨by kernel_rfl,by kernel_rfl,fun _=>by kernel_rfl⟩,by kernel_rfl,by kernel_rfl⟩
theorem e1442:EntryOk Try.prog fid 64 (.fn d1442):=⟨Try.f64,Try.f64.body.getD .skip,by kernel_rfl,by kernel_rfl,by kernel_rfl,⟨by kernel_rfl,by kernel_rfl,fun _=>by kernel_rfl⟩,by kernel_rfl,by kernel_rfl⟩
theorem e1270:EntryOk Try.prog fid 65 (.fn d1270):=⟨Try.f65,Try.f65.body.getD .skip,by kernel_rfl,by kernel_rfl,by kernel_rfl,⟨by kernel_rfl,by kernel_rfl,fun _=>by kernel_rfl⟩,by kernel_rfl,by kernel_rfl⟩
theorem e1459:EntryOk Try.prog fid 66 (.fn d1459):=⟨Try.f66,Try.f66.body.getD .skip,by kernel_rfl,by kernel_rfl,by kernel_rfl,⟨by kernel_rfl,by kernel_rfl,fun _=>by kernel_rfl⟩,by kernel_rfl,by kernel_rfl⟩
theorem e1679:EntryOk Try.prog fid 67 (.fn d1679):=⟨Try.f67,Try.f67.body.getD .skip,by kernel_rfl,by kernel_rfl,by kernel_rfl,⟨by kernel_rfl,by kernel_rfl,fun _=>by kernel_rfl⟩,by kernel_rfl,by kernel_rfl⟩
theorem e1650:EntryOk Try.prog fid 68 (.fn d1650):=⟨Try.f68,Try.f68.body.getD .skip,by kernel_rfl,by kernel_rfl,by kernel_rfl,⟨by kernel_rfl,by kernel_rfl,fun _=>by kernel_rfl⟩,by kernel_rfl,by kernel_rfl⟩
theorem e1285:EntryOk Try.prog fid 69 (.fn d1285):=⟨Try.f69,Try.f69.body.getD .skip,by kernel_rfl,by kernel_rfl,by kernel_rfl,⟨by kernel_rfl,by kernel_rfl,fun _=>by kernel_rfl⟩,by kernel_rfl,by kernel_rfl⟩
theorem e1059:EntryOk Try.prog fid 70 (.fn d1059):=⟨Try.f70,Try.f70.body.getD .skip,by kernel_rfl,by kernel_rfl,by kernel_rfl,⟨by kernel_rfl,by kernel_rfl,fun _=>by kernel_rfl⟩,by kernel_rfl,by kernel_rfl⟩
theorem e1225:EntryOk Try.prog fid 71 (.orc cmpG):=cmp_ok fid
theorem e1286:EntryOk Try.prog fid 72 (.fn d1286):=⟨Try.f72,Try.f72.body.getD .skip,by kernel_rfl,by kernel_rfl,by kernel_rfl,⟨by kernel_rfl,by kernel_rfl,fun _=>by kernel_rfl⟩,by kernel_rfl,by kernel_rfl⟩
theorem e1072:EntryOk Try.prog fid 73 (.fn d1072):=⟨Try.f73,Try.f73.body.getD .skip,by kernel_rfl,by kernel_rfl,by kernel_rfl,⟨by kernel_rfl,by kernel_rfl,fun _=>by kernel_rfl⟩,by kernel_rfl,by kernel_rfl⟩
theorem e1458:EntryOk Try.prog fid 74 (.fn d1458):=⟨Try.f74,Try.f74.body.getD .skip,by kernel_rfl,by kernel_rfl,by kernel_rfl,⟨by kernel_rfl,by kernel_rfl,fun _=>by kernel_rfl⟩,by kernel_rfl,by kernel_rfl⟩
theorem e1467:EntryOk Try.prog fid 75 (.fn d1467):=⟨Try.f75,Try.f75.body.getD .skip,by kernel_rfl,by kernel_rfl,by kernel_rfl,⟨by kernel_rfl,by kernel_rfl,fun _=>by kernel_rfl⟩,by kernel_rfl,by kernel_rfl⟩
theorem e1468:EntryOk Try.prog fid 76 (.fn d1468):=⟨Try.f76,Try.f76.body.getD .skip,by kernel_rfl,by kernel_rfl,by kernel_rfl,⟨by kernel_rfl,by kernel_rfl,fun _=>by kernel_rfl⟩,by kernel_rfl,by kernel_rfl⟩
theorem e1680:EntryOk Try.prog fid 77 (.fn d1680):=⟨Try.f77,Try.f77.body.getD .skip,by kernel_rfl,by kernel_rfl,by kernel_rfl,⟨by kernel_rfl,by kernel_rfl,fun _=>by kernel_rfl⟩,by kernel_rfl,by kernel_rfl⟩
theorem e1655:EntryOk Try.prog fid 78 (.fn d1655):=⟨Try.f78,Try.f78.body.getD .skip,by kernel_rfl,by kernel_rfl,by kernel_rfl,⟨by kernel_rfl,by kernel_rfl,fun _=>by kernel_rfl⟩,by kernel_rfl,by kernel_rfl⟩
theorem e1287:EntryOk Try.prog fid 79 (.fn d1287):=⟨Try.f79,Try.f79.body.getD .skip,by kernel_rfl,by kernel_rfl,by kernel_rfl,⟨by kernel_rfl,by kernel_rfl,fun _=>by kernel_rfl⟩,by kernel_rfl,by kernel_rfl⟩
theorem e1288:EntryOk Try.prog fid 80 (.fn d1288):=⟨Try.f80,Try.f80.body.getD .skip,by kernel_rfl,by kernel_rfl,by kernel_rfl,⟨by kernel_rfl,by kernel_rfl,fun _=>by kernel_rfl⟩,by kernel_rfl,by kernel_rfl⟩
theorem e1289:EntryOk Try.prog fid 81 (.fn d1289):=⟨Try.f81,Try.f81.body.getD .skip,by kernel_rfl,by kernel_rfl,by kernel_rfl,⟨by kernel_rfl,by kernel_rfl,fun _=>by kernel_rfl⟩,by kernel_rfl,by kernel_rfl⟩
theorem e1290:EntryOk Try.prog fid 82 (.fn d1290):=⟨Try.f82,Try.f82.body.getD .skip,by kernel_rfl,by kernel_rfl,by kernel_rfl,⟨by kernel_rfl,by kernel_rfl,fun _=>by kernel_rfl⟩,by kernel_rfl,by kernel_rfl⟩
theorem e1291:EntryOk Try.prog fid 83 (.fn d1291):=⟨Try.f83,Try.f83.body.getD .skip,by kernel_rfl,by kernel_rfl,by kernel_rfl,⟨by kernel_rfl,by kernel_rfl,fun _=>by kernel_rfl⟩,by kernel_rfl,by kernel_rfl⟩
theorem e1292:EntryOk Try.prog fid 84 (.fn d1292):=⟨Try.f84,Try.f84.body.getD .skip,by kernel_rfl,by kernel_rfl,by kernel_rfl,⟨by kernel_rfl,by kernel_rfl,fun _=>by kernel_rfl⟩,by kernel_rfl,by kernel_rfl⟩
theorem e1293:EntryOk Try.prog fid 85 (.fn d1293):=⟨Try.f85,Try.f85.body.getD .skip,by kernel_rfl,by kernel_rfl,by kernel_rfl,⟨by kernel_rfl,by kernel_rfl,fun _=>by kernel_rfl⟩,by kernel_rfl,by kernel_rfl⟩
theorem e1294:EntryOk Try.prog fid 86 (.fn d1294):=⟨Try.f86,Try.f86.body.getD .skip,by kernel_rfl,by kernel_rfl,by kernel_rfl,⟨by kernel_rfl,by kernel_rfl,fun _=>by kernel_rfl⟩,by kernel_rfl,by kernel_rfl⟩
theorem e1070:EntryOk Try.prog fid 87 (.fn d1070):=⟨Try.f87,Try.f87.body.getD .skip,by kernel_rfl,by kernel_rfl,by kernel_rfl,⟨by kernel_rfl,by kernel_rfl,fun _=>by kernel_rfl⟩,by kernel_rfl,by kernel_rfl⟩
theorem e1071:EntryOk Try.prog fid 88 (.fn d1071):=⟨Try.f88,Try.f88.body.getD .skip,by kernel_rfl,by kernel_rfl,by kernel_rfl,⟨by kernel_rfl,by kernel_rfl,fun _=>by kernel_rfl⟩,by kernel_rfl,by kernel_rfl⟩
theorem e1295:EntryOk Try.prog fid 90 (.fn d1295):=⟨Try.f90,Try.f90.body.getD .skip,by kernel_rfl,by kernel_rfl,by kernel_rfl,⟨by kernel_rfl,by kernel_rfl,fun _=>by kernel_rfl⟩,by kernel_rfl,by kernel_rfl⟩
theorem e1296:EntryOk Try.prog fid 91 (.fn d1296):=⟨Try.f91,Try.f91.body.getD .skip,by kernel_rfl,by kernel_rfl,by kernel_rfl,⟨by kernel_rfl,by kernel_rfl,fun _=>by kernel_rfl⟩,by kernel_rfl,by kernel_rfl⟩
theorem e1297:EntryOk Try.prog fid 92 (.fn d1297):=⟨Try.f92,Try.f92.body.getD .skip,by kernel_rfl,by kernel_rfl,by kernel_rfl,⟨by kernel_rfl,by kernel_rfl,fun _=>by kernel_rfl⟩,by kernel_rfl,by kernel_rfl⟩
theorem e1298:EntryOk Try.prog fid 93 (.fn d1298):=⟨Try.f93,Try.f93.body.getD .skip,by kernel_rfl,by kernel_rfl,by kernel_rfl,⟨by kernel_rfl,by kernel_rfl,fun _=>by kernel_rfl⟩,by kernel_rfl,by kernel_rfl⟩
theorem e1299:EntryOk Try.prog fid 94 (.fn d1299):=⟨Try.f94,Try.f94.body.getD .skip,by kernel_rfl,by kernel_rfl,by kernel_rfl,⟨by kernel_rfl,by kernel_rfl,fun _=>by kernel_rfl⟩,by kernel_rfl,by kernel_rfl⟩
theorem e1300:EntryOk Try.prog fid 95 (.fn d1300):=⟨Try.f95,Try.f95.body.getD .skip,by kernel_rfl,by kernel_rfl,by kernel_rfl,⟨by kernel_rfl,by kernel_rfl,fun _=>by kernel_rfl⟩,by kernel_rfl,by kernel_rfl⟩
theorem e1301:EntryOk Try.prog fid 96 (.fn d1301):=⟨Try.f96,Try.f96.body.getD .skip,by kernel_rfl,by kernel_rfl,by kernel_rfl,⟨by kernel_rfl,by kernel_rfl,fun _=>by kernel_rfl⟩,by kernel_rfl,by kernel_rfl⟩
theorem e1302:EntryOk Try.prog fid 97 (.fn d1302):=⟨Try.f97,Try.f97.body.getD .skip,by kernel_rfl,by kernel_rfl,by kernel_rfl,⟨by kernel_rfl,by kernel_rfl,fun _=>by kernel_rfl⟩,by kernel_rfl,by kernel_rfl⟩
theorem e1466:EntryOk Try.prog fid 98 (.fn d1466):=⟨Try.f98,Try.f98.body.getD .skip,by kernel_rfl,by kernel_rfl,by kernel_rfl,⟨by kernel_rfl,by kernel_rfl,fun _=>by kernel_rfl⟩,by kernel_rfl,by kernel_rfl⟩
theorem e1681:EntryOk Try.prog fid 99 (.fn d1681):=⟨Try.f99,Try.f99.body.getD .skip,by kernel_rfl,by kernel_rfl,by kernel_rfl,⟨by kernel_rfl,by kernel_rfl,fun _=>by kernel_rfl⟩,by kernel_rfl,by kernel_rfl⟩
theorem e1682:EntryOk Try.prog fid 100 (.fn d1682):=⟨Try.f100,Try.f100.body.getD .skip,by kernel_rfl,by kernel_rfl,by kernel_rfl,⟨by kernel_rfl,by kernel_rfl,fun _=>by kernel_rfl⟩,by kernel_rfl,by kernel_rfl⟩
theorem e1656:EntryOk Try.prog fid 101 (.fn d1656):=⟨Try.f101,Try.f101.body.getD .skip,by kernel_rfl,by kernel_rfl,by kernel_rfl,⟨by kernel_rfl,by kernel_rfl,fun _=>by kernel_rfl⟩,by kernel_rfl,by kernel_rfl⟩
theorem e1657:EntryOk Try.prog fid 102 (.fn d1657):=⟨Try.f102,Try.f102.body.getD .skip,by kernel_rfl,by kernel_rfl,by kernel_rfl,⟨by kernel_rfl,by kernel_rfl,fun _=>by kernel_rfl⟩,by kernel_rfl,by kernel_rfl⟩
theorem e1303:EntryOk Try.prog fid 103 (.fn d1303):=⟨Try.f103,Try.f103.body.getD .skip,by kernel_rfl,by kernel_rfl,by kernel_rfl,⟨by kernel_rfl,by kernel_rfl,fun _=>by kernel_rfl⟩,by kernel_rfl,by kernel_rfl⟩
theorem e1074:EntryOk Try.prog fid 104 (.fn d1074):=⟨Try.f104,Try.f104.body.getD .skip,by kernel_rfl,by kernel_rfl,by kernel_rfl,⟨by kernel_rfl,by kernel_rfl,fun _=>by kernel_rfl⟩,by kernel_rfl,by kernel_rfl⟩
theorem e1075:EntryOk Try.prog fid 105 (.fn d1075):=⟨Try.f105,Try.f105.body.getD .skip,by kernel_rfl,by kernel_rfl,by kernel_rfl,⟨by kernel_rfl,by kernel_rfl,fun _=>by kernel_rfl⟩,by kernel_rfl,by kernel_rfl⟩
theorem e1304:EntryOk Try.prog fid 106 (.fn d1304):=⟨Try.f106,Try.f106.body.getD .skip,by kernel_rfl,by kernel_rfl,by kernel_rfl,⟨by kernel_rfl,by kernel_rfl,fun _=>by kernel_rfl⟩,by kernel_rfl,by kernel_rfl⟩
theorem e1305:EntryOk Try.prog fid 107 (.fn d1305):=⟨Try.f107,Try.f107.body.getD .skip,by kernel_rfl,by kernel_rfl,by kernel_rfl,⟨by kernel_rfl,by kernel_rfl,fun _=>by kernel_rfl⟩,by kernel_rfl,by kernel_rfl⟩
theorem e1306:EntryOk Try.prog fid 108 (.fn d1306):=⟨Try.f108,Try.f108.body.getD .skip,by kernel_rfl,by kernel_rfl,by kernel_rfl,⟨by kernel_rfl,by kernel_rfl,fun _=>by kernel_rfl⟩,by kernel_rfl,by kernel_rfl⟩
theorem e1307:EntryOk Try.prog fid 109 (.fn d1307):=⟨Try.f109,Try.f109.body.getD .skip,by kernel_rfl,by kernel_rfl,by kernel_rfl,⟨by kernel_rfl,by kernel_rfl,fun _=>by kernel_rfl⟩,by kernel_rfl,by kernel_rfl⟩
theorem e1308:EntryOk Try.prog fid 110 (.fn d1308):=⟨Try.f110,Try.f110.body.getD .skip,by kernel_rfl,by kernel_rfl,by kernel_rfl,⟨by kernel_rfl,by kernel_rfl,fun _=>by kernel_rfl⟩,by kernel_rfl,by kernel_rfl⟩
theorem e1309:EntryOk Try.prog fid 111 (.fn d1309):=⟨Try.f111,Try.f111.body.getD .skip,by kernel_rfl,by kernel_rfl,by kernel_rfl,⟨by kernel_rfl,by kernel_rfl,fun _=>by kernel_rfl⟩,by kernel_rfl,by kernel_rfl⟩
theorem e1310:EntryOk Try.prog fid 112 (.fn d1310):=⟨Try.f112,Try.f112.body.getD .skip,by kernel_rfl,by kernel_rfl,by kernel_rfl,⟨by kernel_rfl,by kernel_rfl,fun _=>by kernel_rfl⟩,by kernel_rfl,by kernel_rfl⟩
theorem fid_mem:∀ {l:List (Nat × Nat)} {f k:Nat},l.lookup f=some k→(f,k)∈l
 | [],_,_,h=>by cases h
 | (a,b)::l,f,k,h=>by
  rw [List.lookup_cons] at h
  split at h
  ·rename_i hf
   injection h with h
   subst h
   rw [show f=a by simpa using hf]
   exact List.mem_cons_self
  ·exact List.mem_cons_of_mem _ (fid_mem h)
def AllOk:List (Nat × Nat)→Prop
 | []=>True
 | p::l=>(∀ e,tab p.2=some e→EntryOk Try.prog fid p.1 e)∧AllOk l
theorem all_mem:∀ {l:List (Nat × Nat)},AllOk l→∀ p∈l,∀ e,tab p.2=some e→EntryOk Try.prog fid p.1 e
 | _::_,h,p,hp=>by
  rcases List.mem_cons.1 hp with rfl | hp
  ·exact h.1
  ·exact all_mem h.2 p hp
theorem one_ok {f k:Nat} {d:Entry} (h:tab k=some d) (e:EntryOk Try.prog fid f d):∀ x,tab k=some x→EntryOk Try.prog fid f x:=by
 intro x hx
 rw [h] at hx
 injection hx with hx
 exact hx ▸ e
theorem none_ok {f k:Nat} (h:tab k=none):∀ x,tab k=some x→EntryOk Try.prog fid f x:=by
 intro x hx
 rw [h] at hx
 cases hx
theorem all_ok:AllOk fidL:=⟨one_ok t1658 e1658,one_ok t1659 e1659,one_ok t1660 e1660,one_ok t1661 e1661,one_ok t1662 e1662,one_ok t1263 e1263,one_ok t1264 e1264,one_ok t1663 e1663,one_ok t1664 e1664,one_ok t1665 e1665,one_ok t1267 e1267,one_ok t1666 e1666,one_ok t1667 e1667,one_ok t1265 e1265,one_ok t1208 e1208,one_ok t1276 e1276,one_ok t1421 e1421,one_ok t1668 e1668,one_ok t1639 e1639,one_ok t1269 e1269,one_ok t1464 e1464,one_ok t1669 e1669,one_ok t1670 e1670,one_ok t1641 e1641,one_ok t1105 e1105,one_ok t1672 e1672,one_ok t1455 e1455,one_ok t1673 e1673,one_ok t1214 e1214,one_ok t1277 e1277,one_ok t1218 e1218,one_ok t1278 e1278,one_ok t1216 e1216,one_ok t1215 e1215,one_ok t1217 e1217,one_ok t1432 e1432,one_ok t1674 e1674,one_ok t1647 e1647,one_ok t1268 e1268,one_ok t1281 e1281,one_ok t1444 e1444,one_ok t1470 e1470,one_ok t1445 e1445,one_ok t1676 e1676,one_ok t1677 e1677,one_ok t1678 e1678,one_ok t1651 e1651,one_ok t1220 e1220,one_ok t1221 e1221,one_ok t1222 e1222,one_ok t1104 e1104,one_ok t1282 e1282,one_ok t1224 e1224,one_ok t1283 e1283,one_ok t1284 e1284,one_ok t1223 e1223,one_ok t1060 e1060,one_ok t1061 e1061,one_ok t1441 e1441,one_ok t1442 e1442,one_ok t1270 e1270,one_ok t1459 e1459,one_ok t1679 e1679,one_ok t1650 e1650,one_ok t1285 e1285,one_ok t1059 e1059,one_ok t1225 e1225,one_ok t1286 e1286,one_ok t1072 e1072,one_ok t1458 e1458,one_ok t1467 e1467,one_ok t1468 e1468,one_ok t1680 e1680,one_ok t1655 e1655,one_ok t1287 e1287,one_ok t1288 e1288,one_ok t1289 e1289,one_ok t1290 e1290,one_ok t1291 e1291,one_ok t1292 e1292,one_ok t1293 e1293,one_ok t1294 e1294,one_ok t1070 e1070,one_ok t1071 e1071,one_ok t1295 e1295,one_ok t1296 e1296,one_ok t1297 e1297,one_ok t1298 e1298,one_ok t1299 e1299,one_ok t1300 e1300,one_ok t1301 e1301,one_ok t1302 e1302,one_ok t1466 e1466,one_ok t1681 e1681,one_ok t1682 e1682,one_ok t1656 e1656,one_ok t1657 e1657,one_ok t1303 e1303,one_ok t1074 e1074,one_ok t1075 e1075,one_ok t1304 e1304,one_ok t1305 e1305,one_ok t1306 e1306,one_ok t1307 e1307,one_ok t1308 e1308,one_ok t1309 e1309,one_ok t1310 e1310,none_ok n1671,none_ok n1675,none_ok n1226,trivial⟩
theorem goodP:Good Try.prog fid tab:=fun f k e hf he=>all_mem all_ok (f,k) (fid_mem hf) e he
end Go.Proofs.Ytgdfncnpcdafmaa
