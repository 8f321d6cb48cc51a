import Derived.Test.YtfbfbennheeglaaT18
import Derived.Test.YtfbfbennheeglaaProg
import Derived.KernelRfl
namespace Go.Proofs.Ytfbfbennheeglaa
set_option linter.unusedSimpArgs false
set_option linter.unusedVariables false
set_option maxRecDepth 1000000
theorem e1705:EntryOk Try.prog fid 3 (.fn d1705):=⟨Try.f3,Try.f3.body.getD .skip,by kernel_rfl,by kernel_rfl,by kernel_rfl,⟨by kernel_rfl,by kernel_rfl,fun _=>by kernel_rfl⟩,by kernel_rfl,by kernel_rfl⟩
theorem e1706:EntryOk Try.prog fid 4 (.fn d1706):=⟨Try.f4,Try.f4.body.getD .skip,by kernel_rfl,by kernel_rfl,by kernel_rfl,⟨by kernel_rfl,by kernel_rfl,fun _=>by kernel_rfl⟩,by kernel_rfl,by kernel_rfl⟩
theorem e1707:EntryOk Try.prog fid 5 (.fn d1707):=⟨Try.f5,Try.f5.body.getD .skip,by kernel_rfl,by kernel_rfl,by kernel_rfl,⟨by kernel_rfl,by kernel_rfl,fun _=>by kernel_rfl⟩,by kernel_rfl,by kernel_rfl⟩
theorem e1084:EntryOk Try.prog fid 9 (.fn d1084):=⟨Try.f9,Try.f9.body.getD .skip,by kernel_rfl,by kernel_rfl,by kernel_rfl,⟨by kernel_rfl,by kernel_rfl,fun _=>by kernel_rfl⟩,by kernel_rfl,by kernel_rfl⟩
theorem e1175:EntryOk Try.prog fid 10 (.fn d1175):=⟨Try.f10,Try.f10.body.getD .skip,by kernel_rfl,by kernel_rfl,by kernel_rfl,⟨by kernel_rfl,by kernel_rfl,fun _=>by kernel_rfl⟩,by kernel_rfl,by kernel_rfl⟩
theorem e1176:EntryOk Try.prog fid 11 (.fn d1176):=⟨Try.f11,Try.f11.body.getD .skip,by kernel_rfl,by kernel_rfl,by kernel_rfl,⟨by kernel_rfl,by kernel_rfl,fun _=>by kernel_rfl⟩,by kernel_rfl,by kernel_rfl⟩
theorem e1711:EntryOk Try.prog fid 12 (.fn d1711):=⟨Try.f12,Try.f12.body.getD .skip,by kernel_rfl,by kernel_rfl,by kernel_rfl,⟨by kernel_rfl,by kernel_rfl,fun _=>by kernel_rfl⟩,by kernel_rfl,by kernel_rfl⟩
theorem e1712:EntryOk Try.prog fid 13 (.fn d1712):=⟨Try.f13,Try.f13.body.getD .skip,by kernel_rfl,by kernel_rfl,by kernel_rfl,⟨by kernel_rfl,by kernel_rfl,fun _=>by kernel_rfl⟩,by kernel_rfl,by kernel_rfl⟩
theorem e1713:EntryOk Try.prog fid 14 (.fn d1713):=⟨Try.f14,Try.f14.body.getD .skip,by kernel_rfl,by kernel_rfl,by kernel_rfl,⟨by kernel_rfl,by kernel_rfl,fun _=>by kernel_rfl⟩,by kernel_rfl,by kernel_rfl⟩
theorem e1646:EntryOk Try.prog fid 15 (.fn d1646):=⟨Try.f15,Try.f15.body.getD .skip,by kernel_rfl,by kernel_rfl,by kernel_rfl,⟨by kernel_rfl,by kernel_rfl,fun _=>by kernel_rfl⟩,by kernel_rfl,by kernel_rfl⟩
theorem e1648:EntryOk Try.prog fid 16 (.fn d1648):=⟨Try.f16,Try.f16.body.getD .skip,by kernel_rfl,by kernel_rfl,by kernel_rfl,⟨by kernel_rfl,by kernel_rfl,fun _=>by kernel_rfl⟩,by kernel_rfl,by kernel_rfl⟩
theorem e1120:EntryOk Try.prog fid 17 (.fn d1120):=⟨Try.f17,Try.f17.body.getD .skip,by kernel_rfl,by kernel_rfl,by kernel_rfl,⟨by kernel_rfl,by kernel_rfl,fun _=>by kernel_rfl⟩,by kernel_rfl,by kernel_rfl⟩
theorem e1714:EntryOk Try.prog fid 18 (.fn d1714):=⟨Try.f18,Try.f18.body.getD .skip,by kernel_rfl,by kernel_rfl,by kernel_rfl,⟨by kernel_rfl,by kernel_rfl,fun _=>by kernel_rfl⟩,by kernel_rfl,by kernel_rfl⟩
theorem e1715:EntryOk Try.prog fid 19 (.fn d1715):=⟨Try.f19,Try.f19.body.getD .skip,by kernel_rfl,by kernel_rfl,by kernel_rfl,⟨by kernel_rfl,by kernel_rfl,fun _=>by kernel_rfl⟩,by kernel_rfl,by kernel_rfl⟩
theorem e1187:EntryOk Try.prog fid 20 (.fn d1187):=⟨Try.f20,Try.f20.body.getD .skip,by kernel_rfl,by kernel_rfl,by kernel_rfl,⟨by kernel_rfl,by kernel_rfl,fun _=>by kernel_rfl⟩,by kernel_rfl,by kernel_rfl⟩
theorem e1716:EntryOk Try.prog fid 21 (.fn d1716):=⟨Try.f21,Try.f21.body.getD .skip,by kernel_rfl,by kernel_rfl,by kernel_rfl,⟨by kernel_rfl,by kernel_rfl,fun _=>by kernel_rfl⟩,by kernel_rfl,by kernel_rfl⟩
theorem e1717:EntryOk Try.prog fid 22 (.fn d1717):=⟨Try.f22,Try.f22.body.getD .skip,by kernel_rfl,by kernel_rfl,by kernel_rfl,⟨by kernel_rfl,by kernel_rfl,fun _=>by kernel_rfl⟩,by kernel_rfl,by kernel_rfl⟩
theorem e1718:EntryOk Try.prog fid 23 (.fn d1718):=⟨Try.f23,Try.f23.body.getD .skip,by kernel_rfl,by kernel_rfl,by kernel_rfl,⟨by kernel_rfl,by kernel_rfl,fun _=>by kernel_rfl⟩,by kernel_rfl,by kernel_rfl⟩
theorem e1719:EntryOk Try.prog fid 24 (.fn d1719):=⟨Try.f24,Try.f24.body.getD .skip,by kernel_rfl,by kernel_rfl,by kernel_rfl,⟨by kernel_rfl,by kernel_rfl,fun _=>by kernel_rfl⟩,by kernel_rfl,by kernel_rfl⟩
theorem e1428:EntryOk Try.prog fid 25 (.fn d1428):=⟨Try.f25,Try.f25.body.getD .skip,by kernel_rfl,by kernel_rfl,by kernel_rfl,⟨by kernel_rfl,by kernel_rfl,fun _=>by kernel_rfl⟩,by kernel_rfl,by kernel_rfl⟩
theorem e1616:EntryOk Try.prog fid 26 (.fn d1616):=⟨Try.f26,Try.f26.body.getD .skip,by kernel_rfl,by kernel_rfl,by kernel_rfl,⟨by kernel_rfl,by kernel_rfl,fun _=>by kernel_rfl⟩,by kernel_rfl,by kernel_rfl⟩
theorem e1487:EntryOk Try.prog fid 28 (.fn d1487):=⟨Try.f28,Try.f28.body.getD .skip,by kernel_rfl,by kernel_rfl,by kernel_rfl,⟨by kernel_rfl,by kernel_rfl,fun _=>by kernel_rfl⟩,by kernel_rfl,by kernel_rfl⟩
theorem e1022:EntryOk Try.prog fid 29 (.fn d1022):=⟨Try.f29,Try.f29.body.getD .skip,by kernel_rfl,by kernel_rfl,by kernel_rfl,⟨by kernel_rfl,by kernel_rfl,fun _=>by kernel_rfl⟩,by kernel_rfl,by kernel_rfl⟩
theorem e1189:EntryOk Try.prog fid 30 (.fn d1189):=⟨Try.f30,Try.f30.body.getD .skip,by kernel_rfl,by kernel_rfl,by kernel_rfl,⟨by kernel_rfl,by kernel_rfl,fun _=>by kernel_rfl⟩,by kernel_rfl,by kernel_rfl⟩
theorem e1190:EntryOk Try.prog fid 31 (.fn d1190):=⟨Try.f31,Try.f31.body.getD .skip,by kernel_rfl,by kernel_rfl,by kernel_rfl,⟨by kernel_rfl,by kernel_rfl,fun _=>by kernel_rfl⟩,by kernel_rfl,by kernel_rfl⟩
theorem e1188:EntryOk Try.prog fid 32 (.fn d1188):=⟨Try.f32,Try.f32.body.getD .skip,by kernel_rfl,by kernel_rfl,by kernel_rfl,⟨by kernel_rfl,by kernel_rfl,fun _=>by kernel_rfl⟩,by kernel_rfl,by kernel_rfl⟩
theorem e1194:EntryOk Try.prog fid 33 (.fn d1194):=⟨Try.f33,Try.f33.body.getD .skip,by kernel_rfl,by kernel_rfl,by kernel_rfl,⟨by kernel_rfl,by kernel_rfl,fun _=>by kernel_rfl⟩,by kernel_rfl,by kernel_rfl⟩
theorem e1328:EntryOk Try.prog fid 34 (.fn d1328):=⟨Try.f34,Try.f34.body.getD .skip,by kernel_rfl,by kernel_rfl,by kernel_rfl,⟨by kernel_rfl,by kernel_rfl,fun _=>by kernel_rfl⟩,by kernel_rfl,by kernel_rfl⟩
theorem e1329:EntryOk Try.prog fid 35 (.fn d1329):=⟨Try.f35,Try.f35.body.getD .skip,by kernel_rfl,by kernel_rfl,by kernel_rfl,⟨by kernel_rfl,by kernel_rfl,fun _=>by kernel_rfl⟩,by kernel_rfl,by kernel_rfl⟩
theorem e1652:EntryOk Try.prog fid 36 (.fn d1652):=⟨Try.f36,Try.f36.body.getD .skip,by kernel_rfl,by kernel_rfl,by kernel_rfl,⟨by kernel_rfl,by kernel_rfl,fun _=>by kernel_rfl⟩,by kernel_rfl,by kernel_rfl⟩
theorem e1653:EntryOk Try.prog fid 37 (.fn d1653):=⟨Try.f37,Try.f37.body.getD .skip,by kernel_rfl,by kernel_rfl,by kernel_rfl,⟨by kernel_rfl,by kernel_rfl,fun _=>by kernel_rfl⟩,by kernel_rfl,by kernel_rfl⟩
theorem e1654:EntryOk Try.prog fid 38 (.fn d1654):=⟨Try.f38,Try.f38.body.getD .skip,by kernel_rfl,by kernel_rfl,by kernel_rfl,⟨by kernel_rfl,by kernel_rfl,fun _=>by kernel_rfl⟩,by kernel_rfl,by kernel_rfl⟩
theorem e1270:EntryOk Try.prog fid 39 (.fn d1270):=⟨Try.f39,Try.f39.body.getD .skip,by kernel_rfl,by kernel_rfl,by kernel_rfl,⟨by kernel_rfl,by kernel_rfl,fun _=>by kernel_rfl⟩,by kernel_rfl,by kernel_rfl⟩
theorem e1016:EntryOk Try.prog fid 40 (.fn d1016):=⟨Try.f40,Try.f40.body.getD .skip,by kernel_rfl,by kernel_rfl,by kernel_rfl,⟨by kernel_rfl,by kernel_rfl,fun _=>by kernel_rfl⟩,by kernel_rfl,by kernel_rfl⟩
theorem e1595:EntryOk Try.prog fid 41 (.fn d1595):=⟨Try.f41,Try.f41.body.getD .skip,by kernel_rfl,by kernel_rfl,by kernel_rfl,⟨by kernel_rfl,by kernel_rfl,fun _=>by kernel_rfl⟩,by kernel_rfl,by kernel_rfl⟩
theorem e1720:EntryOk Try.prog fid 42 (.fn d1720):=⟨Try.f42,Try.f42.body.getD .skip,by kernel_rfl,by kernel_rfl,by kernel_rfl,⟨by kernel_rfl,by kernel_rfl,fun _=>by kernel_rfl⟩,by kernel_rfl,by kernel_rfl⟩
theorem e1721:EntryOk Try.prog fid 43 (.fn d1721):=⟨Try.f43,Try.f43.body.getD .skip,by kernel_rfl,by kernel_rfl,by kernel_rfl,⟨by kernel_rfl,by kernel_rfl,fun _=>by kernel_rfl⟩,by kernel_rfl,by kernel_rfl⟩
theorem e1722:EntryOk Try.prog fid 44 (.fn d1722):=⟨Try.f44,Try.f44.body.getD .skip,by kernel_rfl,by kernel_rfl,by kernel_rfl,⟨by kernel_rfl,by kernel_rfl,fun _=>by kernel_rfl⟩,by kernel_rfl,by kernel_rfl⟩
theorem e1723:EntryOk Try.prog fid 45 (.fn d1723):=⟨Try.f45,Try.f45.body.getD .skip,by kernel_rfl,by kernel_rfl,by kernel_rfl,⟨by kernel_rfl,by kernel_rfl,fun _=>by kernel_rfl⟩,by kernel_rfl,by kernel_rfl⟩
theorem e1724:EntryOk Try.prog fid 46 (.fn d1724):=⟨Try.f46,Try.f46.body.getD .skip,by kernel_rfl,by kernel_rfl,by kernel_rfl,⟨by kernel_rfl,by kernel_rfl,fun _=>by kernel_rfl⟩,by kernel_rfl,by kernel_rfl⟩
theorem e1439:EntryOk Try.prog fid 47 (.fn d1439):=⟨Try.f47,Try.f47.body.getD .skip,by kernel_rfl,by kernel_rfl,by kernel_rfl,⟨by kernel_rfl,by kernel_rfl,fun _=>by kernel_rfl⟩,by kernel_rfl,by kernel_rfl⟩
theorem e1622:EntryOk Try.prog fid 48 (.fn d1622):=⟨Try.f48,Try.f48.body.getD .skip,by kernel_rfl,by kernel_rfl,by kernel_rfl,⟨by kernel_rfl,by kernel_rfl,fun _=>by kernel_rfl⟩,by kernel_rfl,by kernel_rfl⟩
theorem e1211:EntryOk Try.prog fid 49 (.fn d1211):=⟨Try.f49,Try.f49.body.getD .skip,by kernel_rfl,by kernel_rfl,by kernel_rfl,⟨by kernel_rfl,by kernel_rfl,fun _=>by kernel_rfl⟩,by kernel_rfl,by kernel_rfl⟩
theorem e1201:EntryOk Try.prog fid 51 (.fn d1201):=⟨Try.f51,Try.f51.body.getD .skip,by kernel_rfl,by kernel_rfl,by kernel_rfl,⟨by kernel_rfl,by kernel_rfl,fun _=>by kernel_rfl⟩,by kernel_rfl,by kernel_rfl⟩
theorem e1199:EntryOk Try.prog fid 52 (.fn d1199):=⟨Try.f52,Try.f52.body.getD .skip,by kernel_rfl,by kernel_rfl,by kernel_rfl,⟨by kernel_rfl,by kernel_rfl,fun _=>by kernel_rfl⟩,by kernel_rfl,by kernel_rfl⟩
theorem e1200:EntryOk Try.prog fid 53 (.fn d1200):=⟨Try.f53,Try.f53.body.getD .skip,by kernel_rfl,by kernel_rfl,by kernel_rfl,⟨by kernel_rfl,by kernel_rfl,fun _=>by kernel_rfl⟩,by kernel_rfl,by kernel_rfl⟩
theorem e1205:EntryOk Try.prog fid 54 (.fn d1205):=⟨Try.f54,Try.f54.body.getD .skip,by kernel_rfl,by kernel_rfl,by kernel_rfl,⟨by kernel_rfl,by kernel_rfl,fun _=>by kernel_rfl⟩,by kernel_rfl,by kernel_rfl⟩
theorem e1206:EntryOk Try.prog fid 55 (.fn d1206):=⟨Try.f55,Try.f55.body.getD .skip,by kernel_rfl,by kernel_rfl,by kernel_rfl,⟨by kernel_rfl,by kernel_rfl,fun _=>by kernel_rfl⟩,by kernel_rfl,by kernel_rfl⟩
theorem e1207:EntryOk Try.prog fid 56 (.fn d1207):=⟨Try.f56,Try.f56.body.getD .skip,by kernel_rfl,by kernel_rfl,by kernel_rfl,⟨by kernel_rfl,by kernel_rfl,fun _=>by kernel_rfl⟩,by kernel_rfl,by kernel_rfl⟩
theorem e1222:EntryOk Try.prog fid 57 (.fn d1222):=⟨Try.f57,Try.f57.body.getD .skip,by kernel_rfl,by kernel_rfl,by kernel_rfl,⟨by kernel_rfl,by kernel_rfl,fun _=>by kernel_rfl⟩,by kernel_rfl,by kernel_rfl⟩
theorem e1725:EntryOk Try.prog fid 58 (.fn d1725):=⟨Try.f58,Try.f58.body.getD .skip,by kernel_rfl,by kernel_rfl,by kernel_rfl,⟨by kernel_rfl,by kernel_rfl,fun _=>by kernel_rfl⟩,by kernel_rfl,by kernel_rfl⟩
theorem e1726:EntryOk Try.prog fid 59 (.fn d1726):=⟨Try.f59,Try.f59.body.getD .skip,by kernel_rfl,by kernel_rfl,by kernel_rfl,⟨by kernel_rfl,by kernel_rfl,fun _=>by kernel_rfl⟩,by kernel_rfl,by kernel_rfl⟩
theorem e1558:EntryOk Try.prog fid 60 (.fn d1558):=⟨Try.f60,Try.f60.body.getD .skip,by kernel_rfl,by kernel_rfl,by kernel_rfl,⟨by kernel_rfl,by kernel_rfl,fun _=>by kernel_rfl⟩,by kernel_rfl,by kernel_rfl⟩
theorem e1485:EntryOk Try.prog fid 61 (.fn d1485):=⟨Try.f61,Try.f61.body.getD .skip,by kernel_rfl,by kernel_rfl,by kernel_rfl,⟨by kernel_rfl,by kernel_rfl,fun _=>by kernel_rfl⟩,by kernel_rfl,by kernel_rfl⟩
theorem e1727:EntryOk Try.prog fid 62 (.fn d1727):=⟨Try.f62,Try.f62.body.getD .skip,by kernel_rfl,by kernel_rfl,by kernel_rfl,⟨by kernel_rfl,by kernel_rfl,fun _=>by kernel_rfl⟩,by kernel_rfl,by kernel_rfl⟩
theorem e1598:EntryOk Try.prog fid 63 (.fn d1598):=⟨Try.f63,Try.f63.body.getD .skip,by kernel_rfl,by kernel_rfl,by kernel_rfl,⟨by kernel_rfl,by kernel_rfl,fun _=>by kernel_rfl⟩,by kernel_rfl,by kernel_rfl⟩
theorem e1020:EntryOk Try.prog fid 64 (.fn d1020):=⟨Try.f64,Try.f64.body.getD .skip,by kernel_rfl,by kernel_rfl,by kernel_rfl,⟨by kernel_rfl,by kernel_rfl,fun _=>by kernel_rfl⟩,by kernel_rfl,by kernel_rfl⟩
theorem e1486:EntryOk Try.prog fid 65 (.fn d1486):=⟨Try.f65,Try.f65.body.getD .skip,by kernel_rfl,by kernel_rfl,by kernel_rfl,⟨by kernel_rfl,by kernel_rfl,fun _=>by kernel_rfl⟩,by kernel_rfl,by kernel_rfl⟩
theorem e1049:EntryOk Try.prog fid 66 (.fn d1049):=⟨Try.f66,Try.f66.body.getD .skip,by kernel_rfl,by kernel_rfl,by kernel_rfl,⟨by kernel_rfl,by kernel_rfl,fun _=>by kernel_rfl⟩,by kernel_rfl,by kernel_rfl⟩
theorem e1024:EntryOk Try.prog fid 68 (.orc (cloneG 1 8)):=clone_ok (f:=68) (fn:=Try.f68) (c:=Try.f68.body.getD .skip) (z:=[.int .i64 0]) (by kernel_rfl) (by kernel_rfl) (by kernel_rfl) ⟨by kernel_rfl,by kernel_rfl,fun _=>by kernel_rfl⟩ (by kernel_rfl)
theorem e1210:EntryOk Try.prog fid 69 (.fn d1210):=⟨Try.f69,Try.f69.body.getD .skip,by kernel_rfl,by kernel_rfl,by kernel_rfl,⟨by kernel_rfl,by kernel_rfl,fun _=>by kernel_rfl⟩,by kernel_rfl,by kernel_rfl⟩
theorem e1202:EntryOk Try.prog fid 70 (.fn d1202):=⟨Try.f70,Try.f70.body.getD .skip,by kernel_rfl,by kernel_rfl,by kernel_rfl,⟨by kernel_rfl,by kernel_rfl,fun _=>by kernel_rfl⟩,by kernel_rfl,by kernel_rfl⟩
theorem e1728:EntryOk Try.prog fid 71 (.fn d1728):=⟨Try.f71,Try.f71.body.getD .skip,by kernel_rfl,by kernel_rfl,by kernel_rfl,⟨by kernel_rfl,by kernel_rfl,fun _=>by kernel_rfl⟩,by kernel_rfl,by kernel_rfl⟩
theorem e1729:EntryOk Try.prog fid 72 (.fn d1729):=⟨Try.f72,Try.f72.body.getD .skip,by kernel_rfl,by kernel_rfl,by kernel_rfl,⟨by kernel_rfl,by kernel_rfl,fun _=>by kernel_rfl⟩,by kernel_rfl,by kernel_rfl⟩
theorem e1565:EntryOk Try.prog fid 73 (.fn d1565):=⟨Try.f73,Try.f73.body.getD .skip,by kernel_rfl,by kernel_rfl,by kernel_rfl,⟨by kernel_rfl,by kernel_rfl,fun _=>by kernel_rfl⟩,by kernel_rfl,by kernel_rfl⟩
theorem e1566:EntryOk Try.prog fid 74 (.fn d1566):=⟨Try.f74,Try.f74.body.getD .skip,by kernel_rfl,by kernel_rfl,by kernel_rfl,⟨by kernel_rfl,by kernel_rfl,fun _=>by kernel_rfl⟩,by kernel_rfl,by kernel_rfl⟩
theorem e1554:EntryOk Try.prog fid 75 (.fn d1554):=⟨Try.f75,Try.f75.body.getD .skip,by kernel_rfl,by kernel_rfl,by kernel_rfl,⟨by kernel_rfl,by kernel_rfl,fun _=>by kernel_rfl⟩,by kernel_rfl,by kernel_rfl⟩
theorem e1567:EntryOk Try.prog fid 76 (.fn d1567):=⟨Try.f76,Try.f76.body.getD .skip,by kernel_rfl,by kernel_rfl,by kernel_rfl,⟨by kernel_rfl,by kernel_rfl,fun _=>by kernel_rfl⟩,by kernel_rfl,by kernel_rfl⟩
theorem e1493:EntryOk Try.prog fid 77 (.fn d1493):=⟨Try.f77,Try.f77.body.getD .skip,by kernel_rfl,by kernel_rfl,by kernel_rfl,⟨by kernel_rfl,by kernel_rfl,fun _=>by kernel_rfl⟩,by kernel_rfl,by kernel_rfl⟩
theorem e1021:EntryOk Try.prog fid 78 (.fn d1021):=⟨Try.f78,Try.f78.body.getD .skip,by kernel_rfl,by kernel_rfl,by kernel_rfl,⟨by kernel_rfl,by kernel_rfl,fun _=>by kernel_rfl⟩,by kernel_rfl,by kernel_rfl⟩
theorem e1600:EntryOk Try.prog fid 79 (.fn d1600):=⟨Try.f79,Try.f79.body.getD .skip,by kernel_rfl,by kernel_rfl,by kernel_rfl,⟨by kernel_rfl,by kernel_rfl,fun _=>by kernel_rfl⟩,by kernel_rfl,by kernel_rfl⟩
theorem e1602:EntryOk Try.prog fid 80 (.fn d1602):=⟨Try.f80,Try.f80.body.getD .skip,by kernel_rfl,by kernel_rfl,by kernel_rfl,⟨by kernel_rfl,by kernel_rfl,fun _=>by kernel_rfl⟩,by kernel_rfl,by kernel_rfl⟩
theorem e1491:EntryOk Try.prog fid 81 (.fn d1491):=⟨Try.f81,Try.f81.body.getD .skip,by kernel_rfl,by kernel_rfl,by kernel_rfl,⟨by kernel_rfl,by kernel_rfl,fun _=>by kernel_rfl⟩,by kernel_rfl,by kernel_rfl⟩
theorem e1219:EntryOk Try.prog fid 82 (.fn d1219):=⟨Try.f82,Try.f82.body.getD .skip,by kernel_rfl,by kernel_rfl,by kernel_rfl,⟨by kernel_rfl,by kernel_rfl,fun _=>by kernel_rfl⟩,by kernel_rfl,by kernel_rfl⟩
theorem e1212:EntryOk Try.prog fid 83 (.fn d1212):=⟨Try.f83,Try.f83.body.getD .skip,by kernel_rfl,by kernel_rfl,by kernel_rfl,⟨by kernel_rfl,by kernel_rfl,fun _=>by kernel_rfl⟩,by kernel_rfl,by kernel_rfl⟩
theorem e1358:EntryOk Try.prog fid 84 (.fn d1358):=⟨Try.f84,Try.f84.body.getD .skip,by kernel_rfl,by kernel_rfl,by kernel_rfl,⟨by kernel_rfl,by kernel_rfl,fun _=>by kernel_rfl⟩,by kernel_rfl,by kernel_rfl⟩
theorem e1571:EntryOk Try.prog fid 85 (.fn d1571):=⟨Try.f85,Try.f85.body.getD .skip,by kernel_rfl,by kernel_rfl,by kernel_rfl,⟨by kernel_rfl,by kernel_rfl,fun _=>by kernel_rfl⟩,by kernel_rfl,by kernel_rfl⟩
theorem e1572:EntryOk Try.prog fid 86 (.fn d1572):=⟨Try.f86,Try.f86.body.getD .skip,by kernel_rfl,by kernel_rfl,by kernel_rfl,⟨by kernel_rfl,by kernel_rfl,fun _=>by kernel_rfl⟩,by kernel_rfl,by kernel_rfl⟩
theorem e1496:EntryOk Try.prog fid 87 (.orc (cloneG 2 16)):=clone_ok (f:=87) (fn:=Try.f87) (c:=Try.f87.body.getD .skip) (z:=[.int .i64 0,.int .i64 0]) (by kernel_rfl) (by kernel_rfl) (by kernel_rfl) ⟨by kernel_rfl,by kernel_rfl,fun _=>by kernel_rfl⟩ (by kernel_rfl)
theorem e1497:EntryOk Try.prog fid 88 (.fn d1497):=⟨Try.f88,Try.f88.body.getD .skip,by kernel_rfl,by kernel_rfl,by kernel_rfl,⟨by kernel_rfl,by kernel_rfl,fun _=>by kernel_rfl⟩,by kernel_rfl,by kernel_rfl⟩
theorem e1495:EntryOk Try.prog fid 89 (.fn d1495):=⟨Try.f89,Try.f89.body.getD .skip,by kernel_rfl,by kernel_rfl,by kernel_rfl,⟨by kernel_rfl,by kernel_rfl,fun _=>by kernel_rfl⟩,by kernel_rfl,by kernel_rfl⟩
theorem e1072:EntryOk Try.prog fid 90 (.fn d1072):=⟨Try.f90,Try.f90.body.getD .skip,by kernel_rfl,by kernel_rfl,by kernel_rfl,⟨by kernel_rfl,by kernel_rfl,fun _=>by kernel_rfl⟩,by kernel_rfl,by kernel_rfl⟩
theorem e1372:EntryOk Try.prog fid 91 (.fn d1372):=⟨Try.f91,Try.f91.body.getD .skip,by kernel_rfl,by kernel_rfl,by kernel_rfl,⟨by kernel_rfl,by kernel_rfl,fun _=>by kernel_rfl⟩,by kernel_rfl,by kernel_rfl⟩
theorem e1059:EntryOk Try.prog fid 92 (.fn d1059):=⟨Try.f92,Try.f92.body.getD .skip,by kernel_rfl,by kernel_rfl,by kernel_rfl,⟨by kernel_rfl,by kernel_rfl,fun _=>by kernel_rfl⟩,by kernel_rfl,by kernel_rfl⟩
theorem e1499:EntryOk Try.prog fid 93 (.fn d1499):=⟨Try.f93,Try.f93.body.getD .skip,by kernel_rfl,by kernel_rfl,by kernel_rfl,⟨by kernel_rfl,by kernel_rfl,fun _=>by kernel_rfl⟩,by kernel_rfl,by kernel_rfl⟩
theorem e1498:EntryOk Try.prog fid 94 (.fn d1498):=⟨Try.f94,Try.f94.body.getD .skip,by kernel_rfl,by kernel_rfl,by kernel_rfl,⟨by kernel_rfl,by kernel_rfl,fun _=>by kernel_rfl⟩,by kernel_rfl,by kernel_rfl⟩
theorem e1379:EntryOk Try.prog fid 95 (.fn d1379):=⟨Try.f95,Try.f95.body.getD .skip,by kernel_rfl,by kernel_rfl,by kernel_rfl,⟨by kernel_rfl,by kernel_rfl,fun _=>by kernel_rfl⟩,by kernel_rfl,by kernel_rfl⟩
theorem e1380:EntryOk Try.prog fid 96 (.fn d1380):=⟨Try.f96,Try.f96.body.getD .skip,by kernel_rfl,by kernel_rfl,by kernel_rfl,⟨by kernel_rfl,by kernel_rfl,fun _=>by kernel_rfl⟩,by kernel_rfl,by kernel_rfl⟩
theorem e1381:EntryOk Try.prog fid 97 (.fn d1381):=⟨Try.f97,Try.f97.body.getD .skip,by kernel_rfl,by kernel_rfl,by kernel_rfl,⟨by kernel_rfl,by kernel_rfl,fun _=>by kernel_rfl⟩,by kernel_rfl,by kernel_rfl⟩
theorem e1382:EntryOk Try.prog fid 98 (.fn d1382):=⟨Try.f98,Try.f98.body.getD .skip,by kernel_rfl,by kernel_rfl,by kernel_rfl,⟨by kernel_rfl,by kernel_rfl,fun _=>by kernel_rfl⟩,by kernel_rfl,by kernel_rfl⟩
theorem e1383:EntryOk Try.prog fid 99 (.fn d1383):=⟨Try.f99,Try.f99.body.getD .skip,by kernel_rfl,by kernel_rfl,by kernel_rfl,⟨by kernel_rfl,by kernel_rfl,fun _=>by kernel_rfl⟩,by kernel_rfl,by kernel_rfl⟩
theorem e1384:EntryOk Try.prog fid 100 (.fn d1384):=⟨Try.f100,Try.f100.body.getD .skip,by kernel_rfl,by kernel_rfl,by kernel_rfl,⟨by kernel_rfl,by kernel_rfl,fun _=>by kernel_rfl⟩,by kernel_rfl,by kernel_rfl⟩
theorem e1385:EntryOk Try.prog fid 101 (.fn d1385):=⟨Try.f101,Try.f101.body.getD .skip,by kernel_rfl,by kernel_rfl,by kernel_rfl,⟨by kernel_rfl,by kernel_rfl,fun _=>by kernel_rfl⟩,by kernel_rfl,by kernel_rfl⟩
theorem e1386:EntryOk Try.prog fid 102 (.fn d1386):=⟨Try.f102,Try.f102.body.getD .skip,by kernel_rfl,by kernel_rfl,by kernel_rfl,⟨by kernel_rfl,by kernel_rfl,fun _=>by kernel_rfl⟩,by kernel_rfl,by kernel_rfl⟩
theorem e1070:EntryOk Try.prog fid 103 (.fn d1070):=⟨Try.f103,Try.f103.body.getD .skip,by kernel_rfl,by kernel_rfl,by kernel_rfl,⟨by kernel_rfl,by kernel_rfl,fun _=>by kernel_rfl⟩,by kernel_rfl,by kernel_rfl⟩
theorem e1071:EntryOk Try.prog fid 104 (.fn d1071):=⟨Try.f104,Try.f104.body.getD .skip,by kernel_rfl,by kernel_rfl,by kernel_rfl,⟨by kernel_rfl,by kernel_rfl,fun _=>by kernel_rfl⟩,by kernel_rfl,by kernel_rfl⟩
theorem e1500:EntryOk Try.prog fid 105 (.fn d1500):=⟨Try.f105,Try.f105.body.getD .skip,by kernel_rfl,by kernel_rfl,by kernel_rfl,⟨by kernel_rfl,by kernel_rfl,fun _=>by kernel_rfl⟩,by kernel_rfl,by kernel_rfl⟩
theorem e1501:EntryOk Try.prog fid 106 (.fn d1501):=⟨Try.f106,Try.f106.body.getD .skip,by kernel_rfl,by kernel_rfl,by kernel_rfl,⟨by kernel_rfl,by kernel_rfl,fun _=>by kernel_rfl⟩,by kernel_rfl,by kernel_rfl⟩
theorem e1502:EntryOk Try.prog fid 107 (.fn d1502):=⟨Try.f107,Try.f107.body.getD .skip,by kernel_rfl,by kernel_rfl,by kernel_rfl,⟨by kernel_rfl,by kernel_rfl,fun _=>by kernel_rfl⟩,by kernel_rfl,by kernel_rfl⟩
theorem e1503:EntryOk Try.prog fid 108 (.fn d1503):=⟨Try.f108,Try.f108.body.getD .skip,by kernel_rfl,by kernel_rfl,by kernel_rfl,⟨by kernel_rfl,by kernel_rfl,fun _=>by kernel_rfl⟩,by kernel_rfl,by kernel_rfl⟩
theorem e1504:EntryOk Try.prog fid 109 (.fn d1504):=⟨Try.f109,Try.f109.body.getD .skip,by kernel_rfl,by kernel_rfl,by kernel_rfl,⟨by kernel_rfl,by kernel_rfl,fun _=>by kernel_rfl⟩,by kernel_rfl,by kernel_rfl⟩
theorem e1505:EntryOk Try.prog fid 110 (.fn d1505):=⟨Try.f110,Try.f110.body.getD .skip,by kernel_rfl,by kernel_rfl,by kernel_rfl,⟨by kernel_rfl,by kernel_rfl,fun _=>by kernel_rfl⟩,by kernel_rfl,by kernel_rfl⟩
theorem e1506:EntryOk Try.prog fid 111 (.fn d1506):=⟨Try.f111,Try.f111.body.getD .skip,by kernel_rfl,by kernel_rfl,by kernel_rfl,⟨by kernel_rfl,by kernel_rfl,fun _=>by kernel_rfl⟩,by kernel_rfl,by kernel_rfl⟩
theorem e1507:EntryOk Try.prog fid 112 (.fn d1507):=⟨Try.f112,Try.f112.body.getD .skip,by kernel_rfl,by kernel_rfl,by kernel_rfl,⟨by kernel_rfl,by kernel_rfl,fun _=>by kernel_rfl⟩,by kernel_rfl,by kernel_rfl⟩
theorem e1060:EntryOk Try.prog fid 113 (.fn d1060):=⟨Try.f113,Try.f113.body.getD .skip,by kernel_rfl,by kernel_rfl,by kernel_rfl,⟨by kernel_rfl,by kernel_rfl,fun _=>by kernel_rfl⟩,by kernel_rfl,by kernel_rfl⟩
theorem e1061:EntryOk Try.prog fid 114 (.fn d1061):=⟨Try.f114,Try.f114.body.getD .skip,by kernel_rfl,by kernel_rfl,by kernel_rfl,⟨by kernel_rfl,by kernel_rfl,fun _=>by kernel_rfl⟩,by kernel_rfl,by kernel_rfl⟩
theorem e1389:EntryOk Try.prog fid 115 (.fn d1389):=⟨Try.f115,Try.f115.body.getD .skip,by kernel_rfl,by kernel_rfl,by kernel_rfl,⟨by kernel_rfl,by kernel_rfl,fun _=>by kernel_rfl⟩,by kernel_rfl,by kernel_rfl⟩
theorem e1074:EntryOk Try.prog fid 116 (.fn d1074):=⟨Try.f116,Try.f116.body.getD .skip,by kernel_rfl,by kernel_rfl,by kernel_rfl,⟨by kernel_rfl,by kernel_rfl,fun _=>by kernel_rfl⟩,by kernel_rfl,by kernel_rfl⟩
theorem e1075:EntryOk Try.prog fid 117 (.fn d1075):=⟨Try.f117,Try.f117.body.getD .skip,by kernel_rfl,by kernel_rfl,by kernel_rfl,⟨by kernel_rfl,by kernel_rfl,fun _=>by kernel_rfl⟩,by kernel_rfl,by kernel_rfl⟩
theorem e1390:EntryOk Try.prog fid 118 (.fn d1390):=⟨Try.f118,Try.f118.body.getD .skip,by kernel_rfl,by kernel_rfl,by kernel_rfl,⟨by kernel_rfl,by kernel_rfl,fun _=>by kernel_rfl⟩,by kernel_rfl,by kernel_rfl⟩
theorem e1391:EntryOk Try.prog fid 119 (.fn d1391):=⟨Try.f119,Try.f119.body.getD .skip,by kernel_rfl,by kernel_rfl,by kernel_rfl,⟨by kernel_rfl,by kernel_rfl,fun _=>by kernel_rfl⟩,by kernel_rfl,by kernel_rfl⟩
theorem e1508:EntryOk Try.prog fid 120 (.fn d1508):=⟨Try.f120,Try.f120.body.getD .skip,by kernel_rfl,by kernel_rfl,by kernel_rfl,⟨by kernel_rfl,by kernel_rfl,fun _=>by kernel_rfl⟩,by kernel_rfl,by kernel_rfl⟩
theorem e1509:EntryOk Try.prog fid 121 (.fn d1509):=⟨Try.f121,Try.f121.body.getD .skip,by kernel_rfl,by kernel_rfl,by kernel_rfl,⟨by kernel_rfl,by kernel_rfl,fun _=>by kernel_rfl⟩,by kernel_rfl,by kernel_rfl⟩
theorem e1510:EntryOk Try.prog fid 122 (.fn d1510):=⟨Try.f122,Try.f122.body.getD .skip,by kernel_rfl,by kernel_rfl,by kernel_rfl,⟨by kernel_rfl,by kernel_rfl,fun _=>by kernel_rfl⟩,by kernel_rfl,by kernel_rfl⟩
theorem e1392:EntryOk Try.prog fid 123 (.fn d1392):=⟨Try.f123,Try.f123.body.getD .skip,by kernel_rfl,by kernel_rfl,by kernel_rfl,⟨by kernel_rfl,by kernel_rfl,fun _=>by kernel_rfl⟩,by kernel_rfl,by kernel_rfl⟩
theorem e1511:EntryOk Try.prog fid 124 (.fn d1511):=⟨Try.f124,Try.f124.body.getD .skip,by kernel_rfl,by kernel_rfl,by kernel_rfl,⟨by kernel_rfl,by kernel_rfl,fun _=>by kernel_rfl⟩,by kernel_rfl,by kernel_rfl⟩
theorem fid_mem:∀ {l:List (Nat × Nat)} {f k:Nat},l.lookup f=some k→(f,k)∈l
 | [],_,_,h=>by cases h
 | (a,b)::l,f,k,h=>by
  rw [List.lookup_cons] at h
  split at h
  ·rename_i hf
   injection h with h
   subst h
   rw [show f=a by simpa using hf]
   exact List.mem_cons_self
  ·exact List.mem_cons_of_mem _ (fid_mem h)
def AllOk:List (Nat × Nat)→Prop
 | []=>True
 |p::l=>(∀ e,tab p.2=some e→EntryOk Try.prog fid p.1 e)∧AllOk l
theorem all_mem:∀ {l:List (Nat × Nat)},AllOk l→∀ p∈l,∀ e,tab p.2=some e→EntryOk Try.prog fid p.1 e
 |_::_,h,p,hp=>by
  rcases List.mem_cons.1 hp with rfl | hp
  ·exact h.1
  ·exact all_mem h.2 p hp
theorem one_ok {f k:Nat} {d:Entry} (h:tab k=some d) (e:EntryOk Try.prog fid f d):∀ x,tab k=some x→EntryOk Try.prog fid f x:=by
 intro x hx
 rw [h] at hx
 injection hx with hx
 exact hx ▸ e
theorem none_ok {f k:Nat} (h:tab k=none):∀ x,tab k=some x→EntryOk Try.prog fid f x:=by
 intro x hx
 rw [h] at hx
 cases hx
theorem all_ok:AllOk fidL:=⟨one_ok t1705 e1705,one_ok t1706 e1706,one_ok t1707 e1707,one_ok t1084 e1084,one_ok t1175 e1175,one_ok t1176 e1176,one_ok t1711 e1711,one_ok t1712 e1712,one_ok t1713 e1713,one_ok t1646 e1646,one_ok t1648 e1648,one_ok t1120 e1120,one_ok t1714 e1714,one_ok t1715 e1715,one_ok t1187 e1187,one_ok t1716 e1716,one_ok t1717 e1717,one_ok t1718 e1718,one_ok t1719 e1719,one_ok t1428 e1428,one_ok t1616 e1616,one_ok t1487 e1487,one_ok t1022 e1022,one_ok t1189 e1189,one_ok t1190 e1190,one_ok t1188 e1188,one_ok t1194 e1194,one_ok t1328 e1328,one_ok t1329 e1329,one_ok t1652 e1652,one_ok t1653 e1653,one_ok t1654 e1654,one_ok t1270 e1270,one_ok t1016 e1016,one_ok t1595 e1595,none_ok nd1720,one_ok t1721 e1721,one_ok t1722 e1722,one_ok t1723 e1723,one_ok t1724 e1724,one_ok t1439 e1439,one_ok t1622 e1622,one_ok t1211 e1211,one_ok t1201 e1201,one_ok t1199 e1199,one_ok t1200 e1200,one_ok t1205 e1205,one_ok t1206 e1206,one_ok t1207 e1207,one_ok t1222 e1222,none_ok nd1725,one_ok t1726 e1726,one_ok t1558 e1558,one_ok t1485 e1485,one_ok t1727 e1727,one_ok t1598 e1598,one_ok t1020 e1020,one_ok t1486 e1486,one_ok t1049 e1049,one_ok t1024 e1024,one_ok t1210 e1210,one_ok t1202 e1202,one_ok t1728 e1728,one_ok t1729 e1729,one_ok t1565 e1565,one_ok t1566 e1566,one_ok t1554 e1554,one_ok t1567 e1567,one_ok t1493 e1493,one_ok t1021 e1021,one_ok t1600 e1600,one_ok t1602 e1602,one_ok t1491 e1491,one_ok t1219 e1219,one_ok t1212 e1212,one_ok t1358 e1358,one_ok t1571 e1571,one_ok t1572 e1572,one_ok t1496 e1496,one_ok t1497 e1497,one_ok t1495 e1495,one_ok t1072 e1072,one_ok t1372 e1372,one_ok t1059 e1059,one_ok t1499 e1499,one_ok t1498 e1498,one_ok t1379 e1379,one_ok t1380 e1380,one_ok t1381 e1381,one_ok t1382 e1382,one_ok t1383 e1383,one_ok t1384 e1384,one_ok t1385 e1385,one_ok t1386 e1386,one_ok t1070 e1070,one_ok t1071 e1071,one_ok t1500 e1500,one_ok t1501 e1501,one_ok t1502 e1502,one_ok t1503 e1503,one_ok t1504 e1504,one_ok t1505 e1505,one_ok t1506 e1506,one_ok t1507 e1507,one_ok t1060 e1060,one_ok t1061 e1061,one_ok t1389 e1389,one_ok t1074 e1074,one_ok t1075 e1075,one_ok t1390 e1390,one_ok t1391 e1391,one_ok t1508 e1508,one_ok t1509 e1509,one_ok t1510 e1510,one_ok t1392 e1392,one_ok t1511 e1511,none_ok n1492,trivial⟩
theorem goodP:Good Try.prog fid tab:=fun f k e hf he=>all_mem all_ok (f,k) (fid_mem hf) e he
end Go.Proofs.Ytfbfbennheeglaa
