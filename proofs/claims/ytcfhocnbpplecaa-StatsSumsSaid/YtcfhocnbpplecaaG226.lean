import Derived.Test.YtcfhocnbpplecaaT226
import Derived.Test.YtcfhocnbpplecaaProg
import Derived.KernelRfl
namespace Go.Proofs.Ytcfhocnbpplecaa
set_option maxRecDepth 1000000
theorem e1393 : EntryOk Try.prog fid 8 (.fn d1393) := ⟨Try.f8, Try.f8.body.getD .skip, by kernel_rfl, by kernel_rfl, by kernel_rfl, ⟨by kernel_rfl, by kernel_rfl, fun _ => by kernel_rfl⟩, by kernel_rfl, by kernel_rfl⟩
theorem e1394 : EntryOk Try.prog fid 9 (.fn d1394) := ⟨Try.f9, Try.f9.body.getD .skip, by kernel_rfl, by kernel_rfl, by kernel_rfl, ⟨by kernel_rfl, by kernel_rfl, fun _ => by kernel_rfl⟩, by kernel_rfl, by kernel_rfl⟩
theorem e1395 : EntryOk Try.prog fid 10 (.fn d1395) := ⟨Try.f10, Try.f10.body.getD .skip, by kernel_rfl, by kernel_rfl, by kernel_rfl, ⟨by kernel_rfl, by kernel_rfl, fun _ => by kernel_rfl⟩, by kernel_rfl, by kernel_rfl⟩
theorem e1396 : EntryOk Try.prog fid 11 (.fn d1396) := ⟨Try.f11, Try.f11.body.getD .skip, by kernel_rfl, by kernel_rfl, by kernel_rfl, ⟨by kernel_rfl, by kernel_rfl, fun _ => by kernel_rfl⟩, by kernel_rfl, by kernel_rfl⟩
theorem e1410 : EntryOk Try.prog fid 19 (.fn d1410) := ⟨Try.f19, Try.f19.body.getD .skip, by kernel_rfl, by kernel_rfl, by kernel_rfl, ⟨by kernel_rfl, by kernel_rfl, fun _ => by kernel_rfl⟩, by kernel_rfl, by kernel_rfl⟩
theorem e1438 : EntryOk Try.prog fid 20 (.fn d1438) := ⟨Try.f20, Try.f20.body.getD .skip, by kernel_rfl, by kernel_rfl, by kernel_rfl, ⟨by kernel_rfl, by kernel_rfl, fun _ => by kernel_rfl⟩, by kernel_rfl, by kernel_rfl⟩
theorem e1423 : EntryOk Try.prog fid 21 (.fn d1423) := ⟨Try.f21, Try.f21.body.getD .skip, by kernel_rfl, by kernel_rfl, by kernel_rfl, ⟨by kernel_rfl, by kernel_rfl, fun _ => by kernel_rfl⟩, by kernel_rfl, by kernel_rfl⟩
theorem e1427 : EntryOk Try.prog fid 22 (.fn d1427) := ⟨Try.f22, Try.f22.body.getD .skip, by kernel_rfl, by kernel_rfl, by kernel_rfl, ⟨by kernel_rfl, by kernel_rfl, fun _ => by kernel_rfl⟩, by kernel_rfl, by kernel_rfl⟩
theorem e1415 : EntryOk Try.prog fid 25 (.fn d1415) := ⟨Try.f25, Try.f25.body.getD .skip, by kernel_rfl, by kernel_rfl, by kernel_rfl, ⟨by kernel_rfl, by kernel_rfl, fun _ => by kernel_rfl⟩, by kernel_rfl, by kernel_rfl⟩
theorem e1397 : EntryOk Try.prog fid 26 (.fn d1397) := ⟨Try.f26, Try.f26.body.getD .skip, by kernel_rfl, by kernel_rfl, by kernel_rfl, ⟨by kernel_rfl, by kernel_rfl, fun _ => by kernel_rfl⟩, by kernel_rfl, by kernel_rfl⟩
theorem e1276 : EntryOk Try.prog fid 27 (.fn d1276) := ⟨Try.f27, Try.f27.body.getD .skip, by kernel_rfl, by kernel_rfl, by kernel_rfl, ⟨by kernel_rfl, by kernel_rfl, fun _ => by kernel_rfl⟩, by kernel_rfl, by kernel_rfl⟩
theorem e1398 : EntryOk Try.prog fid 28 (.fn d1398) := ⟨Try.f28, Try.f28.body.getD .skip, by kernel_rfl, by kernel_rfl, by kernel_rfl, ⟨by kernel_rfl, by kernel_rfl, fun _ => by kernel_rfl⟩, by kernel_rfl, by kernel_rfl⟩
theorem e1399 : EntryOk Try.prog fid 29 (.fn d1399) := ⟨Try.f29, Try.f29.body.getD .skip, by kernel_rfl, by kernel_rfl, by kernel_rfl, ⟨by kernel_rfl, by kernel_rfl, fun _ => by kernel_rfl⟩, by kernel_rfl, by kernel_rfl⟩
theorem e1400 : EntryOk Try.prog fid 30 (.fn d1400) := ⟨Try.f30, Try.f30.body.getD .skip, by kernel_rfl, by kernel_rfl, by kernel_rfl, ⟨by kernel_rfl, by kernel_rfl, fun _ => by kernel_rfl⟩, by kernel_rfl, by kernel_rfl⟩
theorem e1401 : EntryOk Try.prog fid 31 (.fn d1401) := ⟨Try.f31, Try.f31.body.getD .skip, by kernel_rfl, by kernel_rfl, by kernel_rfl, ⟨by kernel_rfl, by kernel_rfl, fun _ => by kernel_rfl⟩, by kernel_rfl, by kernel_rfl⟩
theorem e1402 : EntryOk Try.prog fid 32 (.fn d1402) := ⟨Try.f32, Try.f32.body.getD .skip, by kernel_rfl, by kernel_rfl, by kernel_rfl, ⟨by kernel_rfl, by kernel_rfl, fun _ => by kernel_rfl⟩, by kernel_rfl, by kernel_rfl⟩
theorem e1403 : EntryOk Try.prog fid 33 (.fn d1403) := ⟨Try.f33, Try.f33.body.getD .skip, by kernel_rfl, by kernel_rfl, by kernel_rfl, ⟨by kernel_rfl, by kernel_rfl, fun _ => by kernel_rfl⟩, by kernel_rfl, by kernel_rfl⟩
theorem e1404 : EntryOk Try.prog fid 34 (.fn d1404) := ⟨Try.f34, Try.f34.body.getD .skip, by kernel_rfl, by kernel_rfl, by kernel_rfl, ⟨by kernel_rfl, by kernel_rfl, fun _ => by kernel_rfl⟩, by kernel_rfl, by kernel_rfl⟩
theorem e1016 : EntryOk Try.prog fid 35 (.fn d1016) := ⟨Try.f35, Try.f35.body.getD .skip, by kernel_rfl, by kernel_rfl, by kernel_rfl, ⟨by kernel_rfl, by kernel_rfl, fun _ => by kernel_rfl⟩, by kernel_rfl, by kernel_rfl⟩
theorem e1405 : EntryOk Try.prog fid 36 (.fn d1405) := ⟨Try.f36, Try.f36.body.getD .skip, by kernel_rfl, by kernel_rfl, by kernel_rfl, ⟨by kernel_rfl, by kernel_rfl, fun _ => by kernel_rfl⟩, by kernel_rfl, by kernel_rfl⟩
theorem e1406 : EntryOk Try.prog fid 37 (.fn d1406) := ⟨Try.f37, Try.f37.body.getD .skip, by kernel_rfl, by kernel_rfl, by kernel_rfl, ⟨by kernel_rfl, by kernel_rfl, fun _ => by kernel_rfl⟩, by kernel_rfl, by kernel_rfl⟩
theorem e1407 : EntryOk Try.prog fid 38 (.fn d1407) := ⟨Try.f38, Try.f38.body.getD .skip, by kernel_rfl, by kernel_rfl, by kernel_rfl, ⟨by kernel_rfl, by kernel_rfl, fun _ => by kernel_rfl⟩, by kernel_rfl, by kernel_rfl⟩
theorem e1408 : EntryOk Try.prog fid 39 (.fn d1408) := ⟨Try.f39, Try.f39.body.getD .skip, by kernel_rfl, by kernel_rfl, by kernel_rfl, ⟨by kernel_rfl, by kernel_rfl, fun _ => by kernel_rfl⟩, by kernel_rfl, by kernel_rfl⟩
theorem e1105 : EntryOk Try.prog fid 40 (.fn d1105) := ⟨Try.f40, Try.f40.body.getD .skip, by kernel_rfl, by kernel_rfl, by kernel_rfl, ⟨by kernel_rfl, by kernel_rfl, fun _ => by kernel_rfl⟩, by kernel_rfl, by kernel_rfl⟩
theorem e1409 : EntryOk Try.prog fid 41 (.fn d1409) := ⟨Try.f41, Try.f41.body.getD .skip, by kernel_rfl, by kernel_rfl, by kernel_rfl, ⟨by kernel_rfl, by kernel_rfl, fun _ => by kernel_rfl⟩, by kernel_rfl, by kernel_rfl⟩
theorem e1421 : EntryOk Try.prog fid 43 (.fn d1421) := ⟨Try.f43, Try.f43.body.getD .skip, by kernel_rfl, by kernel_rfl, by kernel_rfl, ⟨by kernel_rfl, by kernel_rfl, fun _ => by kernel_rfl⟩, by kernel_rfl, by kernel_rfl⟩
theorem e1457 : EntryOk Try.prog fid 46 (.fn d1457) := ⟨Try.f46, Try.f46.body.getD .skip, by kernel_rfl, by kernel_rfl, by kernel_rfl, ⟨by kernel_rfl, by kernel_rfl, fun _ => by kernel_rfl⟩, by kernel_rfl, by kernel_rfl⟩
theorem e1437 : EntryOk Try.prog fid 50 (.fn d1437) := ⟨Try.f50, Try.f50.body.getD .skip, by kernel_rfl, by kernel_rfl, by kernel_rfl, ⟨by kernel_rfl, by kernel_rfl, fun _ => by kernel_rfl⟩, by kernel_rfl, by kernel_rfl⟩
theorem e1420 : EntryOk Try.prog fid 53 (.fn d1420) := ⟨Try.f53, Try.f53.body.getD .skip, by kernel_rfl, by kernel_rfl, by kernel_rfl, ⟨by kernel_rfl, by kernel_rfl, fun _ => by kernel_rfl⟩, by kernel_rfl, by kernel_rfl⟩
theorem e1456 : EntryOk Try.prog fid 54 (.fn d1456) := ⟨Try.f54, Try.f54.body.getD .skip, by kernel_rfl, by kernel_rfl, by kernel_rfl, ⟨by kernel_rfl, by kernel_rfl, fun _ => by kernel_rfl⟩, by kernel_rfl, by kernel_rfl⟩
theorem e1434 : EntryOk Try.prog fid 56 (.fn d1434) := ⟨Try.f56, Try.f56.body.getD .skip, by kernel_rfl, by kernel_rfl, by kernel_rfl, ⟨by kernel_rfl, by kernel_rfl, fun _ => by kernel_rfl⟩, by kernel_rfl, by kernel_rfl⟩
theorem e1459 : EntryOk Try.prog fid 57 (.fn d1459) := ⟨Try.f57, Try.f57.body.getD .skip, by kernel_rfl, by kernel_rfl, by kernel_rfl, ⟨by kernel_rfl, by kernel_rfl, fun _ => by kernel_rfl⟩, by kernel_rfl, by kernel_rfl⟩
theorem e1455 : EntryOk Try.prog fid 58 (.fn d1455) := ⟨Try.f58, Try.f58.body.getD .skip, by kernel_rfl, by kernel_rfl, by kernel_rfl, ⟨by kernel_rfl, by kernel_rfl, fun _ => by kernel_rfl⟩, by kernel_rfl, by kernel_rfl⟩
theorem e1428 : EntryOk Try.prog fid 59 (.fn d1428) := ⟨Try.f59, Try.f59.body.getD .skip, by kernel_rfl, by kernel_rfl, by kernel_rfl, ⟨by kernel_rfl, by kernel_rfl, fun _ => by kernel_rfl⟩, by kernel_rfl, by kernel_rfl⟩
theorem e1411 : EntryOk Try.prog fid 60 (.fn d1411) := ⟨Try.f60, Try.f60.body.getD .skip, by kernel_rfl, by kernel_rfl, by kernel_rfl, ⟨by kernel_rfl, by kernel_rfl, fun _ => by kernel_rfl⟩, by kernel_rfl, by kernel_rfl⟩
theorem e1412 : EntryOk Try.prog fid 61 (.fn d1416) := ⟨Try.f61, Try.f61.body.getD .skip, by kernel_rfl, by kernel_rfl, by kernel_rfl, ⟨by kernel_rfl, by kernel_rfl, fun _ => by kernel_rfl⟩, by kernel_rfl, by kernel_rfl⟩
theorem e1413 : EntryOk Try.prog fid 62 (.fn d1417) := ⟨Try.f62, Try.f62.body.getD .skip, by kernel_rfl, by kernel_rfl, by kernel_rfl, ⟨by kernel_rfl, by kernel_rfl, fun _ => by kernel_rfl⟩, by kernel_rfl, by kernel_rfl⟩
theorem e1414 : EntryOk Try.prog fid 63 (.fn d1414) := ⟨Try.f63, Try.f63.body.getD .skip, by kernel_rfl, by kernel_rfl, by kernel_rfl, ⟨by kernel_rfl, by kernel_rfl, fun _ => by kernel_rfl⟩, by kernel_rfl, by kernel_rfl⟩
theorem e1416 : EntryOk Try.prog fid 64 (.fn d1416) := ⟨Try.f64, Try.f64.body.getD .skip, by kernel_rfl, by kernel_rfl, by kernel_rfl, ⟨by kernel_rfl, by kernel_rfl, fun _ => by kernel_rfl⟩, by kernel_rfl, by kernel_rfl⟩
theorem e1417 : EntryOk Try.prog fid 65 (.fn d1417) := ⟨Try.f65, Try.f65.body.getD .skip, by kernel_rfl, by kernel_rfl, by kernel_rfl, ⟨by kernel_rfl, by kernel_rfl, fun _ => by kernel_rfl⟩, by kernel_rfl, by kernel_rfl⟩
theorem e1418 : EntryOk Try.prog fid 66 (.fn d1418) := ⟨Try.f66, Try.f66.body.getD .skip, by kernel_rfl, by kernel_rfl, by kernel_rfl, ⟨by kernel_rfl, by kernel_rfl, fun _ => by kernel_rfl⟩, by kernel_rfl, by kernel_rfl⟩
theorem e1021 : EntryOk Try.prog fid 67 (.fn d1021) := ⟨Try.f67, Try.f67.body.getD .skip, by kernel_rfl, by kernel_rfl, by kernel_rfl, ⟨by kernel_rfl, by kernel_rfl, fun _ => by kernel_rfl⟩, by kernel_rfl, by kernel_rfl⟩
theorem e1419 : EntryOk Try.prog fid 68 (.fn d1419) := ⟨Try.f68, Try.f68.body.getD .skip, by kernel_rfl, by kernel_rfl, by kernel_rfl, ⟨by kernel_rfl, by kernel_rfl, fun _ => by kernel_rfl⟩, by kernel_rfl, by kernel_rfl⟩
theorem e1431 : EntryOk Try.prog fid 69 (.fn d1431) := ⟨Try.f69, Try.f69.body.getD .skip, by kernel_rfl, by kernel_rfl, by kernel_rfl, ⟨by kernel_rfl, by kernel_rfl, fun _ => by kernel_rfl⟩, by kernel_rfl, by kernel_rfl⟩
theorem e1432 : EntryOk Try.prog fid 72 (.fn d1432) := ⟨Try.f72, Try.f72.body.getD .skip, by kernel_rfl, by kernel_rfl, by kernel_rfl, ⟨by kernel_rfl, by kernel_rfl, fun _ => by kernel_rfl⟩, by kernel_rfl, by kernel_rfl⟩
theorem e1465 : EntryOk Try.prog fid 74 (.fn d1465) := ⟨Try.f74, Try.f74.body.getD .skip, by kernel_rfl, by kernel_rfl, by kernel_rfl, ⟨by kernel_rfl, by kernel_rfl, fun _ => by kernel_rfl⟩, by kernel_rfl, by kernel_rfl⟩
theorem e1464 : EntryOk Try.prog fid 76 (.fn d1464) := ⟨Try.f76, Try.f76.body.getD .skip, by kernel_rfl, by kernel_rfl, by kernel_rfl, ⟨by kernel_rfl, by kernel_rfl, fun _ => by kernel_rfl⟩, by kernel_rfl, by kernel_rfl⟩
theorem e1444 : EntryOk Try.prog fid 78 (.fn d1444) := ⟨Try.f78, Try.f78.body.getD .skip, by kernel_rfl, by kernel_rfl, by kernel_rfl, ⟨by kernel_rfl, by kernel_rfl, fun _ => by kernel_rfl⟩, by kernel_rfl, by kernel_rfl⟩
theorem e1445 : EntryOk Try.prog fid 79 (.fn d1445) := ⟨Try.f79, Try.f79.body.getD .skip, by kernel_rfl, by kernel_rfl, by kernel_rfl, ⟨by kernel_rfl, by kernel_rfl, fun _ => by kernel_rfl⟩, by kernel_rfl, by kernel_rfl⟩
theorem e1467 : EntryOk Try.prog fid 83 (.fn d1467) := ⟨Try.f83, Try.f83.body.getD .skip, by kernel_rfl, by kernel_rfl, by kernel_rfl, ⟨by kernel_rfl, by kernel_rfl, fun _ => by kernel_rfl⟩, by kernel_rfl, by kernel_rfl⟩
theorem e1468 : EntryOk Try.prog fid 84 (.fn d1468) := ⟨Try.f84, Try.f84.body.getD .skip, by kernel_rfl, by kernel_rfl, by kernel_rfl, ⟨by kernel_rfl, by kernel_rfl, fun _ => by kernel_rfl⟩, by kernel_rfl, by kernel_rfl⟩
theorem e1439 : EntryOk Try.prog fid 85 (.fn d1439) := ⟨Try.f85, Try.f85.body.getD .skip, by kernel_rfl, by kernel_rfl, by kernel_rfl, ⟨by kernel_rfl, by kernel_rfl, fun _ => by kernel_rfl⟩, by kernel_rfl, by kernel_rfl⟩
theorem e1422 : EntryOk Try.prog fid 86 (.fn d1422) := ⟨Try.f86, Try.f86.body.getD .skip, by kernel_rfl, by kernel_rfl, by kernel_rfl, ⟨by kernel_rfl, by kernel_rfl, fun _ => by kernel_rfl⟩, by kernel_rfl, by kernel_rfl⟩
theorem e1424 : EntryOk Try.prog fid 87 (.fn d1429) := ⟨Try.f87, Try.f87.body.getD .skip, by kernel_rfl, by kernel_rfl, by kernel_rfl, ⟨by kernel_rfl, by kernel_rfl, fun _ => by kernel_rfl⟩, by kernel_rfl, by kernel_rfl⟩
theorem e1425 : EntryOk Try.prog fid 88 (.fn d1358) := ⟨Try.f88, Try.f88.body.getD .skip, by kernel_rfl, by kernel_rfl, by kernel_rfl, ⟨by kernel_rfl, by kernel_rfl, fun _ => by kernel_rfl⟩, by kernel_rfl, by kernel_rfl⟩
theorem e1426 : EntryOk Try.prog fid 89 (.fn d1430) := ⟨Try.f89, Try.f89.body.getD .skip, by kernel_rfl, by kernel_rfl, by kernel_rfl, ⟨by kernel_rfl, by kernel_rfl, fun _ => by kernel_rfl⟩, by kernel_rfl, by kernel_rfl⟩
theorem e1429 : EntryOk Try.prog fid 90 (.fn d1429) := ⟨Try.f90, Try.f90.body.getD .skip, by kernel_rfl, by kernel_rfl, by kernel_rfl, ⟨by kernel_rfl, by kernel_rfl, fun _ => by kernel_rfl⟩, by kernel_rfl, by kernel_rfl⟩
theorem e1358 : EntryOk Try.prog fid 91 (.fn d1358) := ⟨Try.f91, Try.f91.body.getD .skip, by kernel_rfl, by kernel_rfl, by kernel_rfl, ⟨by kernel_rfl, by kernel_rfl, fun _ => by kernel_rfl⟩, by kernel_rfl, by kernel_rfl⟩
theorem e1430 : EntryOk Try.prog fid 92 (.fn d1430) := ⟨Try.f92, Try.f92.body.getD .skip, by kernel_rfl, by kernel_rfl, by kernel_rfl, ⟨by kernel_rfl, by kernel_rfl, fun _ => by kernel_rfl⟩, by kernel_rfl, by kernel_rfl⟩
theorem e1441 : EntryOk Try.prog fid 95 (.fn d1441) := ⟨Try.f95, Try.f95.body.getD .skip, by kernel_rfl, by kernel_rfl, by kernel_rfl, ⟨by kernel_rfl, by kernel_rfl, fun _ => by kernel_rfl⟩, by kernel_rfl, by kernel_rfl⟩
theorem e1442 : EntryOk Try.prog fid 96 (.fn d1442) := ⟨Try.f96, Try.f96.body.getD .skip, by kernel_rfl, by kernel_rfl, by kernel_rfl, ⟨by kernel_rfl, by kernel_rfl, fun _ => by kernel_rfl⟩, by kernel_rfl, by kernel_rfl⟩
theorem e1435 : EntryOk Try.prog fid 100 (.fn d1440) := ⟨Try.f100, Try.f100.body.getD .skip, by kernel_rfl, by kernel_rfl, by kernel_rfl, ⟨by kernel_rfl, by kernel_rfl, fun _ => by kernel_rfl⟩, by kernel_rfl, by kernel_rfl⟩
theorem e1436 : EntryOk Try.prog fid 101 (.fn d1372) := ⟨Try.f101, Try.f101.body.getD .skip, by kernel_rfl, by kernel_rfl, by kernel_rfl, ⟨by kernel_rfl, by kernel_rfl, fun _ => by kernel_rfl⟩, by kernel_rfl, by kernel_rfl⟩
theorem e1059 : EntryOk Try.prog fid 102 (.fn d1059) := ⟨Try.f102, Try.f102.body.getD .skip, by kernel_rfl, by kernel_rfl, by kernel_rfl, ⟨by kernel_rfl, by kernel_rfl, fun _ => by kernel_rfl⟩, by kernel_rfl, by kernel_rfl⟩
theorem e1440 : EntryOk Try.prog fid 103 (.fn d1440) := ⟨Try.f103, Try.f103.body.getD .skip, by kernel_rfl, by kernel_rfl, by kernel_rfl, ⟨by kernel_rfl, by kernel_rfl, fun _ => by kernel_rfl⟩, by kernel_rfl, by kernel_rfl⟩
theorem e1372 : EntryOk Try.prog fid 104 (.fn d1372) := ⟨Try.f104, Try.f104.body.getD .skip, by kernel_rfl, by kernel_rfl, by kernel_rfl, ⟨by kernel_rfl, by kernel_rfl, fun _ => by kernel_rfl⟩, by kernel_rfl, by kernel_rfl⟩
theorem e1458 : EntryOk Try.prog fid 106 (.fn d1458) := ⟨Try.f106, Try.f106.body.getD .skip, by kernel_rfl, by kernel_rfl, by kernel_rfl, ⟨by kernel_rfl, by kernel_rfl, fun _ => by kernel_rfl⟩, by kernel_rfl, by kernel_rfl⟩
theorem e1446 : EntryOk Try.prog fid 109 (.fn d1379) := ⟨Try.f109, Try.f109.body.getD .skip, by kernel_rfl, by kernel_rfl, by kernel_rfl, ⟨by kernel_rfl, by kernel_rfl, fun _ => by kernel_rfl⟩, by kernel_rfl, by kernel_rfl⟩
theorem e1447 : EntryOk Try.prog fid 110 (.fn d1380) := ⟨Try.f110, Try.f110.body.getD .skip, by kernel_rfl, by kernel_rfl, by kernel_rfl, ⟨by kernel_rfl, by kernel_rfl, fun _ => by kernel_rfl⟩, by kernel_rfl, by kernel_rfl⟩
theorem e1448 : EntryOk Try.prog fid 111 (.fn d1381) := ⟨Try.f111, Try.f111.body.getD .skip, by kernel_rfl, by kernel_rfl, by kernel_rfl, ⟨by kernel_rfl, by kernel_rfl, fun _ => by kernel_rfl⟩, by kernel_rfl, by kernel_rfl⟩
theorem e1449 : EntryOk Try.prog fid 112 (.fn d1382) := ⟨Try.f112, Try.f112.body.getD .skip, by kernel_rfl, by kernel_rfl, by kernel_rfl, ⟨by kernel_rfl, by kernel_rfl, fun _ => by kernel_rfl⟩, by kernel_rfl, by kernel_rfl⟩
theorem e1450 : EntryOk Try.prog fid 113 (.fn d1383) := ⟨Try.f113, Try.f113.body.getD .skip, by kernel_rfl, by kernel_rfl, by kernel_rfl, ⟨by kernel_rfl, by kernel_rfl, fun _ => by kernel_rfl⟩, by kernel_rfl, by kernel_rfl⟩
theorem e1451 : EntryOk Try.prog fid 114 (.fn d1384) := ⟨Try.f114, Try.f114.body.getD .skip, by kernel_rfl, by kernel_rfl, by kernel_rfl, ⟨by kernel_rfl, by kernel_rfl, fun _ => by kernel_rfl⟩, by kernel_rfl, by kernel_rfl⟩
theorem e1452 : EntryOk Try.prog fid 115 (.fn d1219) := ⟨Try.f115, Try.f115.body.getD .skip, by kernel_rfl, by kernel_rfl, by kernel_rfl, ⟨by kernel_rfl, by kernel_rfl, fun _ => by kernel_rfl⟩, by kernel_rfl, by kernel_rfl⟩
theorem e1453 : EntryOk Try.prog fid 116 (.fn d1385) := ⟨Try.f116, Try.f116.body.getD .skip, by kernel_rfl, by kernel_rfl, by kernel_rfl, ⟨by kernel_rfl, by kernel_rfl, fun _ => by kernel_rfl⟩, by kernel_rfl, by kernel_rfl⟩
theorem e1454 : EntryOk Try.prog fid 117 (.fn d1386) := ⟨Try.f117, Try.f117.body.getD .skip, by kernel_rfl, by kernel_rfl, by kernel_rfl, ⟨by kernel_rfl, by kernel_rfl, fun _ => by kernel_rfl⟩, by kernel_rfl, by kernel_rfl⟩
theorem e1070 : EntryOk Try.prog fid 118 (.fn d1070) := ⟨Try.f118, Try.f118.body.getD .skip, by kernel_rfl, by kernel_rfl, by kernel_rfl, ⟨by kernel_rfl, by kernel_rfl, fun _ => by kernel_rfl⟩, by kernel_rfl, by kernel_rfl⟩
theorem e1071 : EntryOk Try.prog fid 119 (.fn d1071) := ⟨Try.f119, Try.f119.body.getD .skip, by kernel_rfl, by kernel_rfl, by kernel_rfl, ⟨by kernel_rfl, by kernel_rfl, fun _ => by kernel_rfl⟩, by kernel_rfl, by kernel_rfl⟩
theorem e1379 : EntryOk Try.prog fid 120 (.fn d1379) := ⟨Try.f120, Try.f120.body.getD .skip, by kernel_rfl, by kernel_rfl, by kernel_rfl, ⟨by kernel_rfl, by kernel_rfl, fun _ => by kernel_rfl⟩, by kernel_rfl, by kernel_rfl⟩
theorem e1380 : EntryOk Try.prog fid 121 (.fn d1380) := ⟨Try.f121, Try.f121.body.getD .skip, by kernel_rfl, by kernel_rfl, by kernel_rfl, ⟨by kernel_rfl, by kernel_rfl, fun _ => by kernel_rfl⟩, by kernel_rfl, by kernel_rfl⟩
theorem e1381 : EntryOk Try.prog fid 122 (.fn d1381) := ⟨Try.f122, Try.f122.body.getD .skip, by kernel_rfl, by kernel_rfl, by kernel_rfl, ⟨by kernel_rfl, by kernel_rfl, fun _ => by kernel_rfl⟩, by kernel_rfl, by kernel_rfl⟩
theorem e1382 : EntryOk Try.prog fid 123 (.fn d1382) := ⟨Try.f123, Try.f123.body.getD .skip, by kernel_rfl, by kernel_rfl, by kernel_rfl, ⟨by kernel_rfl, by kernel_rfl, fun _ => by kernel_rfl⟩, by kernel_rfl, by kernel_rfl⟩
theorem e1383 : EntryOk Try.prog fid 124 (.fn d1383) := ⟨Try.f124, Try.f124.body.getD .skip, by kernel_rfl, by kernel_rfl, by kernel_rfl, ⟨by kernel_rfl, by kernel_rfl, fun _ => by kernel_rfl⟩, by kernel_rfl, by kernel_rfl⟩
theorem e1384 : EntryOk Try.prog fid 125 (.fn d1384) := ⟨Try.f125, Try.f125.body.getD .skip, by kernel_rfl, by kernel_rfl, by kernel_rfl, ⟨by kernel_rfl, by kernel_rfl, fun _ => by kernel_rfl⟩, by kernel_rfl, by kernel_rfl⟩
theorem e1219 : EntryOk Try.prog fid 126 (.fn d1219) := ⟨Try.f126, Try.f126.body.getD .skip, by kernel_rfl, by kernel_rfl, by kernel_rfl, ⟨by kernel_rfl, by kernel_rfl, fun _ => by kernel_rfl⟩, by kernel_rfl, by kernel_rfl⟩
theorem e1385 : EntryOk Try.prog fid 127 (.fn d1385) := ⟨Try.f127, Try.f127.body.getD .skip, by kernel_rfl, by kernel_rfl, by kernel_rfl, ⟨by kernel_rfl, by kernel_rfl, fun _ => by kernel_rfl⟩, by kernel_rfl, by kernel_rfl⟩
theorem e1386 : EntryOk Try.prog fid 128 (.fn d1386) := ⟨Try.f128, Try.f128.body.getD .skip, by kernel_rfl, by kernel_rfl, by kernel_rfl, ⟨by kernel_rfl, by kernel_rfl, fun _ => by kernel_rfl⟩, by kernel_rfl, by kernel_rfl⟩
theorem e1466 : EntryOk Try.prog fid 129 (.fn d1466) := ⟨Try.f129, Try.f129.body.getD .skip, by kernel_rfl, by kernel_rfl, by kernel_rfl, ⟨by kernel_rfl, by kernel_rfl, fun _ => by kernel_rfl⟩, by kernel_rfl, by kernel_rfl⟩
theorem e1460 : EntryOk Try.prog fid 130 (.fn d1389) := ⟨Try.f130, Try.f130.body.getD .skip, by kernel_rfl, by kernel_rfl, by kernel_rfl, ⟨by kernel_rfl, by kernel_rfl, fun _ => by kernel_rfl⟩, by kernel_rfl, by kernel_rfl⟩
theorem e1074 : EntryOk Try.prog fid 131 (.fn d1074) := ⟨Try.f131, Try.f131.body.getD .skip, by kernel_rfl, by kernel_rfl, by kernel_rfl, ⟨by kernel_rfl, by kernel_rfl, fun _ => by kernel_rfl⟩, by kernel_rfl, by kernel_rfl⟩
theorem e1075 : EntryOk Try.prog fid 132 (.fn d1075) := ⟨Try.f132, Try.f132.body.getD .skip, by kernel_rfl, by kernel_rfl, by kernel_rfl, ⟨by kernel_rfl, by kernel_rfl, fun _ => by kernel_rfl⟩, by kernel_rfl, by kernel_rfl⟩
theorem e1461 : EntryOk Try.prog fid 133 (.fn d1390) := ⟨Try.f133, Try.f133.body.getD .skip, by kernel_rfl, by kernel_rfl, by kernel_rfl, ⟨by kernel_rfl, by kernel_rfl, fun _ => by kernel_rfl⟩, by kernel_rfl, by kernel_rfl⟩
theorem e1462 : EntryOk Try.prog fid 134 (.fn d1391) := ⟨Try.f134, Try.f134.body.getD .skip, by kernel_rfl, by kernel_rfl, by kernel_rfl, ⟨by kernel_rfl, by kernel_rfl, fun _ => by kernel_rfl⟩, by kernel_rfl, by kernel_rfl⟩
theorem e1463 : EntryOk Try.prog fid 135 (.fn d1072) := ⟨Try.f135, Try.f135.body.getD .skip, by kernel_rfl, by kernel_rfl, by kernel_rfl, ⟨by kernel_rfl, by kernel_rfl, fun _ => by kernel_rfl⟩, by kernel_rfl, by kernel_rfl⟩
theorem e1389 : EntryOk Try.prog fid 136 (.fn d1389) := ⟨Try.f136, Try.f136.body.getD .skip, by kernel_rfl, by kernel_rfl, by kernel_rfl, ⟨by kernel_rfl, by kernel_rfl, fun _ => by kernel_rfl⟩, by kernel_rfl, by kernel_rfl⟩
theorem e1390 : EntryOk Try.prog fid 137 (.fn d1390) := ⟨Try.f137, Try.f137.body.getD .skip, by kernel_rfl, by kernel_rfl, by kernel_rfl, ⟨by kernel_rfl, by kernel_rfl, fun _ => by kernel_rfl⟩, by kernel_rfl, by kernel_rfl⟩
theorem e1391 : EntryOk Try.prog fid 138 (.fn d1391) := ⟨Try.f138, Try.f138.body.getD .skip, by kernel_rfl, by kernel_rfl, by kernel_rfl, ⟨by kernel_rfl, by kernel_rfl, fun _ => by kernel_rfl⟩, by kernel_rfl, by kernel_rfl⟩
theorem e1072 : EntryOk Try.prog fid 139 (.fn d1072) := ⟨Try.f139, Try.f139.body.getD .skip, by kernel_rfl, by kernel_rfl, by kernel_rfl, ⟨by kernel_rfl, by kernel_rfl, fun _ => by kernel_rfl⟩, by kernel_rfl, by kernel_rfl⟩
theorem e1469 : EntryOk Try.prog fid 140 (.fn d1392) := ⟨Try.f140, Try.f140.body.getD .skip, by kernel_rfl, by kernel_rfl, by kernel_rfl, ⟨by kernel_rfl, by kernel_rfl, fun _ => by kernel_rfl⟩, by kernel_rfl, by kernel_rfl⟩
theorem e1392 : EntryOk Try.prog fid 141 (.fn d1392) := ⟨Try.f141, Try.f141.body.getD .skip, by kernel_rfl, by kernel_rfl, by kernel_rfl, ⟨by kernel_rfl, by kernel_rfl, fun _ => by kernel_rfl⟩, by kernel_rfl, by kernel_rfl⟩
theorem fid_mem : ∀ {l : List (Nat × Nat)} {f k : Nat}, l.lookup f = some k → (f, k) ∈ l
  | [], _, _, h => by cases h
  | (a, b) :: l, f, k, h => by
    rw [List.lookup_cons] at h
    split at h
    · rename_i hf
      injection h with h
      subst h
      rw [show f = a by simpa using hf]
      exact List.mem_cons_self
    · exact List.mem_cons_of_mem _ (fid_mem h)
def AllOk : List (Nat × Nat) → Prop
  | [] => True
  | p :: l => (∀ e, tab p.2 = some e → EntryOk Try.prog fid p.1 e) ∧ AllOk l
theorem all_mem : ∀ {l : List (Nat × Nat)}, AllOk l → ∀ p ∈ l, ∀ e, tab p.2 = some e → EntryOk Try.prog fid p.1 e
  | _ :: _, h, p, hp => by
    rcases List.mem_cons.1 hp with rfl | hp
    · exact h.1
    · exact all_mem h.2 p hp
theorem one_ok {f k : Nat} {d : Entry} (h : tab k = some d) (e : EntryOk Try.prog fid f d) : ∀ x, tab k = some x → EntryOk Try.prog fid f x := by
  intro x hx
  rw [h] at hx
  injection hx with hx
  exact hx ▸ e
theorem none_ok {f k : Nat} (h : tab k = none) : ∀ x, tab k = some x → EntryOk Try.prog fid f x := by
  intro x hx
  rw [h] at hx
  cases hx
theorem all_ok : AllOk fidL := ⟨one_ok t1393 e1393, one_ok t1394 e1394, one_ok t1395 e1395, one_ok t1396 e1396, one_ok t1410 e1410, one_ok t1438 e1438, one_ok t1423 e1423, one_ok t1427 e1427, one_ok t1415 e1415, one_ok t1397 e1397, one_ok t1276 e1276, one_ok t1398 e1398, one_ok t1399 e1399, one_ok t1400 e1400, one_ok t1401 e1401, one_ok t1402 e1402, one_ok t1403 e1403, one_ok t1404 e1404, one_ok t1016 e1016, one_ok t1405 e1405, one_ok t1406 e1406, none_ok nd1407, one_ok t1408 e1408, one_ok t1105 e1105, one_ok t1409 e1409, one_ok t1421 e1421, one_ok t1457 e1457, one_ok t1437 e1437, one_ok t1420 e1420, one_ok t1456 e1456, one_ok t1434 e1434, one_ok t1459 e1459, one_ok t1455 e1455, one_ok t1428 e1428, one_ok t1411 e1411, none_ok nd1416, one_ok t1417 e1413, one_ok t1414 e1414, none_ok nd1416, one_ok t1417 e1417, one_ok t1418 e1418, one_ok t1021 e1021, one_ok t1419 e1419, one_ok t1431 e1431, one_ok t1432 e1432, one_ok t1465 e1465, one_ok t1464 e1464, one_ok t1444 e1444, one_ok t1445 e1445, one_ok t1467 e1467, one_ok t1468 e1468, one_ok t1439 e1439, one_ok t1422 e1422, none_ok nd1429, one_ok t1358 e1425, none_ok nd1430, none_ok nd1429, one_ok t1358 e1358, none_ok nd1430, one_ok t1441 e1441, one_ok t1442 e1442, none_ok nd1440, one_ok t1372 e1436, one_ok t1059 e1059, none_ok nd1440, one_ok t1372 e1372, one_ok t1458 e1458, one_ok t1379 e1446, one_ok t1380 e1447, one_ok t1381 e1448, one_ok t1382 e1449, one_ok t1383 e1450, one_ok t1384 e1451, one_ok t1219 e1452, one_ok t1385 e1453, one_ok t1386 e1454, one_ok t1070 e1070, one_ok t1071 e1071, one_ok t1379 e1379, one_ok t1380 e1380, one_ok t1381 e1381, one_ok t1382 e1382, one_ok t1383 e1383, one_ok t1384 e1384, one_ok t1219 e1219, one_ok t1385 e1385, one_ok t1386 e1386, one_ok t1466 e1466, one_ok t1389 e1460, one_ok t1074 e1074, one_ok t1075 e1075, one_ok t1390 e1461, one_ok t1391 e1462, one_ok t1072 e1463, one_ok t1389 e1389, one_ok t1390 e1390, one_ok t1391 e1391, one_ok t1072 e1072, one_ok t1392 e1469, one_ok t1392 e1392, none_ok n1642, none_ok n1433, none_ok n1649, none_ok n1443, none_ok n1470, trivial⟩
theorem goodP : Good Try.prog fid tab := fun f k e hf he => all_mem all_ok (f, k) (fid_mem hf) e he
end Go.Proofs.Ytcfhocnbpplecaa
