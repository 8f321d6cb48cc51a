/- The table is the code. -/
import Derived.Test.YtgjahkebhlphgaaT78
import Derived.Test.YtgjahkebhlphgaaProg
import Derived.KernelRfl
import Derived.Test.YtgjahkebhlphgaaKcq
namespace Go.Proofs.Ytgjahkebhlphgaa
set_option linter.unusedSimpArgs false
set_option linter.unusedVariables false
set_option maxRecDepth 1000000
theorem e1321 : EntryOk Try.prog fid 8 (.fn d1321) := ⟨Try.f8, Try.f8.body.getD .skip, by kernel_rfl, by kernel_rfl, by kernel_rfl, ⟨by kernel_rfl, by kernel_rfl, fun _ => by kernel_rfl⟩, by kernel_rfl, by kernel_rfl⟩
theorem e1322 : EntryOk Try.prog fid 9 (.fn d1322) := ⟨Try.f9, Try.f9.body.getD .skip, by kernel_rfl, by kernel_rfl, by kernel_rfl, ⟨by kernel_rfl, by kernel_rfl, fun _ => by kernel_rfl⟩, by kernel_rfl, by kernel_rfl⟩
theorem e1323 : EntryOk Try.prog fid 10 (.fn d1323) := ⟨Try.f10, Try.f10.body.getD .skip, by kernel_rfl, by kernel_rfl, by kernel_rfl, ⟨by kernel_rfl, by kernel_rfl, fun _ => by kernel_rfl⟩, by kernel_rfl, by kernel_rfl⟩
theorem e1324 : EntryOk Try.prog fid 11 (.fn d1324) := ⟨Try.f11, Try.f11.body.getD .skip, by kernel_rfl, by kernel_rfl, by kernel_rfl, ⟨by kernel_rfl, by kernel_rfl, fun _ => by kernel_rfl⟩, by kernel_rfl, by kernel_rfl⟩
theorem e1325 : EntryOk Try.prog fid 12 (.fn d1325) := ⟨Try.f12, Try.f12.body.getD .skip, by kernel_rfl, by kernel_rfl, by kernel_rfl, ⟨by kernel_rfl, by kernel_rfl, fun _ => by kernel_rfl⟩, by kernel_rfl, by kernel_rfl⟩
theorem e1175 : EntryOk Try.prog fid 13 (.fn d1175) := ⟨Try.f13, Try.f13.body.getD .skip, by kernel_rfl, by kernel_rfl, by kernel_rfl, ⟨by kernel_rfl, by kernel_rfl, fun _ => by kernel_rfl⟩, by kernel_rfl, by kernel_rfl⟩
theorem e1176 : EntryOk Try.prog fid 14 (.fn d1176) := ⟨Try.f14, Try.f14.body.getD .skip, by kernel_rfl, by kernel_rfl, by kernel_rfl, ⟨by kernel_rfl, by kernel_rfl, fun _ => by kernel_rfl⟩, by kernel_rfl, by kernel_rfl⟩
theorem e1335 : EntryOk Try.prog fid 15 (.fn d1335) := ⟨Try.f15, Try.f15.body.getD .skip, by kernel_rfl, by kernel_rfl, by kernel_rfl, ⟨by kernel_rfl, by kernel_rfl, fun _ => by kernel_rfl⟩, by kernel_rfl, by kernel_rfl⟩
theorem e1336 : EntryOk Try.prog fid 16 (.fn d1336) := ⟨Try.f16, Try.f16.body.getD .skip, by kernel_rfl, by kernel_rfl, by kernel_rfl, ⟨by kernel_rfl, by kernel_rfl, fun _ => by kernel_rfl⟩, by kernel_rfl, by kernel_rfl⟩
theorem e1016 : EntryOk Try.prog fid 23 (.fn d1016) := ⟨Try.f23, Try.f23.body.getD .skip, by kernel_rfl, by kernel_rfl, by kernel_rfl, ⟨by kernel_rfl, by kernel_rfl, fun _ => by kernel_rfl⟩, by kernel_rfl, by kernel_rfl⟩
theorem e1187 : EntryOk Try.prog fid 25 (.fn d1187) := ⟨Try.f25, Try.f25.body.getD .skip, by kernel_rfl, by kernel_rfl, by kernel_rfl, ⟨by kernel_rfl, by kernel_rfl, fun _ => by kernel_rfl⟩, by kernel_rfl, by kernel_rfl⟩
theorem e1188 : EntryOk Try.prog fid 27 (.fn d1188) := ⟨Try.f27, Try.f27.body.getD .skip, by kernel_rfl, by kernel_rfl, by kernel_rfl, ⟨by kernel_rfl, by kernel_rfl, fun _ => by kernel_rfl⟩, by kernel_rfl, by kernel_rfl⟩
theorem e1021 : EntryOk Try.prog fid 28 (.fn d1021) := ⟨Try.f28, Try.f28.body.getD .skip, by kernel_rfl, by kernel_rfl, by kernel_rfl, ⟨by kernel_rfl, by kernel_rfl, fun _ => by kernel_rfl⟩, by kernel_rfl, by kernel_rfl⟩
theorem e1344 : EntryOk Try.prog fid 29 (.fn d1344) := ⟨Try.f29, Try.f29.body.getD .skip, by kernel_rfl, by kernel_rfl, by kernel_rfl, ⟨by kernel_rfl, by kernel_rfl, fun _ => by kernel_rfl⟩, by kernel_rfl, by kernel_rfl⟩
theorem e1345 : EntryOk Try.prog fid 30 (.fn d1345) := ⟨Try.f30, Try.f30.body.getD .skip, by kernel_rfl, by kernel_rfl, by kernel_rfl, ⟨by kernel_rfl, by kernel_rfl, fun _ => by kernel_rfl⟩, by kernel_rfl, by kernel_rfl⟩
theorem e1346 : EntryOk Try.prog fid 31 (.fn d1346) := ⟨Try.f31, Try.f31.body.getD .skip, by kernel_rfl, by kernel_rfl, by kernel_rfl, ⟨by kernel_rfl, by kernel_rfl, fun _ => by kernel_rfl⟩, by kernel_rfl, by kernel_rfl⟩
theorem e1347 : EntryOk Try.prog fid 32 (.fn d1347) := ⟨Try.f32, Try.f32.body.getD .skip, by kernel_rfl, by kernel_rfl, by kernel_rfl, ⟨by kernel_rfl, by kernel_rfl, fun _ => by kernel_rfl⟩, by kernel_rfl, by kernel_rfl⟩
theorem e1348 : EntryOk Try.prog fid 33 (.fn d1348) := ⟨Try.f33, Try.f33.body.getD .skip, by kernel_rfl, by kernel_rfl, by kernel_rfl, ⟨by kernel_rfl, by kernel_rfl, fun _ => by kernel_rfl⟩, by kernel_rfl, by kernel_rfl⟩
theorem e1349 : EntryOk Try.prog fid 34 (.fn d1349) := ⟨Try.f34, Try.f34.body.getD .skip, by kernel_rfl, by kernel_rfl, by kernel_rfl, ⟨by kernel_rfl, by kernel_rfl, fun _ => by kernel_rfl⟩, by kernel_rfl, by kernel_rfl⟩
theorem e1350 : EntryOk Try.prog fid 35 (.fn d1350) := ⟨Try.f35, Try.f35.body.getD .skip, by kernel_rfl, by kernel_rfl, by kernel_rfl, ⟨by kernel_rfl, by kernel_rfl, fun _ => by kernel_rfl⟩, by kernel_rfl, by kernel_rfl⟩
theorem e1351 : EntryOk Try.prog fid 36 (.fn d1351) := ⟨Try.f36, Try.f36.body.getD .skip, by kernel_rfl, by kernel_rfl, by kernel_rfl, ⟨by kernel_rfl, by kernel_rfl, fun _ => by kernel_rfl⟩, by kernel_rfl, by kernel_rfl⟩
theorem e1352 : EntryOk Try.prog fid 37 (.fn d1352) := ⟨Try.f37, Try.f37.body.getD .skip, by kernel_rfl, by kernel_rfl, by kernel_rfl, ⟨by kernel_rfl, by kernel_rfl, fun _ => by kernel_rfl⟩, by kernel_rfl, by kernel_rfl⟩
theorem e1189 : EntryOk Try.prog fid 38 (.fn d1189) := ⟨Try.f38, Try.f38.body.getD .skip, by kernel_rfl, by kernel_rfl, by kernel_rfl, ⟨by kernel_rfl, by kernel_rfl, fun _ => by kernel_rfl⟩, by kernel_rfl, by kernel_rfl⟩
theorem e1022 : EntryOk Try.prog fid 39 (.fn d1022) := ⟨Try.f39, Try.f39.body.getD .skip, by kernel_rfl, by kernel_rfl, by kernel_rfl, ⟨by kernel_rfl, by kernel_rfl, fun _ => by kernel_rfl⟩, by kernel_rfl, by kernel_rfl⟩
theorem e1353 : EntryOk Try.prog fid 40 (.fn d1353) := ⟨Try.f40, Try.f40.body.getD .skip, by kernel_rfl, by kernel_rfl, by kernel_rfl, ⟨by kernel_rfl, by kernel_rfl, fun _ => by kernel_rfl⟩, by kernel_rfl, by kernel_rfl⟩
theorem e1354 : EntryOk Try.prog fid 41 (.fn d1354) := ⟨Try.f41, Try.f41.body.getD .skip, by kernel_rfl, by kernel_rfl, by kernel_rfl, ⟨by kernel_rfl, by kernel_rfl, fun _ => by kernel_rfl⟩, by kernel_rfl, by kernel_rfl⟩
theorem e1355 : EntryOk Try.prog fid 42 (.fn d1355) := ⟨Try.f42, Try.f42.body.getD .skip, by kernel_rfl, by kernel_rfl, by kernel_rfl, ⟨by kernel_rfl, by kernel_rfl, fun _ => by kernel_rfl⟩, by kernel_rfl, by kernel_rfl⟩
theorem e1356 : EntryOk Try.prog fid 43 (.fn d1356) := ⟨Try.f43, Try.f43.body.getD .skip, by kernel_rfl, by kernel_rfl, by kernel_rfl, ⟨by kernel_rfl, by kernel_rfl, fun _ => by kernel_rfl⟩, by kernel_rfl, by kernel_rfl⟩
theorem e1192 : EntryOk Try.prog fid 44 (.fn d1192) := ⟨Try.f44, Try.f44.body.getD .skip, by kernel_rfl, by kernel_rfl, by kernel_rfl, ⟨by kernel_rfl, by kernel_rfl, fun _ => by kernel_rfl⟩, by kernel_rfl, by kernel_rfl⟩
theorem e1357 : EntryOk Try.prog fid 45 (.fn d1357) := ⟨Try.f45, Try.f45.body.getD .skip, by kernel_rfl, by kernel_rfl, by kernel_rfl, ⟨by kernel_rfl, by kernel_rfl, fun _ => by kernel_rfl⟩, by kernel_rfl, by kernel_rfl⟩
theorem e1198 : EntryOk Try.prog fid 48 (.fn d1198) := ⟨Try.f48, Try.f48.body.getD .skip, by kernel_rfl, by kernel_rfl, by kernel_rfl, ⟨by kernel_rfl, by kernel_rfl, fun _ => by kernel_rfl⟩, by kernel_rfl, by kernel_rfl⟩
theorem e1202 : EntryOk Try.prog fid 49 (.fn d1202) := ⟨Try.f49, Try.f49.body.getD .skip, by kernel_rfl, by kernel_rfl, by kernel_rfl, ⟨by kernel_rfl, by kernel_rfl, fun _ => by kernel_rfl⟩, by kernel_rfl, by kernel_rfl⟩
theorem e1199 : EntryOk Try.prog fid 50 (.fn d1199) := ⟨Try.f50, Try.f50.body.getD .skip, by kernel_rfl, by kernel_rfl, by kernel_rfl, ⟨by kernel_rfl, by kernel_rfl, fun _ => by kernel_rfl⟩, by kernel_rfl, by kernel_rfl⟩
theorem e1200 : EntryOk Try.prog fid 51 (.fn d1200) := ⟨Try.f51, Try.f51.body.getD .skip, by kernel_rfl, by kernel_rfl, by kernel_rfl, ⟨by kernel_rfl, by kernel_rfl, fun _ => by kernel_rfl⟩, by kernel_rfl, by kernel_rfl⟩
theorem e1359 : EntryOk Try.prog fid 52 (.fn d1359) := ⟨Try.f52, Try.f52.body.getD .skip, by kernel_rfl, by kernel_rfl, by kernel_rfl, ⟨by kernel_rfl, by kernel_rfl, fun _ => by kernel_rfl⟩, by kernel_rfl, by kernel_rfl⟩
theorem e1360 : EntryOk Try.prog fid 53 (.fn d1360) := ⟨Try.f53, Try.f53.body.getD .skip, by kernel_rfl, by kernel_rfl, by kernel_rfl, ⟨by kernel_rfl, by kernel_rfl, fun _ => by kernel_rfl⟩, by kernel_rfl, by kernel_rfl⟩
theorem e1361 : EntryOk Try.prog fid 54 (.fn d1361) := ⟨Try.f54, Try.f54.body.getD .skip, by kernel_rfl, by kernel_rfl, by kernel_rfl, ⟨by kernel_rfl, by kernel_rfl, fun _ => by kernel_rfl⟩, by kernel_rfl, by kernel_rfl⟩
theorem e1362 : EntryOk Try.prog fid 55 (.fn d1362) := ⟨Try.f55, Try.f55.body.getD .skip, by kernel_rfl, by kernel_rfl, by kernel_rfl, ⟨by kernel_rfl, by kernel_rfl, fun _ => by kernel_rfl⟩, by kernel_rfl, by kernel_rfl⟩
theorem e1363 : EntryOk Try.prog fid 56 (.fn d1363) := ⟨Try.f56, Try.f56.body.getD .skip, by kernel_rfl, by kernel_rfl, by kernel_rfl, ⟨by kernel_rfl, by kernel_rfl, fun _ => by kernel_rfl⟩, by kernel_rfl, by kernel_rfl⟩
theorem e1364 : EntryOk Try.prog fid 57 (.fn d1364) := ⟨Try.f57, Try.f57.body.getD .skip, by kernel_rfl, by kernel_rfl, by kernel_rfl, ⟨by kernel_rfl, by kernel_rfl, fun _ => by kernel_rfl⟩, by kernel_rfl, by kernel_rfl⟩
theorem e1365 : EntryOk Try.prog fid 58 (.fn d1365) := ⟨Try.f58, Try.f58.body.getD .skip, by kernel_rfl, by kernel_rfl, by kernel_rfl, ⟨by kernel_rfl, by kernel_rfl, fun _ => by kernel_rfl⟩, by kernel_rfl, by kernel_rfl⟩
theorem e1366 : EntryOk Try.prog fid 59 (.fn d1366) := ⟨Try.f59, Try.f59.body.getD .skip, by kernel_rfl, by kernel_rfl, by kernel_rfl, ⟨by kernel_rfl, by kernel_rfl, fun _ => by kernel_rfl⟩, by kernel_rfl, by kernel_rfl⟩
theorem e1328 : EntryOk Try.prog fid 60 (.fn d1328) := ⟨Try.f60, Try.f60.body.getD .skip, by kernel_rfl, by kernel_rfl, by kernel_rfl, ⟨by kernel_rfl, by kernel_rfl, fun _ => by kernel_rfl⟩, by kernel_rfl, by kernel_rfl⟩
theorem e1332 : EntryOk Try.prog fid 61 (.fn d1332) := ⟨Try.f61, Try.f61.body.getD .skip, by kernel_rfl, by kernel_rfl, by kernel_rfl, ⟨by kernel_rfl, by kernel_rfl, fun _ => by kernel_rfl⟩, by kernel_rfl, by kernel_rfl⟩
theorem e1194 : EntryOk Try.prog fid 62 (.fn d1194) := ⟨Try.f62, Try.f62.body.getD .skip, by kernel_rfl, by kernel_rfl, by kernel_rfl, ⟨by kernel_rfl, by kernel_rfl, fun _ => by kernel_rfl⟩, by kernel_rfl, by kernel_rfl⟩
theorem e1333 : EntryOk Try.prog fid 63 (.fn d1333) := ⟨Try.f63, Try.f63.body.getD .skip, by kernel_rfl, by kernel_rfl, by kernel_rfl, ⟨by kernel_rfl, by kernel_rfl, fun _ => by kernel_rfl⟩, by kernel_rfl, by kernel_rfl⟩
theorem e1201 : EntryOk Try.prog fid 64 (.fn d1201) := ⟨Try.f64, Try.f64.body.getD .skip, by kernel_rfl, by kernel_rfl, by kernel_rfl, ⟨by kernel_rfl, by kernel_rfl, fun _ => by kernel_rfl⟩, by kernel_rfl, by kernel_rfl⟩
theorem e1367 : EntryOk Try.prog fid 65 (.fn d1367) := ⟨Try.f65, Try.f65.body.getD .skip, by kernel_rfl, by kernel_rfl, by kernel_rfl, ⟨by kernel_rfl, by kernel_rfl, fun _ => by kernel_rfl⟩, by kernel_rfl, by kernel_rfl⟩
theorem e1368 : EntryOk Try.prog fid 66 (.fn d1368) := ⟨Try.f66, Try.f66.body.getD .skip, by kernel_rfl, by kernel_rfl, by kernel_rfl, ⟨by kernel_rfl, by kernel_rfl, fun _ => by kernel_rfl⟩, by kernel_rfl, by kernel_rfl⟩
theorem e1330 : EntryOk Try.prog fid 67 (.fn d1330) := ⟨Try.f67, Try.f67.body.getD .skip, by kernel_rfl, by kernel_rfl, by kernel_rfl, ⟨by kernel_rfl, by kernel_rfl, fun _ => by kernel_rfl⟩, by kernel_rfl, by kernel_rfl⟩
theorem e1369 : EntryOk Try.prog fid 68 (.fn d1369) := ⟨Try.f68, Try.f68.body.getD .skip, by kernel_rfl, by kernel_rfl, by kernel_rfl, ⟨by kernel_rfl, by kernel_rfl, fun _ => by kernel_rfl⟩, by kernel_rfl, by kernel_rfl⟩
theorem e1370 : EntryOk Try.prog fid 69 (.fn d1370) := ⟨Try.f69, Try.f69.body.getD .skip, by kernel_rfl, by kernel_rfl, by kernel_rfl, ⟨by kernel_rfl, by kernel_rfl, fun _ => by kernel_rfl⟩, by kernel_rfl, by kernel_rfl⟩
theorem e1371 : EntryOk Try.prog fid 70 (.fn d1371) := ⟨Try.f70, Try.f70.body.getD .skip, by kernel_rfl, by kernel_rfl, by kernel_rfl, ⟨by kernel_rfl, by kernel_rfl, fun _ => by kernel_rfl⟩, by kernel_rfl, by kernel_rfl⟩
theorem e1208 : EntryOk Try.prog fid 73 (.fn d1208) := ⟨Try.f73, Try.f73.body.getD .skip, by kernel_rfl, by kernel_rfl, by kernel_rfl, ⟨by kernel_rfl, by kernel_rfl, fun _ => by kernel_rfl⟩, by kernel_rfl, by kernel_rfl⟩
theorem e1209 : EntryOk Try.prog fid 74 (.fn d1209) := ⟨Try.f74, Try.f74.body.getD .skip, by kernel_rfl, by kernel_rfl, by kernel_rfl, ⟨by kernel_rfl, by kernel_rfl, fun _ => by kernel_rfl⟩, by kernel_rfl, by kernel_rfl⟩
theorem e1212 : EntryOk Try.prog fid 75 (.fn d1212) := ⟨Try.f75, Try.f75.body.getD .skip, by kernel_rfl, by kernel_rfl, by kernel_rfl, ⟨by kernel_rfl, by kernel_rfl, fun _ => by kernel_rfl⟩, by kernel_rfl, by kernel_rfl⟩
theorem e1210 : EntryOk Try.prog fid 76 (.fn d1210) := ⟨Try.f76, Try.f76.body.getD .skip, by kernel_rfl, by kernel_rfl, by kernel_rfl, ⟨by kernel_rfl, by kernel_rfl, fun _ => by kernel_rfl⟩, by kernel_rfl, by kernel_rfl⟩
theorem e1211 : EntryOk Try.prog fid 77 (.fn d1211) := ⟨Try.f77, Try.f77.body.getD .skip, by kernel_rfl, by kernel_rfl, by kernel_rfl, ⟨by kernel_rfl, by kernel_rfl, fun _ => by kernel_rfl⟩, by kernel_rfl, by kernel_rfl⟩
theorem e1024 : EntryOk Try.prog fid 78 (.orc (cloneG 1 8)) := clone_ok (f := 78) (fn := Try.f78) (c := Try.f78.body.getD .skip) (z := [.int .i64 0]) (by kernel_rfl) (by kernel_rfl) (by kernel_rfl) ⟨by kernel_rfl, by kernel_rfl, fun _ => by kernel_rfl⟩ (by kernel_rfl)
theorem e1373 : EntryOk Try.prog fid 79 (.fn d1373) := ⟨Try.f79, Try.f79.body.getD .skip, by kernel_rfl, by kernel_rfl, by kernel_rfl, ⟨by kernel_rfl, by kernel_rfl, fun _ => by kernel_rfl⟩, by kernel_rfl, by kernel_rfl⟩
theorem e1374 : EntryOk Try.prog fid 80 (.fn d1374) := ⟨Try.f80, Try.f80.body.getD .skip, by kernel_rfl, by kernel_rfl, by kernel_rfl, ⟨by kernel_rfl, by kernel_rfl, fun _ => by kernel_rfl⟩, by kernel_rfl, by kernel_rfl⟩
theorem e1375 : EntryOk Try.prog fid 81 (.fn d1375) := ⟨Try.f81, Try.f81.body.getD .skip, by kernel_rfl, by kernel_rfl, by kernel_rfl, ⟨by kernel_rfl, by kernel_rfl, fun _ => by kernel_rfl⟩, by kernel_rfl, by kernel_rfl⟩
theorem e1376 : EntryOk Try.prog fid 82 (.fn d1376) := ⟨Try.f82, Try.f82.body.getD .skip, by kernel_rfl, by kernel_rfl, by kernel_rfl, ⟨by kernel_rfl, by kernel_rfl, fun _ => by kernel_rfl⟩, by kernel_rfl, by kernel_rfl⟩
theorem e1206 : EntryOk Try.prog fid 83 (.fn d1206) := ⟨Try.f83, Try.f83.body.getD .skip, by kernel_rfl, by kernel_rfl, by kernel_rfl, ⟨by kernel_rfl, by kernel_rfl, fun _ => by kernel_rfl⟩, by kernel_rfl, by kernel_rfl⟩
theorem e1023 : EntryOk Try.prog fid 84 (.fn d1023) := ⟨Try.f84, Try.f84.body.getD .skip, by kernel_rfl, by kernel_rfl, by kernel_rfl, ⟨by kernel_rfl, by kernel_rfl, fun _ => by kernel_rfl⟩, by kernel_rfl, by kernel_rfl⟩
theorem e1205 : EntryOk Try.prog fid 85 (.fn d1205) := ⟨Try.f85, Try.f85.body.getD .skip, by kernel_rfl, by kernel_rfl, by kernel_rfl, ⟨by kernel_rfl, by kernel_rfl, fun _ => by kernel_rfl⟩, by kernel_rfl, by kernel_rfl⟩
theorem e1207 : EntryOk Try.prog fid 86 (.fn d1207) := ⟨Try.f86, Try.f86.body.getD .skip, by kernel_rfl, by kernel_rfl, by kernel_rfl, ⟨by kernel_rfl, by kernel_rfl, fun _ => by kernel_rfl⟩, by kernel_rfl, by kernel_rfl⟩
theorem e1377 : EntryOk Try.prog fid 87 (.fn d1377) := ⟨Try.f87, Try.f87.body.getD .skip, by kernel_rfl, by kernel_rfl, by kernel_rfl, ⟨by kernel_rfl, by kernel_rfl, fun _ => by kernel_rfl⟩, by kernel_rfl, by kernel_rfl⟩
theorem e1378 : EntryOk Try.prog fid 88 (.fn d1378) := ⟨Try.f88, Try.f88.body.getD .skip, by kernel_rfl, by kernel_rfl, by kernel_rfl, ⟨by kernel_rfl, by kernel_rfl, fun _ => by kernel_rfl⟩, by kernel_rfl, by kernel_rfl⟩
theorem e1219 : EntryOk Try.prog fid 95 (.fn d1219) := ⟨Try.f95, Try.f95.body.getD .skip, by kernel_rfl, by kernel_rfl, by kernel_rfl, ⟨by kernel_rfl, by kernel_rfl, fun _ => by kernel_rfl⟩, by kernel_rfl, by kernel_rfl⟩
theorem e1214 : EntryOk Try.prog fid 100 (.fn d1214) := ⟨Try.f100, Try.f100.body.getD .skip, by kernel_rfl, by kernel_rfl, by kernel_rfl, ⟨by kernel_rfl, by kernel_rfl, fun _ => by kernel_rfl⟩, by kernel_rfl, by kernel_rfl⟩
theorem e1215 : EntryOk Try.prog fid 101 (.fn d1215) := ⟨Try.f101, Try.f101.body.getD .skip, by kernel_rfl, by kernel_rfl, by kernel_rfl, ⟨by kernel_rfl, by kernel_rfl, fun _ => by kernel_rfl⟩, by kernel_rfl, by kernel_rfl⟩
theorem e1216 : EntryOk Try.prog fid 102 (.fn d1216) := ⟨Try.f102, Try.f102.body.getD .skip, by kernel_rfl, by kernel_rfl, by kernel_rfl, ⟨by kernel_rfl, by kernel_rfl, fun _ => by kernel_rfl⟩, by kernel_rfl, by kernel_rfl⟩
theorem e1217 : EntryOk Try.prog fid 103 (.fn d1217) := ⟨Try.f103, Try.f103.body.getD .skip, by kernel_rfl, by kernel_rfl, by kernel_rfl, ⟨by kernel_rfl, by kernel_rfl, fun _ => by kernel_rfl⟩, by kernel_rfl, by kernel_rfl⟩
theorem e1218 : EntryOk Try.prog fid 104 (.fn d1218) := ⟨Try.f104, Try.f104.body.getD .skip, by kernel_rfl, by kernel_rfl, by kernel_rfl, ⟨by kernel_rfl, by kernel_rfl, fun _ => by kernel_rfl⟩, by kernel_rfl, by kernel_rfl⟩
theorem e1026 : EntryOk Try.prog fid 105 (.fn d1026) := ⟨Try.f105, Try.f105.body.getD .skip, by kernel_rfl, by kernel_rfl, by kernel_rfl, ⟨by kernel_rfl, by kernel_rfl, fun _ => by kernel_rfl⟩, by kernel_rfl, by kernel_rfl⟩
theorem e1387 : EntryOk Try.prog fid 106 (.fn d1387) := ⟨Try.f106, Try.f106.body.getD .skip, by kernel_rfl, by kernel_rfl, by kernel_rfl, ⟨by kernel_rfl, by kernel_rfl, fun _ => by kernel_rfl⟩, by kernel_rfl, by kernel_rfl⟩
theorem e1388 : EntryOk Try.prog fid 107 (.fn d1388) := ⟨Try.f107, Try.f107.body.getD .skip, by kernel_rfl, by kernel_rfl, by kernel_rfl, ⟨by kernel_rfl, by kernel_rfl, fun _ => by kernel_rfl⟩, by kernel_rfl, by kernel_rfl⟩
theorem e1072 : EntryOk Try.prog fid 113 (.fn d1072) := ⟨Try.f113, Try.f113.body.getD .skip, by kernel_rfl, by kernel_rfl, by kernel_rfl, ⟨by kernel_rfl, by kernel_rfl, fun _ => by kernel_rfl⟩, by kernel_rfl, by kernel_rfl⟩
theorem e1220 : EntryOk Try.prog fid 114 (.fn d1220) := ⟨Try.f114, Try.f114.body.getD .skip, by kernel_rfl, by kernel_rfl, by kernel_rfl, ⟨by kernel_rfl, by kernel_rfl, fun _ => by kernel_rfl⟩, by kernel_rfl, by kernel_rfl⟩
theorem e1221 : EntryOk Try.prog fid 115 (.fn d1221) := ⟨Try.f115, Try.f115.body.getD .skip, by kernel_rfl, by kernel_rfl, by kernel_rfl, ⟨by kernel_rfl, by kernel_rfl, fun _ => by kernel_rfl⟩, by kernel_rfl, by kernel_rfl⟩
theorem e1222 : EntryOk Try.prog fid 116 (.fn d1222) := ⟨Try.f116, Try.f116.body.getD .skip, by kernel_rfl, by kernel_rfl, by kernel_rfl, ⟨by kernel_rfl, by kernel_rfl, fun _ => by kernel_rfl⟩, by kernel_rfl, by kernel_rfl⟩
theorem e1223 : EntryOk Try.prog fid 117 (.fn d1223) := ⟨Try.f117, Try.f117.body.getD .skip, by kernel_rfl, by kernel_rfl, by kernel_rfl, ⟨by kernel_rfl, by kernel_rfl, fun _ => by kernel_rfl⟩, by kernel_rfl, by kernel_rfl⟩
theorem e1060 : EntryOk Try.prog fid 118 (.fn d1060) := ⟨Try.f118, Try.f118.body.getD .skip, by kernel_rfl, by kernel_rfl, by kernel_rfl, ⟨by kernel_rfl, by kernel_rfl, fun _ => by kernel_rfl⟩, by kernel_rfl, by kernel_rfl⟩
theorem e1061 : EntryOk Try.prog fid 119 (.fn d1061) := ⟨Try.f119, Try.f119.body.getD .skip, by kernel_rfl, by kernel_rfl, by kernel_rfl, ⟨by kernel_rfl, by kernel_rfl, fun _ => by kernel_rfl⟩, by kernel_rfl, by kernel_rfl⟩
theorem e1224 : EntryOk Try.prog fid 120 (.fn d1224) := ⟨Try.f120, Try.f120.body.getD .skip, by kernel_rfl, by kernel_rfl, by kernel_rfl, ⟨by kernel_rfl, by kernel_rfl, fun _ => by kernel_rfl⟩, by kernel_rfl, by kernel_rfl⟩
theorem e1225 : EntryOk Try.prog fid 122 (.orc cmpG) := cmp_ok fid
theorem fid_mem : ∀ {l : List (Nat × Nat)} {f k : Nat}, l.lookup f = some k → (f, k) ∈ l
  | [], _, _, h => by cases h
  | (a, b) :: l, f, k, h => by
    rw [List.lookup_cons] at h
    split at h
    · rename_i hf
      injection h with h
      subst h
      rw [show f = a by simpa using hf]
      exact List.mem_cons_self
    · exact List.mem_cons_of_mem _ (fid_mem h)
def AllOk : List (Nat × Nat) → Prop
  | [] => True
  | p :: l => (∀ e, tab p.2 = some e → EntryOk Try.prog fid p.1 e) ∧ AllOk l
theorem all_mem : ∀ {l : List (Nat × Nat)}, AllOk l → ∀ p ∈ l, ∀ e, tab p.2 = some e → EntryOk Try.prog fid p.1 e
  | _ :: _, h, p, hp => by
    rcases List.mem_cons.1 hp with rfl | hp
    · exact h.1
    · exact all_mem h.2 p hp
theorem one_ok {f k : Nat} {d : Entry} (h : tab k = some d) (e : EntryOk Try.prog fid f d) : ∀ x, tab k = some x → EntryOk Try.prog fid f x := by
  intro x hx
  rw [h] at hx
  injection hx with hx
  exact hx ▸ e
theorem none_ok {f k : Nat} (h : tab k = none) : ∀ x, tab k = some x → EntryOk Try.prog fid f x := by
  intro x hx
  rw [h] at hx
  cases hx
theorem all_ok : AllOk fidL := ⟨one_ok t1321 e1321, one_ok t1322 e1322, one_ok t1323 e1323, one_ok t1324 e1324, one_ok t1325 e1325, one_ok t1175 e1175, one_ok t1176 e1176, one_ok t1335 e1335, one_ok t1336 e1336, one_ok t1016 e1016, one_ok t1187 e1187, one_ok t1188 e1188, one_ok t1021 e1021, one_ok t1344 e1344, one_ok t1345 e1345, one_ok t1346 e1346, one_ok t1347 e1347, one_ok t1348 e1348, one_ok t1349 e1349, one_ok t1350 e1350, one_ok t1351 e1351, one_ok t1352 e1352, one_ok t1189 e1189, one_ok t1022 e1022, one_ok t1353 e1353, one_ok t1354 e1354, one_ok t1355 e1355, one_ok t1356 e1356, one_ok t1192 e1192, one_ok t1357 e1357, one_ok t1198 e1198, one_ok t1202 e1202, one_ok t1199 e1199, one_ok t1200 e1200, one_ok t1359 e1359, one_ok t1360 e1360, one_ok t1361 e1361, one_ok t1362 e1362, one_ok t1363 e1363, one_ok t1364 e1364, one_ok t1365 e1365, one_ok t1366 e1366, one_ok t1328 e1328, one_ok t1332 e1332, one_ok t1194 e1194, one_ok t1333 e1333, one_ok t1201 e1201, one_ok t1367 e1367, one_ok t1368 e1368, one_ok t1330 e1330, one_ok t1369 e1369, one_ok t1370 e1370, one_ok t1371 e1371, one_ok t1208 e1208, one_ok t1209 e1209, one_ok t1212 e1212, one_ok t1210 e1210, one_ok t1211 e1211, one_ok t1024 e1024, one_ok t1373 e1373, one_ok t1374 e1374, one_ok t1375 e1375, one_ok t1376 e1376, one_ok t1206 e1206, one_ok t1023 e1023, one_ok t1205 e1205, one_ok t1207 e1207, one_ok t1377 e1377, one_ok t1378 e1378, one_ok t1219 e1219, one_ok t1214 e1214, one_ok t1215 e1215, one_ok t1216 e1216, one_ok t1217 e1217, one_ok t1218 e1218, one_ok t1026 e1026, one_ok t1387 e1387, one_ok t1388 e1388, one_ok t1072 e1072, one_ok t1220 e1220, one_ok t1221 e1221, one_ok t1222 e1222, one_ok t1223 e1223, one_ok t1060 e1060, one_ok t1061 e1061, one_ok t1224 e1224, one_ok t1225 e1225, none_ok n1226, trivial⟩
theorem goodP : Good Try.prog fid tab := fun f k e hf he => all_mem all_ok (f, k) (fid_mem hf) e he
end Go.Proofs.Ytgjahkebhlphgaa
