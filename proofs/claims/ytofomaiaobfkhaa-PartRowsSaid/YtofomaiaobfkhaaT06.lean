/- The table of the functions. -/
import Derived.Test.YtofomaiaobfkhaaF06
import Derived.Test.YtofomaiaobfkhaaKz
namespace Go.Proofs.Ytofomaiaobfkhaa
def fidL : List (Nat × Nat) := [(3, 1232), (4, 1233), (5, 1234), (6, 1235), (7, 1236), (8, 1022), (9, 1237), (10, 1238), (11, 1239), (12, 1240), (13, 1241), (14, 1242), (15, 1121), (16, 1243), (17, 1016), (18, 1244), (19, 1245), (20, 1246), (21, 1247), (22, 1248), (23, 1249), (24, 1250), (25, 1251), (26, 1252), (27, 1203), (28, 1204), (29, 1213), (46, 1253), (47, 1254), (48, 1255), (49, 1256), (51, 1257)]
def fid : FuncId → Option Nat := fun f => fidL.lookup f
def tab : Nat → Option Entry := fun k => [(1232, Entry.fn d1232), (1233, Entry.fn d1233), (1234, Entry.fn d1234), (1235, Entry.fn d1235), (1236, Entry.fn d1236), (1022, Entry.fn d1022), (1237, Entry.fn d1237), (1238, Entry.fn d1238), (1239, Entry.fn d1239), (1240, Entry.fn d1240), (1241, Entry.fn d1241), (1242, Entry.fn d1242), (1121, Entry.fn d1121), (1243, Entry.fn d1243), (1016, Entry.fn d1016), (1244, Entry.fn d1244), (1245, Entry.fn d1245), (1246, Entry.fn d1246), (1247, Entry.fn d1247), (1248, Entry.fn d1248), (1249, Entry.fn d1249), (1250, Entry.fn d1250), (1251, Entry.fn d1251), (1252, Entry.fn d1252), (1203, Entry.fn d1203), (1204, Entry.fn d1204), (1213, Entry.fn d1213), (1253, Entry.fn d1253), (1254, Entry.fn d1254), (1255, Entry.fn d1255), (1256, Entry.fn d1256)].lookup k
theorem t1232 : tab 1232 = some (.fn d1232) := by rfl
theorem t1233 : tab 1233 = some (.fn d1233) := by rfl
theorem t1234 : tab 1234 = some (.fn d1234) := by rfl
theorem t1235 : tab 1235 = some (.fn d1235) := by rfl
theorem t1236 : tab 1236 = some (.fn d1236) := by rfl
theorem t1022 : tab 1022 = some (.fn d1022) := by rfl
theorem t1237 : tab 1237 = some (.fn d1237) := by rfl
theorem t1238 : tab 1238 = some (.fn d1238) := by rfl
theorem t1239 : tab 1239 = some (.fn d1239) := by rfl
theorem t1240 : tab 1240 = some (.fn d1240) := by rfl
theorem t1241 : tab 1241 = some (.fn d1241) := by rfl
theorem t1242 : tab 1242 = some (.fn d1242) := by rfl
theorem t1121 : tab 1121 = some (.fn d1121) := by rfl
theorem t1243 : tab 1243 = some (.fn d1243) := by rfl
theorem t1016 : tab 1016 = some (.fn d1016) := by rfl
theorem t1244 : tab 1244 = some (.fn d1244) := by rfl
theorem t1245 : tab 1245 = some (.fn d1245) := by rfl
theorem t1246 : tab 1246 = some (.fn d1246) := by rfl
theorem t1247 : tab 1247 = some (.fn d1247) := by rfl
theorem t1248 : tab 1248 = some (.fn d1248) := by rfl
theorem t1249 : tab 1249 = some (.fn d1249) := by rfl
theorem t1250 : tab 1250 = some (.fn d1250) := by rfl
theorem t1251 : tab 1251 = some (.fn d1251) := by rfl
theorem t1252 : tab 1252 = some (.fn d1252) := by rfl
theorem t1203 : tab 1203 = some (.fn d1203) := by rfl
theorem t1204 : tab 1204 = some (.fn d1204) := by rfl
theorem t1213 : tab 1213 = some (.fn d1213) := by rfl
theorem t1253 : tab 1253 = some (.fn d1253) := by rfl
theorem t1254 : tab 1254 = some (.fn d1254) := by rfl
theorem t1255 : tab 1255 = some (.fn d1255) := by rfl
theorem t1256 : tab 1256 = some (.fn d1256) := by rfl
theorem n1257 : tab 1257 = none := by rfl
end Go.Proofs.Ytofomaiaobfkhaa
