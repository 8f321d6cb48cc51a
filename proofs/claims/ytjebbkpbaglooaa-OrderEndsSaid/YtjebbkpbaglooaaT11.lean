/- The table of the functions. -/
import Derived.Test.YtjebbkpbaglooaaF11
import Derived.Test.YtjebbkpbaglooaaKcp
namespace Go.Proofs.Ytjebbkpbaglooaa
set_option linter.unusedSimpArgs false
set_option linter.unusedVariables false
def fidL : List (Nat × Nat) := [(4, 1171), (5, 1172), (6, 1173), (7, 1174), (8, 1175), (11, 1177), (13, 1179), (15, 1181), (17, 1183), (19, 1016), (20, 1185), (21, 1123), (24, 1188), (25, 1189), (26, 1190), (27, 1191), (28, 1192), (29, 1193), (31, 1195), (32, 1196), (33, 1130), (35, 1026), (36, 1198), (37, 1199), (38, 1200), (39, 1201), (40, 1202), (41, 1203), (42, 1204), (46, 1208), (47, 1209), (48, 1210), (49, 1211), (50, 1024), (51, 1212), (52, 1213), (53, 1214), (54, 1215), (55, 1216), (56, 1217), (57, 1218), (58, 1219), (59, 1220), (60, 1221), (61, 1222), (62, 1223), (63, 1060), (64, 1061), (65, 1224), (66, 1072), (67, 1225), (85, 1227), (86, 1228), (87, 1229), (88, 1230), (68, 1226), (90, 1231)]
def fid : FuncId → Option Nat := fun f => fidL.lookup f
def tab : Nat → Option Entry := fun k => [(1171, Entry.fn d1171), (1172, Entry.fn d1172), (1173, Entry.fn d1173), (1174, Entry.fn d1174), (1175, Entry.fn d1175), (1177, Entry.fn d1177), (1179, Entry.fn d1179), (1181, Entry.fn d1181), (1183, Entry.fn d1183), (1016, Entry.fn d1016), (1185, Entry.fn d1185), (1123, Entry.fn d1123), (1188, Entry.fn d1188), (1189, Entry.fn d1189), (1190, Entry.fn d1190), (1191, Entry.fn d1191), (1192, Entry.fn d1192), (1193, Entry.fn d1193), (1195, Entry.fn d1195), (1196, Entry.fn d1196), (1130, Entry.fn d1130), (1026, Entry.fn d1026), (1198, Entry.fn d1198), (1199, Entry.fn d1199), (1200, Entry.fn d1200), (1201, Entry.fn d1201), (1202, Entry.fn d1202), (1203, Entry.fn d1203), (1204, Entry.fn d1204), (1208, Entry.fn d1208), (1209, Entry.fn d1209), (1210, Entry.fn d1210), (1211, Entry.fn d1211), (1024, Entry.orc (cloneG 1 8)), (1212, Entry.fn d1212), (1213, Entry.fn d1213), (1214, Entry.fn d1214), (1215, Entry.fn d1215), (1216, Entry.fn d1216), (1217, Entry.fn d1217), (1218, Entry.fn d1218), (1219, Entry.fn d1219), (1220, Entry.fn d1220), (1221, Entry.fn d1221), (1222, Entry.fn d1222), (1223, Entry.fn d1223), (1060, Entry.fn d1060), (1061, Entry.fn d1061), (1224, Entry.fn d1224), (1072, Entry.fn d1072), (1225, Entry.orc cmpG), (1227, Entry.fn d1227), (1228, Entry.fn d1228), (1229, Entry.fn d1229), (1230, Entry.fn d1230)].lookup k
theorem t1171 : tab 1171 = some (.fn d1171) := by rfl
theorem t1172 : tab 1172 = some (.fn d1172) := by rfl
theorem t1173 : tab 1173 = some (.fn d1173) := by rfl
theorem t1174 : tab 1174 = some (.fn d1174) := by rfl
theorem t1175 : tab 1175 = some (.fn d1175) := by rfl
theorem t1177 : tab 1177 = some (.fn d1177) := by rfl
theorem t1179 : tab 1179 = some (.fn d1179) := by rfl
theorem t1181 : tab 1181 = some (.fn d1181) := by rfl
theorem t1183 : tab 1183 = some (.fn d1183) := by rfl
theorem t1016 : tab 1016 = some (.fn d1016) := by rfl
theorem t1185 : tab 1185 = some (.fn d1185) := by rfl
theorem t1123 : tab 1123 = some (.fn d1123) := by rfl
theorem t1188 : tab 1188 = some (.fn d1188) := by rfl
theorem t1189 : tab 1189 = some (.fn d1189) := by rfl
theorem t1190 : tab 1190 = some (.fn d1190) := by rfl
theorem t1191 : tab 1191 = some (.fn d1191) := by rfl
theorem t1192 : tab 1192 = some (.fn d1192) := by rfl
theorem t1193 : tab 1193 = some (.fn d1193) := by rfl
theorem t1195 : tab 1195 = some (.fn d1195) := by rfl
theorem t1196 : tab 1196 = some (.fn d1196) := by rfl
theorem t1130 : tab 1130 = some (.fn d1130) := by rfl
theorem t1026 : tab 1026 = some (.fn d1026) := by rfl
theorem t1198 : tab 1198 = some (.fn d1198) := by rfl
theorem t1199 : tab 1199 = some (.fn d1199) := by rfl
theorem t1200 : tab 1200 = some (.fn d1200) := by rfl
theorem t1201 : tab 1201 = some (.fn d1201) := by rfl
theorem t1202 : tab 1202 = some (.fn d1202) := by rfl
theorem t1203 : tab 1203 = some (.fn d1203) := by rfl
theorem t1204 : tab 1204 = some (.fn d1204) := by rfl
theorem t1208 : tab 1208 = some (.fn d1208) := by rfl
theorem t1209 : tab 1209 = some (.fn d1209) := by rfl
theorem t1210 : tab 1210 = some (.fn d1210) := by rfl
theorem t1211 : tab 1211 = some (.fn d1211) := by rfl
theorem t1024 : tab 1024 = some (.orc (cloneG 1 8)) := by rfl
theorem t1212 : tab 1212 = some (.fn d1212) := by rfl
theorem t1213 : tab 1213 = some (.fn d1213) := by rfl
theorem t1214 : tab 1214 = some (.fn d1214) := by rfl
theorem t1215 : tab 1215 = some (.fn d1215) := by rfl
theorem t1216 : tab 1216 = some (.fn d1216) := by rfl
theorem t1217 : tab 1217 = some (.fn d1217) := by rfl
theorem t1218 : tab 1218 = some (.fn d1218) := by rfl
theorem t1219 : tab 1219 = some (.fn d1219) := by rfl
theorem t1220 : tab 1220 = some (.fn d1220) := by rfl
theorem t1221 : tab 1221 = some (.fn d1221) := by rfl
theorem t1222 : tab 1222 = some (.fn d1222) := by rfl
theorem t1223 : tab 1223 = some (.fn d1223) := by rfl
theorem t1060 : tab 1060 = some (.fn d1060) := by rfl
theorem t1061 : tab 1061 = some (.fn d1061) := by rfl
theorem t1224 : tab 1224 = some (.fn d1224) := by rfl
theorem t1072 : tab 1072 = some (.fn d1072) := by rfl
theorem t1225 : tab 1225 = some (.orc cmpG) := by rfl
theorem t1227 : tab 1227 = some (.fn d1227) := by rfl
theorem t1228 : tab 1228 = some (.fn d1228) := by rfl
theorem t1229 : tab 1229 = some (.fn d1229) := by rfl
theorem t1230 : tab 1230 = some (.fn d1230) := by rfl
theorem n1226 : tab 1226 = none := by rfl
theorem n1231 : tab 1231 = none := by rfl
end Go.Proofs.Ytjebbkpbaglooaa
