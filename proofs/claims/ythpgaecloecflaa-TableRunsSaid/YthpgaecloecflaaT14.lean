/- The table of the functions. -/
import Derived.Test.YthpgaecloecflaaF14
import Derived.Test.YthpgaecloecflaaKz
namespace Go.Proofs.Ythpgaecloecflaa
set_option linter.unusedSimpArgs false
set_option linter.unusedVariables false
def fidL : List (Nat × Nat) := [(3, 1028), (8, 1033), (9, 1034), (10, 1035), (11, 1036), (12, 1037), (13, 1038), (14, 1039), (15, 1040), (16, 1041), (17, 1042), (18, 1043), (20, 1045), (21, 1046), (22, 1047), (23, 1048), (24, 1049), (25, 1050), (26, 1051), (27, 1052), (28, 1053), (29, 1054), (30, 1055), (31, 1056), (32, 1057), (33, 1058), (34, 1059), (35, 1060), (36, 1061), (37, 1062), (38, 1063), (39, 1064), (40, 1065), (41, 1066), (42, 1067), (43, 1068), (44, 1069), (45, 1070), (46, 1071), (47, 1072), (48, 1073), (49, 1074), (50, 1075), (51, 1076), (52, 1077), (53, 1078)]
def fid : FuncId → Option Nat := fun f => fidL.lookup f
def tab : Nat → Option Entry := fun k => [(1028, Entry.fn d1028), (1033, Entry.fn d1033), (1034, Entry.fn d1034), (1035, Entry.fn d1035), (1036, Entry.fn d1036), (1037, Entry.fn d1037), (1038, Entry.fn d1038), (1039, Entry.fn d1039), (1040, Entry.fn d1040), (1041, Entry.fn d1041), (1042, Entry.fn d1042), (1043, Entry.fn d1043), (1045, Entry.fn d1045), (1046, Entry.fn d1046), (1047, Entry.fn d1047), (1048, Entry.fn d1048), (1049, Entry.fn d1049), (1050, Entry.fn d1050), (1051, Entry.fn d1051), (1052, Entry.fn d1052), (1053, Entry.fn d1053), (1054, Entry.fn d1054), (1055, Entry.fn d1055), (1056, Entry.fn d1056), (1057, Entry.fn d1057), (1058, Entry.fn d1058), (1059, Entry.fn d1059), (1060, Entry.fn d1060), (1061, Entry.fn d1061), (1062, Entry.fn d1062), (1063, Entry.fn d1063), (1064, Entry.fn d1064), (1065, Entry.fn d1065), (1066, Entry.fn d1066), (1067, Entry.fn d1067), (1068, Entry.fn d1068), (1069, Entry.fn d1069), (1070, Entry.fn d1070), (1071, Entry.fn d1071), (1072, Entry.fn d1072), (1073, Entry.fn d1073), (1074, Entry.fn d1074), (1075, Entry.fn d1075), (1076, Entry.fn d1076), (1077, Entry.fn d1077), (1078, Entry.fn d1078)].lookup k
theorem t1028 : tab 1028 = some (.fn d1028) := by rfl
theorem t1033 : tab 1033 = some (.fn d1033) := by rfl
theorem t1034 : tab 1034 = some (.fn d1034) := by rfl
theorem t1035 : tab 1035 = some (.fn d1035) := by rfl
theorem t1036 : tab 1036 = some (.fn d1036) := by rfl
theorem t1037 : tab 1037 = some (.fn d1037) := by rfl
theorem t1038 : tab 1038 = some (.fn d1038) := by rfl
theorem t1039 : tab 1039 = some (.fn d1039) := by rfl
theorem t1040 : tab 1040 = some (.fn d1040) := by rfl
theorem t1041 : tab 1041 = some (.fn d1041) := by rfl
theorem t1042 : tab 1042 = some (.fn d1042) := by rfl
theorem t1043 : tab 1043 = some (.fn d1043) := by rfl
theorem t1045 : tab 1045 = some (.fn d1045) := by rfl
theorem t1046 : tab 1046 = some (.fn d1046) := by rfl
theorem t1047 : tab 1047 = some (.fn d1047) := by rfl
theorem t1048 : tab 1048 = some (.fn d1048) := by rfl
theorem t1049 : tab 1049 = some (.fn d1049) := by rfl
theorem t1050 : tab 1050 = some (.fn d1050) := by rfl
theorem t1051 : tab 1051 = some (.fn d1051) := by rfl
theorem t1052 : tab 1052 = some (.fn d1052) := by rfl
theorem t1053 : tab 1053 = some (.fn d1053) := by rfl
theorem t1054 : tab 1054 = some (.fn d1054) := by rfl
theorem t1055 : tab 1055 = some (.fn d1055) := by rfl
theorem t1056 : tab 1056 = some (.fn d1056) := by rfl
theorem t1057 : tab 1057 = some (.fn d1057) := by rfl
theorem t1058 : tab 1058 = some (.fn d1058) := by rfl
theorem t1059 : tab 1059 = some (.fn d1059) := by rfl
theorem t1060 : tab 1060 = some (.fn d1060) := by rfl
theorem t1061 : tab 1061 = some (.fn d1061) := by rfl
theorem t1062 : tab 1062 = some (.fn d1062) := by rfl
theorem t1063 : tab 1063 = some (.fn d1063) := by rfl
theorem t1064 : tab 1064 = some (.fn d1064) := by rfl
theorem t1065 : tab 1065 = some (.fn d1065) := by rfl
theorem t1066 : tab 1066 = some (.fn d1066) := by rfl
theorem t1067 : tab 1067 = some (.fn d1067) := by rfl
theorem t1068 : tab 1068 = some (.fn d1068) := by rfl
theorem t1069 : tab 1069 = some (.fn d1069) := by rfl
theorem t1070 : tab 1070 = some (.fn d1070) := by rfl
theorem t1071 : tab 1071 = some (.fn d1071) := by rfl
theorem t1072 : tab 1072 = some (.fn d1072) := by rfl
theorem t1073 : tab 1073 = some (.fn d1073) := by rfl
theorem t1074 : tab 1074 = some (.fn d1074) := by rfl
theorem t1075 : tab 1075 = some (.fn d1075) := by rfl
theorem t1076 : tab 1076 = some (.fn d1076) := by rfl
theorem t1077 : tab 1077 = some (.fn d1077) := by rfl
theorem t1078 : tab 1078 = some (.fn d1078) := by rfl
end Go.Proofs.Ythpgaecloecflaa
