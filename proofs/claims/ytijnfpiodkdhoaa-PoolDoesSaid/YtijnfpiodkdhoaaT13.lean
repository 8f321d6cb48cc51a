/-
  The table of the functions.
-/
import Derived.Test.YtijnfpiodkdhoaaF13
import Derived.Test.YtijnfpiodkdhoaaKz
namespace Go.Proofs.Ytijnfpiodkdhoaa

def fidL : List (Nat × Nat) := [(3, 1001), (6, 1004), (7, 1005), (8, 1006), (9, 1007), (10, 1008), (11, 1009), (12, 1010), (13, 1011), (14, 1012), (15, 1013), (16, 1014), (17, 1015), (18, 1016), (19, 1017), (20, 1018), (21, 1019), (22, 1020), (23, 1021), (24, 1022), (25, 1023), (26, 1024), (27, 1025), (28, 1026), (29, 1027), (4, 1002), (5, 1003)]
def fid : FuncId → Option Nat := fun f => fidL.lookup f
def tab : Nat → Option Entry := fun k => [(1001, Entry.fn d1001), (1004, Entry.fn d1004), (1005, Entry.fn d1005), (1006, Entry.fn d1006), (1007, Entry.fn d1007), (1008, Entry.fn d1008), (1009, Entry.fn d1009), (1010, Entry.fn d1010), (1011, Entry.fn d1011), (1012, Entry.fn d1012), (1013, Entry.fn d1013), (1014, Entry.fn d1014), (1015, Entry.fn d1015), (1016, Entry.fn d1016), (1017, Entry.fn d1017), (1018, Entry.fn d1018), (1019, Entry.fn d1019), (1020, Entry.fn d1020), (1021, Entry.fn d1021), (1022, Entry.fn d1022), (1023, Entry.fn d1023), (1024, Entry.orc (cloneG 1 8)), (1025, Entry.fn d1025), (1026, Entry.fn d1026), (1027, Entry.fn d1027)].lookup k

theorem t1001 : tab 1001 = some (.fn d1001) := by rfl
theorem t1004 : tab 1004 = some (.fn d1004) := by rfl
theorem t1005 : tab 1005 = some (.fn d1005) := by rfl
theorem t1006 : tab 1006 = some (.fn d1006) := by rfl
theorem t1007 : tab 1007 = some (.fn d1007) := by rfl
theorem t1008 : tab 1008 = some (.fn d1008) := by rfl
theorem t1009 : tab 1009 = some (.fn d1009) := by rfl
theorem t1010 : tab 1010 = some (.fn d1010) := by rfl
theorem t1011 : tab 1011 = some (.fn d1011) := by rfl
theorem t1012 : tab 1012 = some (.fn d1012) := by rfl
theorem t1013 : tab 1013 = some (.fn d1013) := by rfl
theorem t1014 : tab 1014 = some (.fn d1014) := by rfl
theorem t1015 : tab 1015 = some (.fn d1015) := by rfl
theorem t1016 : tab 1016 = some (.fn d1016) := by rfl
theorem t1017 : tab 1017 = some (.fn d1017) := by rfl
theorem t1018 : tab 1018 = some (.fn d1018) := by rfl
theorem t1019 : tab 1019 = some (.fn d1019) := by rfl
theorem t1020 : tab 1020 = some (.fn d1020) := by rfl
theorem t1021 : tab 1021 = some (.fn d1021) := by rfl
theorem t1022 : tab 1022 = some (.fn d1022) := by rfl
theorem t1023 : tab 1023 = some (.fn d1023) := by rfl
theorem t1024 : tab 1024 = some (.orc (cloneG 1 8)) := by rfl
theorem t1025 : tab 1025 = some (.fn d1025) := by rfl
theorem t1026 : tab 1026 = some (.fn d1026) := by rfl
theorem t1027 : tab 1027 = some (.fn d1027) := by rfl
theorem n1002 : tab 1002 = none := by rfl
theorem n1003 : tab 1003 = none := by rfl

end Go.Proofs.Ytijnfpiodkdhoaa
