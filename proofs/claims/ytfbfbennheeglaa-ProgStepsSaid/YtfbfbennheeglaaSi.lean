import Derived.Test.YtfbfbennheeglaaSb
import Derived.Test.YtfbfbennheeglaaHx
namespace Go.Proofs.Ytfbfbennheeglaa
set_option linter.unusedSimpArgs false
set_option linter.unusedVariables false
set_option maxHeartbeats 4000000
set_option maxRecDepth 100000
open Go.Sort (size_swp)
def ltI (a b:Int):Bool:=decide (a<b)
theorem ordrI:Ordr ltI:=by
 refine ⟨fun x=>by simp [ltI],fun x y z h1 h2=>?_,fun x y h1 h2=>?_⟩
 ·simp only [ltI,decide_eq_true_eq] at *;omega
 ·simp only [ltI,decide_eq_false_iff_not] at *;omega
theorem gl_i (x y:Int):runP tab 1219 [.int .i64 x,.int .i64 y] []=some (.bool (ltI x y),[]):=less_run
theorem at_i {d:Array Int} {i:Nat} (h:i<d.size):rdc (ints (d.toList.drop i)) none=some (.int .i64 d[i]!):=by
 rw [ints_rdc0 (by simpa using h)]
 have:=arr_at h
 rw [←this];rfl
theorem swp_i {d:Array Int} {i j:Nat}:(d.toList.set i d[j]!).set j d[i]! = (Go.Sort.swp d i j).toList:=swp_list.symm
end Go.Proofs.Ytfbfbennheeglaa
