import Derived.Test.YtfbfbennheeglaaSb
import Derived.Test.YtfbfbennheeglaaHx
namespace Go.Proofs.Ytfbfbennheeglaa
set_option linter.unusedSimpArgs false
set_option linter.unusedVariables false
set_option maxHeartbeats 4000000
set_option maxRecDepth 100000
open Go.Sort (size_swp)
def ltH (a b:Ed):Bool:=decide (a.2<b.2∨(a.2=b.2∧a.1<b.1))
theorem ordrH:Ordr ltH:=by
 refine ⟨fun x=>by simp [ltH],fun x y z h1 h2=>?_,fun x y h1 h2=>?_⟩
 ·simp only [ltH,decide_eq_true_eq] at *;omega
 ·simp only [ltH,decide_eq_false_iff_not] at *
  refine Prod.ext ?_ ?_<;>omega
def ordH (a b:Ed):Int:=if cmpI a.2 b.2=0 then cmpI a.1 b.1 else cmpI a.2 b.2
theorem ordh_lt (x y:Ed):decide (ordH x y<0)=ltH x y:=by
 unfold ordH cmpI ltH
 by_cases h1:x.2<y.2
 ·simp [h1]
 ·by_cases h2:y.2<x.2
  ·have h3:¬ x.2=y.2:=by omega
   simp [h1,h2,h3]
  ·have h3:x.2=y.2:=by omega
   by_cases h4:x.1<y.1
   ·simp [h1,h2,h3,h4]
   ·by_cases h5:y.1<x.1<;>simp [h1,h2,h3,h4,h5]
theorem at_e {d:Array Ed} {i:Nat} (h:i<d.size):rdc (prs (d.toList.drop i)) (some 2)=some (.agg [.int .i64 d[i]!.1,.int .i64 d[i]!.2]):=by
 rw [prs_at (by simpa using h),arr_at h]
theorem prs_set2 (x:Ed):∀ (l:List Ed) (i:Nat),((prs l).set (i*2) (.int .i64 x.1)).set (i*2+1) (.int .i64 x.2)=prs (l.set i x)
 | [],i=>by simp [prs]
 |y::l,0=>by simp [prs_cons]
 |y::l,i+1=>by
  have ih:=prs_set2 x l i
  rw [prs_cons,List.set_cons_succ,prs_cons,show (i+1)*2=i*2+1+1 by omega,List.set_cons_succ,List.set_cons_succ,List.set_cons_succ,List.set_cons_succ,ih]
theorem swp_e {d:Array Ed} {i j:Nat}:((((prs d.toList).set (i*2) (.int .i64 d[j]!.1)).set (i*2+1) (.int .i64 d[j]!.2)).set (j*2) (.int .i64 d[i]!.1)).set (j*2+1) (.int .i64 d[i]!.2)=prs (Go.Sort.swp d i j).toList:=by
 rw [prs_set2,prs_set2,swp_list]
theorem hits_run {a b:Ed}:runP tab 1498 [.agg [.int .i64 a.1,.int .i64 a.2],.agg [.int .i64 b.1,.int .i64 b.2]] []=some (.int .i64 (ordH a b),[]):=by
 refine runP_fn t1498 rfl ?_
 have g1:=compare_run (a:=a.2) (b:=b.2)
 have g2:=compare_run (a:=a.1) (b:=b.1)
 have g3:=or_run (a:=cmpI a.2 b.2) (b:=cmpI a.1 b.1)
 simp (disch:=omega) only [go_sem,d1498,g1,g2,g3]
 rfl
theorem gc_h (x y:Ed):runP tab 1495 [.agg [.int .i64 x.1,.int .i64 x.2],.agg [.int .i64 y.1,.int .i64 y.2]] []=some (.int .i64 (ordH x y),[]):=by
 refine runP_fn t1495 rfl ?_
 have g:=hits_run (a:=x) (b:=y)
 simp (disch:=omega) only [go_sem,d1495,g]
end Go.Proofs.Ytfbfbennheeglaa
