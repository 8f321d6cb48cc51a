import Derived.Test.YtmckpijdjoifoaaGreatT05z
import Derived.Test.YtmckpijdjoifoaaGreatAs
namespace Go.Proofs.YtmckpijdjoifoaaGreat
set_option linter.unusedSimpArgs false
set_option linter.unusedVariables false
open Go.Sort (size_swp)
theorem Ev_stop {T:Nat→Option Entry} {b:Stmt} {st:St} {Q:AX→St→Prop} (h:Ev T b st (fun x s=>x≠.normal∧Q x s)):Ev T (.loop b) st Q:=Ev_loop0 (fun _=>st) 0 rfl (fun i hi=>absurd hi (Nat.not_lt_zero _)) h
theorem Ev_step {T:Nat→Option Entry} {b:Stmt} {st st':St} {Q:AX→St→Prop} (h:Ev T b st (fun x s=>x=.normal∧s=st')) (k:Ev T (.loop b) st' Q):Ev T (.loop b) st Q:=by
 obtain ⟨⟨x,s⟩,h1,h2,h3⟩:=h
 simp only at h2 h3
 subst h2 h3
 obtain ⟨r,h4,h5⟩:=k
 exact ⟨r,by rw [run_eq];simpa [F,h1] using h4,h5⟩
theorem tn1 (a:Nat):((a:Int)+1).toNat=a+1:=by omega
theorem tnA (a r:Nat):((a:Int)+(2*(r:Int)+1)).toNat=a+(2*r+1):=by omega
theorem tnB (a r:Nat):((a:Int)+(2*(r:Int)+1)+1).toNat=a+(2*r+1)+1:=by omega
theorem tnC (a r:Nat):((a:Int)+(2*(r:Int)+2)).toNat=a+(2*r+2):=by omega
theorem tnD (a b:Nat):((a:Int)+(b:Int)).toNat=a+b:=by omega
theorem tnE (x:Int):x+1+1=x+2:=by omega
theorem arr_at {α:Type} [Inhabited α] {d:Array α} {i:Nat} (h:i<d.size):d.toList.getD i default=d[i]!:=by
 rw [List.getD_eq_getElem?_getD,List.getElem?_eq_getElem (by simpa using h),getElem!_pos d i h];simp
theorem swp_list {α:Type} [Inhabited α] {d:Array α} {i j:Nat}:(Go.Sort.swp d i j).toList=(d.toList.set i d[j]!).set j d[i]!:=by simp [Go.Sort.swp]
theorem arr_len {α:Type} (d:Array α):d.toList.length=d.size:=by simp
set_option maxHeartbeats 4000000
set_option maxRecDepth 100000
open Go.Lib (compareBytes)
theorem cb_self:∀ a:Txt,compareBytes a a=0
 | []=>rfl
 |x::a=>by rw [compareBytes,if_neg (UInt8.lt_irrefl x),if_neg (UInt8.lt_irrefl x)];exact cb_self a
theorem cb_eq:∀ a b:Txt,¬ compareBytes a b<0→¬ compareBytes b a<0→a=b
 | [],[],_,_=>rfl
 | [],y::b,h,_=>absurd (show (-1:Int)<0 by decide) h
 |x::a,[],_,h=>absurd (show (-1:Int)<0 by decide) h
 |x::a,y::b,h1,h2=>by
  rw [compareBytes] at h1 h2
  by_cases hxy:x<y
  ·rw [if_pos hxy] at h1;exact absurd (by decide) h1
  ·by_cases hyx:y<x
   ·rw [if_pos hyx] at h2;exact absurd (by decide) h2
   ·rw [if_neg hxy,if_neg hyx] at h1
    rw [if_neg hyx,if_neg hxy] at h2
    have e:x=y:=by
     rw [UInt8.lt_iff_toNat_lt] at hxy hyx
     exact UInt8.toNat_inj.1 (by omega)
    rw [e,cb_eq a b h1 h2]
theorem cb_tr:∀ a b c:Txt,compareBytes a b<0→compareBytes b c<0→compareBytes a c<0
 | [],[],c,h,_=>by simp [compareBytes] at h
 | [],y::b,[],_,h=>by simp [compareBytes] at h
 | [],y::b,z::c,_,_=>by simp [compareBytes]
 |x::a,[],c,h,_=>by simp [compareBytes] at h
 |x::a,y::b,[],_,h=>by simp [compareBytes] at h
 |x::a,y::b,z::c,h1,h2=>by
  rw [compareBytes] at h1 h2 ⊢
  have l1:=@UInt8.lt_iff_toNat_lt x y
  have l2:=@UInt8.lt_iff_toNat_lt y x
  have l3:=@UInt8.lt_iff_toNat_lt y z
  have l4:=@UInt8.lt_iff_toNat_lt z y
  have l5:=@UInt8.lt_iff_toNat_lt x z
  have l6:=@UInt8.lt_iff_toNat_lt z x
  by_cases hxy:x<y
  ·by_cases hyz:y<z
   ·rw [if_pos (l5.2 (by have:=l1.1 hxy;have:=l3.1 hyz;omega))];decide
   ·by_cases hzy:z<y
    ·rw [if_neg hyz,if_pos hzy] at h2;exact absurd h2 (by decide)
    ·have e:y=z:=UInt8.toNat_inj.1 (by rw [l3] at hyz;rw [l4] at hzy;omega)
     subst e
     rw [if_pos hxy];decide
  ·by_cases hyx:y<x
   ·rw [if_neg hxy,if_pos hyx] at h1;exact absurd h1 (by decide)
   ·have e:x=y:=UInt8.toNat_inj.1 (by rw [l1] at hxy;rw [l2] at hyx;omega)
    subst e
    rw [if_neg hxy,if_neg hyx] at h1
    by_cases hyz:x<z
    ·rw [if_pos hyz];decide
    ·by_cases hzy:z<x
     ·rw [if_neg hyz,if_pos hzy] at h2;exact absurd h2 (by decide)
     ·rw [if_neg hyz,if_neg hzy] at h2 ⊢
      exact cb_tr a b c h1 h2
def ltS (a b:Txt):Bool:=decide (compareBytes a b<0)
theorem ordrS:Ordr ltS:=by
 refine ⟨fun x=>by simp [ltS,cb_self],fun x y z h1 h2=>?_,fun x y h1 h2=>?_⟩
 ·simp only [ltS,decide_eq_true_eq] at *;exact cb_tr _ _ _ h1 h2
 ·simp only [ltS,decide_eq_false_iff_not] at *;exact cb_eq _ _ h1 h2
theorem cms_lt (x y:Txt):decide (compareBytes x y<0)=ltS x y:=rfl
theorem at_s {d:Array Txt} {i:Nat} (h:i<d.size):rdc ((strs d.toList).drop i) none=some (.str d[i]!):=by
 rw [strs_rdc (by simpa using h)]
 have:=arr_at h
 rw [←this];rfl
theorem strs_set (l:List Txt) (i:Nat) (x:Txt):(strs l).set i (.str x)=strs (l.set i x):=by simp [strs,List.map_set]
theorem swp_s {d:Array Txt} {i j:Nat}:((strs d.toList).set i (.str d[j]!)).set j (.str d[i]!)=strs (Go.Sort.swp d i j).toList:=by
 rw [strs_set,strs_set,swp_list]
theorem gc_s (x y:Txt):runP tab 1224 [.str x,.str y] []=some (.int .i64 (compareBytes x y),[]):=by
 refine runP_fn t1224 rfl ?_
 have g:runP tab 1225 [.str x,.str y] []=some (.int .i64 (compareBytes x y),[]):=by rw [runP_orc t1225];rfl
 simp (disch:=omega) only [go_sem,d1224,g]
end Go.Proofs.YtmckpijdjoifoaaGreat
