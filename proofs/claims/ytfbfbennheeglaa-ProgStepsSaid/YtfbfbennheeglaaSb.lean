import Derived.Test.YtfbfbennheeglaaT18
import Derived.Test.YtfbfbennheeglaaAs
namespace Go.Proofs.Ytfbfbennheeglaa
set_option linter.unusedSimpArgs false
set_option linter.unusedVariables false
open Go.Sort (size_swp)
theorem Ev_stop {T:Nat→Option Entry} {b:Stmt} {st:St} {Q:AX→St→Prop} (h:Ev T b st (fun x s=>x≠.normal∧Q x s)):Ev T (.loop b) st Q:=Ev_loop0 (fun _=>st) 0 rfl (fun i hi=>absurd hi (Nat.not_lt_zero _)) h
theorem Ev_step {T:Nat→Option Entry} {b:Stmt} {st st':St} {Q:AX→St→Prop} (h:Ev T b st (fun x s=>x=.normal∧s=st')) (k:Ev T (.loop b) st' Q):Ev T (.loop b) st Q:=by
 obtain ⟨⟨x,s⟩,h1,h2,h3⟩:=h
 simp only at h2 h3
 subst h2 h3
 obtain ⟨r,h4,h5⟩:=k
 exact ⟨r,by rw [run_eq];simpa [F,h1] using h4,h5⟩
theorem tn1 (a:Nat):((a:Int)+1).toNat=a+1:=by omega
theorem tnA (a r:Nat):((a:Int)+(2*(r:Int)+1)).toNat=a+(2*r+1):=by omega
theorem tnB (a r:Nat):((a:Int)+(2*(r:Int)+1)+1).toNat=a+(2*r+1)+1:=by omega
theorem tnC (a r:Nat):((a:Int)+(2*(r:Int)+2)).toNat=a+(2*r+2):=by omega
theorem tnD (a b:Nat):((a:Int)+(b:Int)).toNat=a+b:=by omega
theorem tnE (x:Int):x+1+1=x+2:=by omega
theorem arr_at {α:Type} [Inhabited α] {d:Array α} {i:Nat} (h:i<d.size):d.toList.getD i default=d[i]!:=by
 rw [List.getD_eq_getElem?_getD,List.getElem?_eq_getElem (by simpa using h),getElem!_pos d i h];simp
theorem swp_list {α:Type} [Inhabited α] {d:Array α} {i j:Nat}:(Go.Sort.swp d i j).toList=(d.toList.set i d[j]!).set j d[i]!:=by simp [Go.Sort.swp]
theorem arr_len {α:Type} (d:Array α):d.toList.length=d.size:=by simp
end Go.Proofs.Ytfbfbennheeglaa
