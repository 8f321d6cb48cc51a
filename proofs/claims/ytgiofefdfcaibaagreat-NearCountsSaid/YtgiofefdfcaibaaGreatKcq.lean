import Derived.Test.YtgiofefdfcaibaaGreatKcp
import Derived.Test.YtgiofefdfcaibaaGreatProg
import Derived.KernelRfl
import Derived.Lib.Strings
import Derived.Lib.Slices
import Derived.Lib.Walk
namespace Go.Proofs.YtgiofefdfcaibaaGreat
set_option linter.unusedSimpArgs false
set_option linter.unusedVariables false
set_option maxHeartbeats 1000000 in
set_option maxRecDepth 100000 in
theorem cmp_calls (a b:ByteArray) (w:World):
  Calls Tryz.prog 87 #[.string a,.string b] w fun e w'=>e=.returned (.int .i64 (Go.Lib.compareBytes a.data.toList b.data.toList))∧w'=w:=by
 go_enter Tryz.func87,Tryz.ntmps87
 go_wp2
 rw [run_callFunc_extern Tryz.func94 (by kernel_rfl) (by kernel_rfl) (by kernel_rfl) (e:=Extern.BytealgCompare.compare) (by kernel_rfl),Go.Lib.run_compareString]
 simp only [Result.andThen]
 rw [Oper.upon_value]
 go_wp2
 go_ret
 exact ⟨rfl,rfl⟩
theorem cmp_ok (fid:FuncId→Option Nat):EntryOk Tryz.prog fid 87 (.orc cmpG):=by
 refine ⟨⟨Tryz.f87,by kernel_rfl,by kernel_rfl,by kernel_rfl⟩,?_⟩
 intro vs hps r hr
 unfold cmpG at hr
 split at hr
 ·rename_i a b
  injection hr with hr;subst hr
  intro fr w0 m w args hP hcd H hC hsz
  simp only [CL,C] at hC
  obtain ⟨⟨u1,h1,rfl⟩,⟨u2,h2,rfl⟩,_⟩:=hC
  have e:args=#[.string ⟨a.toArray⟩,.string ⟨b.toArray⟩]:=by
   refine Array.ext (by simpa using hsz) fun i hi hi2=>?_
   match i with
   |0=>rw [Array.getElem?_eq_getElem hi] at h1;simpa using h1
   |1=>rw [Array.getElem?_eq_getElem hi] at h2;simpa using h2
   |n+2=>simp at hi2;omega
  subst e
  refine callsIn_wide.2 ((cmp_calls ⟨a.toArray⟩ ⟨b.toArray⟩ w).mono ?_)
  rintro e w' ⟨rfl,rfl⟩
  exact ⟨_,m,[],rfl,Ext.refl fr m,rfl,H,by simp [R,C]⟩
 ·cases hr
end Go.Proofs.YtgiofefdfcaibaaGreat
