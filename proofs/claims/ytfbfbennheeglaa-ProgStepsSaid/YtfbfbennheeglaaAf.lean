import Derived.Test.YtfbfbennheeglaaT18
import Derived.Test.YtfbfbennheeglaaKz
import Derived.Laws.Bits64b
namespace Go.Proofs.Ytfbfbennheeglaa
set_option linter.unusedSimpArgs false
set_option linter.unusedVariables false
set_option maxHeartbeats 4000000
set_option maxRecDepth 100000
theorem lo_toNat (a:Int):(BitVec.ofInt 64 a).toNat % 2=(a % 2).toNat:=by
 rw [BitVec.toNat_ofInt]
 omega
theorem bits1 {X:BitVec 64}:Go.bits .and .i64 (IntKind.i64.wrap (X.toNat:Int)) 1=((X.toNat % 2:Nat):Int):=by
 have hX:=X.isLt
 have h1:(BitVec.ofInt 64 (IntKind.i64.wrap (X.toNat:Int))).toNat=X.toNat:=by
  rw [BitVec.toNat_ofInt,IntKind.wrap_i64]
  omega
 show IntKind.i64.wrap ((BitVec.ofInt 64 (IntKind.i64.wrap (X.toNat:Int)) &&& BitVec.ofInt 64 1).toNat:Int)=_
 rw [BitVec.toNat_and,h1,show (BitVec.ofInt 64 1).toNat=1 from rfl,Nat.and_one_is_mod,IntKind.wrap_i64]
 omega
theorem bits_and1 (a b:Int):Go.bits .and .i64 (Go.bits .and .i64 a b) 1=(a % 2)*(b % 2):=by
 have e:Go.bits .and .i64 a b=IntKind.i64.wrap ((BitVec.ofInt 64 a &&& BitVec.ofInt 64 b).toNat:Int):=rfl
 rw [e,bits1,BitVec.toNat_and,show (2:Nat)=2 ^ 1 from rfl,Nat.and_mod_two_pow,show (2:Nat) ^ 1=2 from rfl,lo_toNat,lo_toNat]
 rcases Int.emod_two_eq a with h | h<;>rcases Int.emod_two_eq b with k | k<;>rw [h,k]<;>rfl
theorem bits_xor1 (a b:Int):Go.bits .and .i64 (Go.bits .xor .i64 a b) 1=(a+b) % 2:=by
 have e:Go.bits .xor .i64 a b=IntKind.i64.wrap ((BitVec.ofInt 64 a ^^^ BitVec.ofInt 64 b).toNat:Int):=rfl
 rw [e,bits1,BitVec.toNat_xor,show (2:Nat)=2 ^ 1 from rfl,Nat.xor_mod_two_pow,show (2:Nat) ^ 1=2 from rfl,lo_toNat,lo_toNat]
 have hs:(a+b) % 2=(a % 2+b % 2) % 2:=by omega
 rw [hs]
 rcases Int.emod_two_eq a with h | h<;>rcases Int.emod_two_eq b with k | k<;>rw [h,k]<;>rfl
theorem shr1 (x:Int):x.fdiv 2=x / 2:=Int.fdiv_eq_ediv_of_nonneg x (by omega)
def smallP (p:Int × Int):Prop:=(-1000000≤p.1∧p.1≤1000000)∧(-1000000≤p.2∧p.2≤1000000)
theorem half_facts {a0 a1:Int} (h1:-1000000≤a0∧a0≤1000000) (h2:-1000000≤a1∧a1≤1000000):∃ u0 u1 p x:Int,a0.fdiv (2 ^ min 1 64)=u0∧a1.fdiv (2 ^ min 1 64)=u1∧Go.bits .and .i64 (Go.bits .and .i64 a0 a1) 1=p∧Go.bits .and .i64 (Go.bits .xor .i64 a0 a1) 1=x∧(-1000000≤u0∧u0≤1000000)∧(-1000000≤u1∧u1≤1000000)∧(0≤p∧p≤1)∧(0≤x∧x≤1)∧2*(u0+u1+p)+x=a0+a1:=by
 refine ⟨a0.fdiv 2,a1.fdiv 2,_,_,rfl,rfl,rfl,rfl,?_,?_,?_,?_,?_⟩
 ·rw [shr1];omega
 ·rw [shr1];omega
 ·rw [bits_and1]
  rcases Int.emod_two_eq a0 with h | h<;>rcases Int.emod_two_eq a1 with k | k<;>rw [h,k]<;>decide
 ·rw [bits_xor1];omega
 ·rw [bits_and1,bits_xor1,shr1,shr1]
  rcases Int.emod_two_eq a0 with h | h<;>rcases Int.emod_two_eq a1 with k | k<;>rw [h,k]<;>omega
theorem lessP_run {a b:Int × Int} (ha:smallP a) (hb:smallP b):runP tab 1729 [.agg [.int .i64 a.1,.int .i64 a.2],.agg [.int .i64 b.1,.int .i64 b.2]] []=some (.bool (decide (a.1+a.2<b.1+b.2)),[]):=by
 refine runP_fn t1729 rfl ?_
 obtain ⟨a0,a1⟩:=a
 obtain ⟨b0,b1⟩:=b
 obtain ⟨ha1,ha2⟩:=ha
 obtain ⟨hb1,hb2⟩:=hb
 simp only at ha1 ha2 hb1 hb2 ⊢
 obtain ⟨u0,u1,p,x,e1,e2,e3,e4,q1,q2,q3,q4,fa⟩:=half_facts ha1 ha2
 obtain ⟨v0,v1,r,y,f1,f2,f3,f4,r1,r2,r3,r4,fb⟩:=half_facts hb1 hb2
 have hd:decide (a0+a1<b0+b1)=decide (u0+u1+p<v0+v1+r∨u0+u1+p=v0+v1+r∧x<y):=by
  rw [decide_eq_decide];omega
 rw [hd]
 clear hd fa fb ha1 ha2 hb1 hb2
 by_cases c1:u0+u1+p<v0+v1+r
 ·rw [decide_eq_true (Or.inl c1)]
  simp (disch:=omega) only [go_sem,d1729,e1,e2,e3,e4,f1,f2,f3,f4]
 ·by_cases c2:u0+u1+p=v0+v1+r
  ·by_cases c3:x<y
   ·rw [decide_eq_true (Or.inr ⟨c2,c3⟩)]
    simp (disch:=omega) only [go_sem,d1729,e1,e2,e3,e4,f1,f2,f3,f4]
   ·rw [decide_eq_false (by omega)]
    simp (disch:=omega) only [go_sem,d1729,e1,e2,e3,e4,f1,f2,f3,f4]
  ·rw [decide_eq_false (by omega)]
   simp (disch:=omega) only [go_sem,d1729,e1,e2,e3,e4,f1,f2,f3,f4]
end Go.Proofs.Ytfbfbennheeglaa
