import Derived.Test.YtfbfbennheeglaaSb
import Derived.Laws.Bits64
import Derived.Laws.Bits64b
namespace Go.Proofs.Ytfbfbennheeglaa
set_option linter.unusedSimpArgs false
set_option linter.unusedVariables false
set_option maxHeartbeats 4000000
set_option maxRecDepth 100000
theorem tbl8_len:tbl8.length=256:=by decide +kernel
theorem tbl8_all:∀ x,x<256→(tbl8.getD x 0).toNat≤8∧(0<x→2 ^ (tbl8.getD x 0).toNat≤2*x):=by decide +kernel
theorem tbl8_get {x:Nat} (h:x<256):∃ b,tbl8[x]? = some b∧b.toNat≤8∧(0<x→2 ^ b.toNat≤2*x):=by
 have:=tbl8_all x h
 refine ⟨tbl8.getD x 0,?_,this⟩
 rw [List.getD_eq_getElem?_getD,List.getElem?_eq_getElem (by rw [tbl8_len];exact h)];rfl
theorem wrap8_id {n:Int} (h1:0≤n) (h2:n<256):IntKind.wrap .u8 n=n:=by
 show n % 256=n
 omega
theorem wrapu_id {n:Int} (h1:0≤n) (h2:n<18446744073709551616):IntKind.wrap .u64 n=n:=by
 rw [IntKind.wrap_u64];omega
theorem wrapu_rng (n:Int):0≤IntKind.wrap .u64 n∧IntKind.wrap .u64 n<18446744073709551616:=by
 rw [IntKind.wrap_u64];omega
theorem shr8 (n:Nat):(n:Int).fdiv (2 ^ (min (Int.toNat 8) (IntKind.bits .u64)))=((n / 256:Nat):Int):=by
 show (n:Int).fdiv 256=_
 rw [Int.fdiv_eq_ediv_of_nonneg _ (by decide)];rfl
theorem shr8' (n:Nat):(n:Int).fdiv (2 ^ (min 8 64))=((n / 256:Nat):Int):=shr8 n
theorem len64_run {n:Nat} (hn:n<65536):∃ k:Nat,k≤16∧(0<n→2 ^ k≤2*n)∧runP tab 1071 [.int .u64 (n:Int)] []=some (.int .i64 (k:Int),[]):=by
 by_cases h:n<256
 ·obtain ⟨b,g,h1,h2⟩:=tbl8_get h
  refine ⟨b.toNat,by omega,h2,?_⟩
  refine runP_fn t1071 rfl ?_
  simp (disch:=omega) only [go_sem,d1071,wrap8_id,tbl8_len,g]
 ·obtain ⟨b,g,h1,h2⟩:=tbl8_get (x:=n / 256) (by omega)
  refine ⟨8+b.toNat,by omega,fun _=>?_,?_⟩
  ·have:=h2 (by omega)
   rw [Nat.pow_add]
   generalize 2 ^ b.toNat=p at *
   rw [show (2:Nat) ^ 8=256 from rfl];omega
  ·refine runP_fn t1071 rfl ?_
   have q:n / 256<256:=by omega
   generalize hm:n / 256=m at *
   have e1:=shr8 n
   have e2:=shr8' n
   rw [hm] at e1 e2
   simp (disch:=omega) only [go_sem,d1071,wrap8_id,tbl8_len,g,e1,e2]
theorem len_run {n:Nat} (hn:n<65536):∃ k:Nat,k≤16∧(0<n→2 ^ k≤2*n)∧runP tab 1059 [.int .u64 (n:Int)] []=some (.int .i64 (k:Int),[]):=by
 obtain ⟨k,h1,h2,g⟩:=len64_run hn
 refine ⟨k,h1,h2,?_⟩
 refine runP_fn t1059 rfl ?_
 simp (disch:=omega) only [go_sem,d1059,g]
theorem shl1 {k:Nat} (hk:k≤16):IntKind.wrap .u64 (1*2 ^ (min k 64))=((2 ^ k:Nat):Int):=by
 have:min k 64=k:=Nat.min_eq_left (by omega)
 rw [this,Int.one_mul,IntKind.wrap_u64]
 have h:(2:Nat) ^ k≤2 ^ 16:=Nat.pow_le_pow_right (by decide) hk
 rw [show ((2:Int) ^ k)=((2 ^ k:Nat):Int) by push_cast;rfl]
 generalize (2:Nat) ^ k=p at h
 omega
theorem npow_run {n:Nat} (h0:0<n) (hn:n<65536):∃ M:Nat,1≤M∧M≤2*n∧runP tab 1074 [.int .i64 (n:Int)] []=some (.int .u64 (M:Int),[]):=by
 obtain ⟨k,h1,h2,g⟩:=len_run hn
 refine ⟨2 ^ k,Nat.two_pow_pos _,h2 h0,?_⟩
 refine runP_fn t1074 rfl ?_
 have e:=shl1 h1
 simp (disch:=omega) only [go_sem,d1074,wrapu_id,g,e]
theorem bits_rng (op:BinOp) (a b:Int):0≤Go.bits op .u64 a b∧Go.bits op .u64 a b<18446744073709551616:=wrapu_rng _
theorem next_run {X:Int}:∃ Y:Int,0≤Y∧Y<18446744073709551616∧runP tab 1075 [.ref 0 0] [.row false [.int .u64 X]]=some (.int .u64 Y,[.row false [.int .u64 Y]]):=by
 generalize hA:Go.bits .xor .u64 X (IntKind.wrap .u64 (X*2 ^ (min 13 64)))=A
 generalize hB:Go.bits .xor .u64 A (A.fdiv (2 ^ (min 7 64)))=B
 refine ⟨Go.bits .xor .u64 B (IntKind.wrap .u64 (B*2 ^ (min 17 64))),(bits_rng _ _ _).1,(bits_rng _ _ _).2,?_⟩
 refine runP_fn t1075 rfl ?_
 simp (disch:=omega) only [go_sem,d1075,hA,hB]
theorem and_run {Y:Int} {M:Nat} (h0:0≤Y) (h1:Y<18446744073709551616) (hM:1≤M) (hM2:M≤131072):∃ O:Nat,O≤M - 1∧Go.bits .and .u64 Y ((M:Int) - 1)=(O:Int):=by
 obtain ⟨y,rfl⟩:∃ y:Nat,Y=y:=⟨Y.toNat,by omega⟩
 refine ⟨y &&& (M - 1),Nat.and_le_right,?_⟩
 rw [show ((M:Int) - 1)=((M - 1:Nat):Int) by omega,bits_and_u64_nat _ _ (by omega) (by omega)]
end Go.Proofs.Ytfbfbennheeglaa
