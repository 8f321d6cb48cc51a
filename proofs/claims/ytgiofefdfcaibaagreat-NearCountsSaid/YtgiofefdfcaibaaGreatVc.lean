import Derived.Test.YtgiofefdfcaibaaGreatVb
import Derived.Test.YtgiofefdfcaibaaGreatSb
import Derived.Laws.Bits64
import Derived.Laws.Bits64b
namespace Go.Proofs.YtgiofefdfcaibaaGreat
set_option linter.unusedSimpArgs false
set_option linter.unusedVariables false
set_option maxHeartbeats 4000000
set_option maxRecDepth 100000
theorem wrapv_id {x:Int} (h0:0≤x) (h1:x<18446744073709551616):IntKind.u64.wrap x=x:=by
 rw [IntKind.wrap_u64];omega
theorem mul64_run {n:Nat} (h:n≤1000):runP tab 1388 [.int .u64 1,.int .u64 (n:Int)] []=some (.tup [.int .u64 0,.int .u64 (n:Int)],[]):=by
 refine runP_fn t1388 rfl ?_
 have a1:bits BinOp.and IntKind.u64 1 4294967295=1:=by decide
 have a0:bits BinOp.and IntKind.u64 0 4294967295=0:=by decide
 have a2:bits BinOp.and IntKind.u64 (n:Int) 4294967295=n:=by
  have:=bits_and_u64_nat n 4294967295 (by omega) (by omega)
  rw [show ((4294967295:Nat):Int)=4294967295 from rfl] at this
  rw [this]
  rw [show (4294967295:Nat)=2 ^ 32 - 1 from rfl,Nat.and_two_pow_sub_one_eq_mod,Nat.mod_eq_of_lt (by omega)]
 have f1:Int.fdiv 1 (2 ^ min 32 64)=0:=by decide
 have f2:((n:Int)).fdiv (2 ^ min 32 64)=0:=by
  rw [Int.fdiv_eq_ediv_of_nonneg _ (by decide)]
  rw [show ((2:Int) ^ min 32 64)=4294967296 from by decide]
  omega
 have f3:Int.fdiv 0 (2 ^ min 32 64)=0:=by decide
 have w0:IntKind.u64.wrap 0=0:=by decide
 have w1:IntKind.u64.wrap (n:Int)=n:=wrapv_id (by omega) (by omega)
 simp (disch:=omega) only [go_sem,d1388,a1,a2,f1,f2,f3,w0,w1,a0,Int.zero_mul,Int.mul_zero,Int.one_mul,Int.add_zero,Int.zero_add]
theorem mul_run {n:Nat} (h:n≤1000):runP tab 1377 [.int .u64 1,.int .u64 (n:Int)] []=some (.tup [.int .u64 0,.int .u64 (n:Int)],[]):=by
 refine runP_fn t1377 rfl ?_
 have g:=mul64_run h
 simp (disch:=omega) only [go_sem,d1377,g]
def rpz (n m:Nat) (x:Int):List Int:=List.replicate m x++List.replicate (n - m) 0
theorem rpz_len {n m:Nat} {x:Int} (h:m≤n):(rpz n m x).length=n:=by simp [rpz];omega
theorem rpz_zero (n:Nat) (x:Int):rpz n 0 x=List.replicate n 0:=by simp [rpz]
theorem rpz_all (n:Nat) (x:Int):rpz n n x=List.replicate n x:=by simp [rpz]
theorem rpz_take {n m:Nat} {x:Int}:(rpz n m x).take m=List.replicate m x:=by simp [rpz]
theorem rpz_set {n m:Nat} {x:Int} (h:m<n):(rpz n m x).set m x=rpz n (m+1) x:=by
 rw [rpz,rpz,List.set_append_right _ _ (by simp),List.length_replicate,Nat.sub_self,show n - m=n - (m+1)+1 by omega,List.replicate_succ,List.set_cons_zero,List.replicate_succ',List.append_assoc];rfl
theorem rpz_fill {n:Nat} {x:Int}:∀ {j m:Nat},m+j≤n→setAll (ints (rpz n m x)) m (ints (List.replicate j x))=ints (rpz n (m+j) x)
 |0,m,h=>rfl
 |j+1,m,h=>by
  rw [List.replicate_succ,ints_cons,setAll,ints_set,rpz_set (by omega),rpz_fill (by omega),show m+1+j=m+(j+1) by omega]
def rpS (n m:Nat) (x:Int):St:=⟨[(7,.own 1 0),(8,.int .i64 (m:Int))],[.row false (ints (rpz n m x))],0,[(0,1,[7,8],[(7,0)])]⟩
theorem rp_loop {n:Nat} {x:Int} {Q:AX→St→Prop} (h:n≤1000):∀ (d m:Nat),n - m=d→1≤m→m≤n→Ev tab d1367_b0 (rpS n n x) (fun x st=>x≠.normal∧Q x st)→Ev tab (.loop d1367_b0) (rpS n m x) Q:=by
 intro d
 induction d using Nat.strongRecOn with
 |_ d ih=>
  intro m hd h1 h2 hq
  by_cases e:m=n
  ·subst e;exact Ev_stop hq
  ·refine Ev_step (st':=rpS n (m+min (n - m) m) x) ?_ (ih (n - (m+min (n - m) m)) (by omega) _ rfl (by omega) (by omega) hq)
   have hl:=rpz_len (x:=x) h2
   have f:=rpz_fill (x:=x) (n:=n) (m:=m) (j:=min (n - m) m) (by omega)
   have t:=rpz_take (n:=n) (m:=m) (x:=x)
   have q1:min m n=m:=by omega
   simp (disch:=omega) only [go_sem,d1367_b0,rpS,hl,headOf,t,List.take_replicate,List.length_replicate,f,q1]
theorem repeat_run {x:Int} {n:Nat} (h:n≤1000):runP tab 1367 [.sl 1 [.int .i64 x],.int .i64 (n:Int)] []=some (.vec 1 (ints (List.replicate n x)),[]):=by
 refine runP_fn t1367 rfl ?_
 have g:=mul_run h
 have w1:IntKind.u64.wrap (n:Int)=n:=wrapv_id (by omega) (by omega)
 have w2:IntKind.u64.wrap 1=1:=by decide
 have z:=rpz_zero n x
 have z2:=rpz_all n x
 by_cases h0:n=0
 ·subst h0
  have g:runP tab 1377 [.int .u64 1,.int .u64 0] []=some (.tup [.int .u64 0,.int .u64 0],[]):=mul_run (n:=0) (by omega)
  have w1:IntKind.u64.wrap 0=0:=by decide
  have e0:ints []=[]:=rfl
  rw [Int.natCast_zero]
  simp (disch:=omega) only [go_sem,d1367,g,w1,w2,headOf,tile,List.take_zero,setAll]
  refine Ev_stop ?_
  simp (disch:=omega) only [go_sem,d1367_b0,List.replicate_zero,e0]
 ·have hm:min n 1=1:=by omega
  have ht:List.take n [AV.int .i64 x]=[AV.int .i64 x]:=List.take_of_length_le (by simp;omega)
  have hs:=rpz_set (n:=n) (m:=0) (x:=x) (by omega)
  have hl:(ints (List.replicate n 0)).length=n:=by simp [ints]
  simp (disch:=omega) only [go_sem,d1367,g,w1,w2,tile_ints,headOf,hl,hm,ht]
  rw [←z,hs]
  have hl2:=rpz_len (x:=x) (Nat.le_refl n)
  refine rp_loop h _ 1 rfl (by omega) (by omega) ?_
  simp (disch:=omega) only [go_sem,d1367_b0,rpS,hl2,z2,List.length_replicate]
end Go.Proofs.YtgiofefdfcaibaaGreat
