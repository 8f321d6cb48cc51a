import Derived.Test.YtfbfbennheeglaaT18
import Derived.Test.YtfbfbennheeglaaKz
namespace Go.Proofs.Ytfbfbennheeglaa
set_option linter.unusedSimpArgs false
set_option linter.unusedVariables false
set_option maxHeartbeats 4000000
set_option maxRecDepth 100000
structure Ml where
 s:Int
 b:Int
 v:Int
 d:Int
deriving DecidableEq,Inhabited
def mlC (m:Ml):List AV:=[.int .i64 m.s,.int .i64 m.b,.int .i64 m.v,.int .i64 m.d]
def mls (l:List Ml):List AV:=l.flatMap mlC
theorem mls_nil:mls []=[]:=rfl
theorem mls_cons (m:Ml) (l:List Ml):mls (m::l)=.int .i64 m.s::.int .i64 m.b::.int .i64 m.v::.int .i64 m.d::mls l:=rfl
theorem mls_flat (l:List Ml):(mls l).all flat=true:=by
 induction l with
 |nil=>rfl
 |cons e l ih=>rw [mls_cons];simp only [List.all_cons,flat,Bool.true_and];exact ih
theorem mls_len (l:List Ml):(mls l).length=l.length*4:=by
 induction l with
 |nil=>rfl
 |cons e l ih=>rw [mls_cons];simp only [List.length_cons,ih];omega
theorem mls_okc (l:List Ml):(mls l).all AV.okc=true:=flat_okc (mls_flat l)
theorem mls_noid (l:List Ml):noidL (mls l)=true:=flat_noidL (mls_flat l)
theorem mls_noid' (l:List Ml):allL pnoid (mls l)=true:=flat_noidL (mls_flat l)
theorem mls_noinl (l:List Ml):noinlL (mls l)=true:=flat_noinlL (mls_flat l)
theorem mls_noinl' (l:List Ml):allL pnoinl (mls l)=true:=flat_noinlL (mls_flat l)
theorem mls_noimm (l:List Ml):allL pnoimm (mls l)=true:=flat_noimmL (mls_flat l)
theorem mls_ids (l:List Ml):idsL (mls l)=[]:=flat_idsL (mls_flat l)
theorem mls_idlt (n:Nat) (l:List Ml):idltL n (mls l)=true:=flat_idltL (mls_flat l)
theorem mls_idlt' (n:Nat) (l:List Ml):allL (pidlt n) (mls l)=true:=flat_idltL (mls_flat l)
theorem mls_ren (f:Nat→Nat) (l:List Ml):renL f (mls l)=mls l:=flat_renL (mls_flat l)
theorem mls_ren' (f:Nat→Nat) (l:List Ml):mapL (ren1 f) (mls l)=mls l:=flat_renL (mls_flat l)
theorem mls_frz (l:List Ml):frzL (mls l)=mls l:=flat_frzL (mls_flat l)
theorem mls_frz' (l:List Ml):mapL frz1 (mls l)=mls l:=flat_frzL (mls_flat l)
theorem mls_fz (hp:List Blk) (l:List Ml):fzL hp (mls l)=some (mls l):=flat_fzL (mls_flat l)
theorem mls_pk (n:Nat) (hp:List Blk) (l:List Ml):pkL n hp (mls l)=some (mls l,hp):=flat_pkL (mls_flat l)
theorem mls_pks (hp:List Blk) (l:List Ml):pksL hp (mls l)=some (mls l,hp):=flat_pksL (mls_flat l)
theorem mls_thaw (hp:List Blk) (l:List Ml):thawL hp (mls l)=(mls l,hp):=flat_thawL (mls_flat l)
theorem mul4_div (n:Nat):n*4 / 4=n:=by omega
theorem mls_app (a b:List Ml):mls a++mls b=mls (a++b):=by simp [mls]
theorem mls_drop (l:List Ml) (i:Nat):(mls l).drop (i*4)=mls (l.drop i):=by
 induction i generalizing l with
 |zero=>simp
 |succ i ih=>cases l with
  |nil=>simp [mls]
  |cons r l=>rw [mls_cons,show (i+1)*4=i*4+1+1+1+1 by omega,List.drop_succ_cons,List.drop_succ_cons,List.drop_succ_cons,List.drop_succ_cons];exact ih l
theorem mls_take (l:List Ml) (i:Nat):(mls l).take (i*4)=mls (l.take i):=by
 induction i generalizing l with
 |zero=>simp [mls]
 |succ i ih=>cases l with
  |nil=>simp [mls]
  |cons r l=>rw [mls_cons,show (i+1)*4=i*4+1+1+1+1 by omega,List.take_succ_cons,List.take_succ_cons,List.take_succ_cons,List.take_succ_cons,ih l,List.take_succ_cons,mls_cons]
attribute [go_sem] mls_len mls_okc mls_noid mls_noid' mls_noinl mls_noinl' mls_noimm mls_ids mls_idlt mls_idlt' mls_ren mls_ren' mls_frz mls_frz' mls_fz mls_pk mls_pks mls_thaw mul4_div mls_app mls_drop mls_take
theorem mls_at {l:List Ml} {i:Nat} (h:i<l.length):rdc (mls (l.drop i)) (some 4)=some (.agg (mlC (l.getD i default))):=by
 rw [List.drop_eq_getElem_cons h,mls_cons,List.getD_eq_getElem?_getD,List.getElem?_eq_getElem h];rfl
end Go.Proofs.Ytfbfbennheeglaa
