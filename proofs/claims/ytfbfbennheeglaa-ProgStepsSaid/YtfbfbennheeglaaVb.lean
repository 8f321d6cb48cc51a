import Derived.Test.YtfbfbennheeglaaT18
import Derived.Test.YtfbfbennheeglaaRs
namespace Go.Proofs.Ytfbfbennheeglaa
set_option linter.unusedSimpArgs false
set_option linter.unusedVariables false
set_option maxHeartbeats 4000000
set_option maxRecDepth 100000
def bls (l:List Bool):List AV:=l.map .bool
theorem bls_length (l:List Bool):(bls l).length=l.length:=by simp [bls]
theorem bls_flat (l:List Bool):(bls l).all flat=true:=by simp [bls,flat]
theorem bls_okc (l:List Bool):(bls l).all AV.okc=true:=flat_okc (bls_flat l)
theorem bls_noid (l:List Bool):noidL (bls l)=true:=flat_noidL (bls_flat l)
theorem bls_noid' (l:List Bool):allL pnoid (bls l)=true:=flat_noidL (bls_flat l)
theorem bls_noinl (l:List Bool):noinlL (bls l)=true:=flat_noinlL (bls_flat l)
theorem bls_noinl' (l:List Bool):allL pnoinl (bls l)=true:=flat_noinlL (bls_flat l)
theorem bls_noimm (l:List Bool):allL pnoimm (bls l)=true:=flat_noimmL (bls_flat l)
theorem bls_idlt (n:Nat) (l:List Bool):idltL n (bls l)=true:=flat_idltL (bls_flat l)
theorem bls_idlt' (n:Nat) (l:List Bool):allL (pidlt n) (bls l)=true:=flat_idltL (bls_flat l)
theorem bls_frz (l:List Bool):frzL (bls l)=bls l:=flat_frzL (bls_flat l)
theorem bls_frz' (l:List Bool):mapL frz1 (bls l)=bls l:=flat_frzL (bls_flat l)
theorem bls_ren (r:Nat→Nat) (l:List Bool):renL r (bls l)=bls l:=flat_renL (bls_flat l)
theorem bls_ren' (r:Nat→Nat) (l:List Bool):mapL (ren1 r) (bls l)=bls l:=flat_renL (bls_flat l)
theorem bls_ids (l:List Bool):idsL (bls l)=[]:=flat_idsL (bls_flat l)
theorem bls_fz (hp:List Blk) (l:List Bool):fzL hp (bls l)=some (bls l):=flat_fzL (bls_flat l)
theorem bls_pk (n:Nat) (hp:List Blk) (l:List Bool):pkL n hp (bls l)=some (bls l,hp):=flat_pkL (bls_flat l)
theorem bls_pks (hp:List Blk) (l:List Bool):pksL hp (bls l)=some (bls l,hp):=flat_pksL (bls_flat l)
theorem bls_thaw (hp:List Blk) (l:List Bool):thawL hp (bls l)=(bls l,hp):=flat_thawL (bls_flat l)
theorem bls_rdc {l:List Bool} {i:Nat} (h:i<l.length):rdc ((bls l).drop i) none=some (.bool (l.getD i false)):=by
 rw [rdc,bls,←List.map_drop,List.drop_eq_getElem_cons h,List.getD_eq_getElem?_getD,List.getElem?_eq_getElem h];rfl
theorem bls_set (l:List Bool) (n:Nat) (x:Bool):(bls l).set n (.bool x)=bls (l.set n x):=by simp [bls,List.map_set]
theorem tile_bls:∀ n,tile n [AV.bool false]=bls (List.replicate n false)
 |0=>rfl
 |n+1=>by rw [tile,tile_bls n];rfl
attribute [go_sem] bls_length bls_okc bls_noid bls_noid' bls_noinl bls_noinl' bls_noimm bls_idlt bls_idlt' bls_frz bls_frz' bls_ren bls_ren' bls_ids bls_fz bls_pk bls_pks bls_thaw bls_rdc bls_set tile_bls
end Go.Proofs.Ytfbfbennheeglaa
