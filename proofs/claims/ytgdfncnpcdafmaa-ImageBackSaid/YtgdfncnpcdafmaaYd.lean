import Derived.Test.YtgdfncnpcdafmaaYc
import Derived.Test.YtgdfncnpcdafmaaPw
namespace Go.Proofs.Ytgdfncnpcdafmaa
set_option linter.unusedSimpArgs false
set_option linter.unusedVariables false
set_option maxHeartbeats 4000000
set_option maxRecDepth 100000
theorem need_run:runP tab 1444 [.bool true] []=some (.tup [],[]):=by
 refine runP_fn t1444 rfl ?_
 simp (disch:=omega) only [go_sem,d1444]
def rdr (s:List UInt8) (i:Nat):Blk:=.row false [.str s,.int .i64 (i:Int)]
theorem snum_run {s:List UInt8} (hs:s.length≤1000000) {i n j:Nat} (h:rdN s i=some (n,j)) {most:Int} (hm:(n:Int)≤most):runP tab 1445 [.ref 0 0,.int .i64 most] [rdr s i]=some (.int .i64 n,[rdr s j]):=by
 have hi:i≤s.length:=by have:=rdN_sound h;omega
 have g:=rdnum_run hs hi
 rw [h] at g
 simp only [rdA] at g
 refine runP_fn t1445 rfl ?_
 simp (disch:=omega) only [go_sem,d1445,rdr,g,need_run]
section
variable {P:Program}
def NeedIs (P:Program):Prop:=∀ f fn,fid f=some 1444→P.funcs[f]? = some fn→lastPan (fn.body.getD .skip)=true
theorem needs (G:Good P fid tab) (N:NeedIs P) (hps:List Blk):DiesC P fid 1444 [.bool false] hps:=need_dies G (show tab 1444=some (.fn (needD _)) from t1444) N hps
theorem snum_dies (G:Good P fid tab) (N:NeedIs P) {s:List UInt8} (hs:s.length≤1000000) {i:Nat} (hi:i≤s.length) {most:Int} (h:∀ n j,rdN s i=some (n,j)→most<n):DiesC P fid 1445 [.ref 0 0,.int .i64 most] [rdr s i]:=by
 refine D_fn G t1445 ?_
 have g:=rdnum_run hs hi
 have hn:=needs G N []
 simp only [d1445,bindParams,rdr]
 refine D_seq2 G ?_
 simp (disch:=omega) only [go_sem]
 refine D_seq2 G ?_
 cases hr:rdN s i with
 | none=>
  rw [hr] at g
  simp only [rdA] at g
  simp (disch:=omega) only [go_sem,g]
  refine D_ghost rfl (D_seq1 (D_ops (DO_take G 6 ?_)))
  simp (disch:=omega) only [go_sem,keepEnv,List.take_succ_cons,List.take_zero,List.drop_succ_cons,List.drop_zero]
  exact DO_call rfl rfl rfl hn trivial
 | some r=>
  obtain ⟨n,j⟩:=r
  have:=h n j hr
  rw [hr] at g
  simp only [rdA] at g
  simp (disch:=omega) only [go_sem,g]
  refine D_ghost rfl (D_seq1 (D_ops (DO_take G 6 ?_)))
  simp (disch:=omega) only [go_sem,keepEnv,List.take_succ_cons,List.take_zero,List.drop_succ_cons,List.drop_zero]
  exact DO_call rfl rfl rfl hn trivial
end
end Go.Proofs.Ytgdfncnpcdafmaa
