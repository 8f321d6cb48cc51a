import Derived.Test.YtmckpijdjoifoaaGreatT05z
import Derived.Test.YtmckpijdjoifoaaGreatRs
namespace Go.Proofs.YtmckpijdjoifoaaGreat
set_option linter.unusedSimpArgs false
set_option linter.unusedVariables false
set_option maxHeartbeats 4000000
set_option maxRecDepth 100000
theorem ints_at (a b:List Int) (hl:a.length=b.length):(∀ i,i<a.length→a.getD i 0=b.getD i 0)∧(a == b)=true∨∃ n,n<a.length∧(∀ i,i<n→a.getD i 0=b.getD i 0)∧a.getD n 0≠b.getD n 0∧(a == b)=false:=by
 induction a generalizing b with
 |nil=>cases b with | nil=>exact .inl ⟨by simp,rfl⟩ | cons y b=>simp at hl
 |cons x a ih=>cases b with
  |nil=>simp at hl
  |cons y b=>
   by_cases hxy:x=y
   ·rcases ih b (by simpa using hl) with ⟨h1,h2⟩ | ⟨n,h1,h2,h3,h4⟩
    ·refine .inl ⟨fun i hi=>?_,by simpa [hxy] using h2⟩
     cases i with | zero=>simpa using hxy | succ i=>simpa using h1 i (by simpa using hi)
    ·refine .inr ⟨n+1,by simpa using h1,fun i hi=>?_,by simpa using h3,by simpa [hxy] using h4⟩
     cases i with | zero=>simpa using hxy | succ i=>simpa using h2 i (by omega)
   ·exact .inr ⟨0,by simp,by omega,by simpa using hxy,by simp [hxy]⟩
theorem ints_run {a b:List Int} (ha:a.length<1000000) (hb:b.length<1000000):runP tab 1016 [.sl 1 (ints a),.sl 1 (ints b)] []=some (.bool (a == b),[]):=by
 refine runP_fn t1016 rfl ?_
 by_cases hl:a.length=b.length
 ·simp (disch:=omega) only [go_sem,d1016]
  rcases ints_at a b hl with ⟨h1,h2⟩ | ⟨k,h0,h1,h2,h3⟩
  ·refine Ev_loop0 (fun i=>⟨[(0,.sl 1 (ints a)),(1,.sl 1 (ints b)),(5,.int .i64 (i:Int))],[],0,[(0,0,[0,1,5],[])]⟩) a.length rfl (fun i hi=>?_) ?_
   ·have:=h1 i (by omega)
    simp (disch:=omega) only [go_sem,d1016_b0]
   ·simp (disch:=omega) only [go_sem,d1016_b0,h2]
  ·refine Ev_loop0 (fun i=>⟨[(0,.sl 1 (ints a)),(1,.sl 1 (ints b)),(5,.int .i64 (i:Int))],[],0,[(0,0,[0,1,5],[])]⟩) k rfl (fun i hi=>?_) ?_
   ·have:=h1 i (by omega)
    simp (disch:=omega) only [go_sem,d1016_b0]
   ·simp (disch:=omega) only [go_sem,d1016_b0,h2,h3]
 ·have h:(a == b)=false:=by rw [←Bool.not_eq_true,beq_iff_eq];rintro rfl;exact hl rfl
  simp (disch:=omega) only [go_sem,d1016,h]
theorem clonei_run {l:List Int} (h:l.length≤1000000):runP tab 1024 [.sl 1 (ints l)] []=some (.vec 1 (ints l),[]):=by
 rw [runP_orc t1024]
 have h2:noinlL (ints l)=true:=ints_noinl l
 have h3:noidL (ints l)=true:=ints_noid l
 simp only [cloneG,true_or,h2,h3,true_and,ints_length,Nat.div_one,ints_okc]
 rw [if_pos (by constructor<;>first | trivial | omega)]
theorem first_ix' (p:Nat→Prop) (n:Nat):(∀ i,i<n→p i)∨∃ m,m<n∧(∀ i,i<m→p i)∧¬ p m:=by
 induction n with
 |zero=>exact .inl (by intro i h;omega)
 |succ n ih=>
  rcases ih with h | ⟨m,h1,h2,h3⟩
  ·by_cases hn:p n
   ·exact .inl fun i hi=>by
     by_cases e:i=n
     ·subst e;exact hn
     ·exact h i (by omega)
   ·exact .inr ⟨n,by omega,h,hn⟩
  ·exact .inr ⟨m,by omega,h2,h3⟩
theorem getD_memI {l:List Int} {i:Nat} (h:i<l.length):l.getD i 0∈l:=by
 rw [List.getD_eq_getElem?_getD,List.getElem?_eq_getElem h];exact List.getElem_mem _
theorem memI {l:List Int} {x:Int}:x∈l↔∃ i,i<l.length∧l.getD i 0=x:=by
 constructor
 ·intro h
  obtain ⟨i,hi,e⟩:=List.getElem_of_mem h
  exact ⟨i,hi,by rw [List.getD_eq_getElem?_getD,List.getElem?_eq_getElem hi,e];rfl⟩
 ·rintro ⟨i,hi,rfl⟩;exact getD_memI hi
theorem less_run {a b:Int}:runP tab 1219 [.int .i64 a,.int .i64 b] []=some (.bool (decide (a<b)),[]):=by
 have g:∀ x:Int,runP tab 1072 [.int .i64 x] []=some (.bool false,[]):=fun x=>by
  refine runP_fn t1072 rfl ?_
  simp (disch:=omega) only [go_sem,d1072]
 refine runP_fn t1219 rfl ?_
 by_cases h:a<b
 ·simp (disch:=omega) only [go_sem,d1219,g]
 ·simp (disch:=omega) only [go_sem,d1219,g]
def mono (l:List Int):Prop:=∀ v,v+1<l.length→gi l v≤gi l (v+1)
structure Lay (off to:List Int):Prop where
 lo:2≤off.length
 hi:off.length≤201
 tl:to.length≤2000
 z:gi off 0=0
 e:gi off (off.length - 1)=to.length
 mono:∀ v,v+1<off.length→gi off v≤gi off (v+1)
section
variable {off to:List Int}
theorem Lay.oz (H:Lay off to):oi off 0=0:=by rw [oi,H.z];rfl
theorem Lay.nn (H:Lay off to) {v:Nat} (h:v<off.length):0≤gi off v:=by rw [←H.z];exact mono_of H.mono (Nat.zero_le _) h
theorem Lay.le (H:Lay off to) {v:Nat} (h:v<off.length):gi off v≤to.length:=by rw [←H.e];exact mono_of H.mono (by omega) (by omega)
theorem Lay.gn (H:Lay off to) {v:Nat} (h:v<off.length):gi off v=oi off v:=by have:=H.nn h;rw [oi];omega
theorem Lay.ole (H:Lay off to) {v:Nat} (h:v<off.length):oi off v≤to.length:=by have:=H.le h;have:=H.gn h;omega
theorem Lay.oe (H:Lay off to):oi off (off.length - 1)=to.length:=by rw [oi,H.e];rfl
end
def lw (to:List Int) (k:Nat):Int:=if k=0 then -1 else gi to (k - 1)
def nx (roff to:List Int) (k:Nat):List Int:=(List.range roff.length).map fun w=>gi roff w+cntI to w k
abbrev Ed:=Int × Int
def prs (l:List Ed):List AV:=l.flatMap fun e=>[.int .i64 e.1,.int .i64 e.2]
theorem prs_cons (e:Ed) (l:List Ed):prs (e::l)=.int .i64 e.1::.int .i64 e.2::prs l:=rfl
theorem prs_flat (l:List Ed):(prs l).all flat=true:=by
 induction l with
 |nil=>rfl
 |cons e l ih=>rw [prs_cons];simp only [List.all_cons,flat,Bool.true_and];exact ih
theorem prs_len (l:List Ed):(prs l).length=l.length*2:=by
 induction l with
 |nil=>rfl
 |cons e l ih=>rw [prs_cons];simp only [List.length_cons,ih];omega
theorem prs_okc (l:List Ed):(prs l).all AV.okc=true:=flat_okc (prs_flat l)
theorem prs_noid' (l:List Ed):allL pnoid (prs l)=true:=flat_noidL (prs_flat l)
theorem prs_noinl' (l:List Ed):allL pnoinl (prs l)=true:=flat_noinlL (prs_flat l)
theorem prs_noimm (l:List Ed):allL pnoimm (prs l)=true:=flat_noimmL (prs_flat l)
theorem prs_ids (l:List Ed):idsL (prs l)=[]:=flat_idsL (prs_flat l)
theorem prs_idlt' (n:Nat) (l:List Ed):allL (pidlt n) (prs l)=true:=flat_idltL (prs_flat l)
theorem prs_ren' (f:Nat→Nat) (l:List Ed):mapL (ren1 f) (prs l)=prs l:=flat_renL (prs_flat l)
theorem prs_frz' (l:List Ed):mapL frz1 (prs l)=prs l:=flat_frzL (prs_flat l)
theorem prs_fz (hp:List Blk) (l:List Ed):fzL hp (prs l)=some (prs l):=flat_fzL (prs_flat l)
theorem prs_pk (n:Nat) (hp:List Blk) (l:List Ed):pkL n hp (prs l)=some (prs l,hp):=flat_pkL (prs_flat l)
theorem prs_pks (hp:List Blk) (l:List Ed):pksL hp (prs l)=some (prs l,hp):=flat_pksL (prs_flat l)
theorem prs_thaw (hp:List Blk) (l:List Ed):thawL hp (prs l)=(prs l,hp):=flat_thawL (prs_flat l)
theorem mul2_div (n:Nat):n*2 / 2=n:=by omega
theorem prs_app (a b:List Ed):prs a++prs b=prs (a++b):=by simp [prs]
attribute [go_sem] prs_len prs_okc prs_noid' prs_noinl' prs_noimm prs_ids prs_idlt' prs_ren' prs_frz' prs_fz prs_pk prs_pks prs_thaw mul2_div prs_app
theorem prs_drop (l:List Ed) (i:Nat):(prs l).drop (i*2)=prs (l.drop i):=by
 induction i generalizing l with
 |zero=>simp
 |succ i ih=>cases l with
  |nil=>simp [prs]
  |cons r l=>rw [prs_cons,show (i+1)*2=i*2+1+1 by omega,List.drop_succ_cons,List.drop_succ_cons];exact ih l
attribute [go_sem] prs_drop
theorem prs_at {l:List Ed} {i:Nat} (h:i<l.length):rdc (prs (l.drop i)) (some 2)=some (.agg [.int .i64 (l.getD i default).1,.int .i64 (l.getD i default).2]):=by
 rw [List.drop_eq_getElem_cons h,prs_cons,List.getD_eq_getElem?_getD,List.getElem?_eq_getElem h];rfl
def cmpI (a b:Int):Int:=if a<b then -1 else if b<a then 1 else 0
theorem compare_run {a b:Int}:runP tab 1061 [.int .i64 a,.int .i64 b] []=some (.int .i64 (cmpI a b),[]):=by
 have g:∀ x:Int,runP tab 1072 [.int .i64 x] []=some (.bool false,[]):=fun x=>by
  refine runP_fn t1072 rfl ?_
  simp (disch:=omega) only [go_sem,d1072]
 refine runP_fn t1061 rfl ?_
 unfold cmpI
 by_cases h:a<b
 ·rw [if_pos h]
  simp (disch:=omega) only [go_sem,d1061,g]
 ·by_cases h2:b<a
  ·rw [if_neg h,if_pos h2]
   simp (disch:=omega) only [go_sem,d1061,g]
  ·rw [if_neg h,if_neg h2]
   simp (disch:=omega) only [go_sem,d1061,g]
theorem or_run {a b:Int}:runP tab 1060 [.sl 1 [.int .i64 a,.int .i64 b]] []=some (.int .i64 (if a=0 then b else a),[]):=by
 refine runP_fn t1060 rfl ?_
 simp (disch:=omega) only [go_sem,d1060]
 by_cases h:a=0
 ·rw [if_pos h]
  by_cases h2:b=0
  ·refine Ev_loop0 (fun i=>⟨[(3,.int .i64 0),(6,.sl 1 [.int .i64 a,.int .i64 b]),(7,.int .i64 2),(8,.int .i64 (i:Int))],[],0,[(0,0,[3,6,7,8],[])]⟩) 2 rfl (fun i hi=>?_) ?_
   ·match i,hi with
    |0,_=>simp (disch:=omega) only [go_sem,d1060_b0,h]
    |1,_=>simp (disch:=omega) only [go_sem,d1060_b0,h2,Int.reduceAdd]
   ·simp (disch:=omega) only [go_sem,d1060_b0,h2]
  ·refine Ev_loop0 (fun i=>⟨[(3,.int .i64 0),(6,.sl 1 [.int .i64 a,.int .i64 b]),(7,.int .i64 2),(8,.int .i64 (i:Int))],[],0,[(0,0,[3,6,7,8],[])]⟩) 1 rfl (fun i hi=>?_) ?_
   ·match i,hi with
    |0,_=>simp (disch:=omega) only [go_sem,d1060_b0,h]
   ·simp (disch:=omega) only [go_sem,d1060_b0,h2]
 ·rw [if_neg h]
  refine Ev_loop0 (fun i=>⟨[(3,.int .i64 0),(6,.sl 1 [.int .i64 a,.int .i64 b]),(7,.int .i64 2),(8,.int .i64 (i:Int))],[],0,[(0,0,[3,6,7,8],[])]⟩) 0 rfl (fun i hi=>by omega) ?_
  simp (disch:=omega) only [go_sem,d1060_b0,h]
def ordE (a b:Ed):Int:=if cmpI a.1 b.1=0 then cmpI a.2 b.2 else cmpI a.1 b.1
theorem byends_run {a b:Ed}:runP tab 1223 [.agg [.int .i64 a.1,.int .i64 a.2],.agg [.int .i64 b.1,.int .i64 b.2]] []=some (.int .i64 (ordE a b),[]):=by
 refine runP_fn t1223 rfl ?_
 have g1:=compare_run (a:=a.1) (b:=b.1)
 have g2:=compare_run (a:=a.2) (b:=b.2)
 have g3:=or_run (a:=cmpI a.1 b.1) (b:=cmpI a.2 b.2)
 unfold ordE
 simp (disch:=omega) only [go_sem,d1223,g1,g2,g3]
theorem byends_mk:runP tab 1216 [] []=some (.agg [.clo 1223 [] []],[]):=by
 refine runP_fn t1216 rfl ?_
 simp (disch:=omega) only [go_sem,d1216]
theorem bytext_mk:runP tab 1218 [] []=some (.agg [.clo 1224 [] []],[]):=by
 refine runP_fn t1218 rfl ?_
 simp (disch:=omega) only [go_sem,d1218]
theorem all_nil:runP tab 1221 [.sl 1 [],.clo 1222 [] []] []=some (.bool true,[]):=by
 refine runP_fn t1221 rfl ?_
 simp (disch:=omega) only [go_sem,d1221]
 refine Ev_loop0 (fun i=>⟨[(1,.clo 1222 [] []),(7,.sl 1 []),(8,.int .i64 0),(9,.int .i64 (i:Int))],[],0,[(0,0,[1,7,8,9],[])]⟩) 0 rfl (fun i hi=>by omega) ?_
 simp (disch:=omega) only [go_sem,d1221_b0]
def nls (n:Nat):List AV:=List.replicate n .nils
theorem nls_len (n:Nat):(nls n).length=n:=by simp [nls]
theorem nls_okc (n:Nat):(nls n).all AV.okc=true:=by simp [nls,AV.okc]
theorem nls_all {p:AV→Bool} (h:AV.nils.allv p=true):∀ n,allL p (nls n)=true
 |0=>rfl
 |n+1=>by rw [nls,List.replicate_succ,allL,h];exact nls_all h n
theorem nls_map {f:AV→AV} (h:AV.nils.mapv f=.nils):∀ n,mapL f (nls n)=nls n
 |0=>rfl
 |n+1=>by
  rw [nls,List.replicate_succ,mapL,h]
  have:=nls_map h n
  rw [nls] at this
  rw [this]
theorem nls_noid' (n:Nat):allL pnoid (nls n)=true:=nls_all rfl n
theorem nls_noinl' (n:Nat):allL pnoinl (nls n)=true:=nls_all rfl n
theorem nls_idlt' (k n:Nat):allL (pidlt k) (nls n)=true:=nls_all rfl n
theorem nls_frz' (n:Nat):mapL frz1 (nls n)=nls n:=nls_map rfl n
theorem nls_ren' (f:Nat→Nat) (n:Nat):mapL (ren1 f) (nls n)=nls n:=nls_map rfl n
theorem nls_ids (n:Nat):idsL (nls n)=[]:=noidL_ids _ (nls_noid' n)
attribute [go_sem] nls_len nls_okc nls_noid' nls_noinl' nls_idlt' nls_frz' nls_ren' nls_ids
def rcV (l:List Int):AV:=if l=[] then .nils else .vec 1 (ints l)
def rcS (l:List Int):AV:=if l=[] then .nils else .sl 1 (ints l)
def ocV (l:List (List Int)):List AV:=l.map rcV
def ocS (l:List (List Int)):List AV:=l.map rcS
theorem ocV_len (l:List (List Int)):(ocV l).length=l.length:=by simp [ocV]
theorem ocS_len (l:List (List Int)):(ocS l).length=l.length:=by simp [ocS]
theorem rcV_noid (l:List Int):(rcV l).allv pnoid=true:=by unfold rcV;split<;>simp [AV.allv,pnoid,ints_noid',allL]
theorem rcS_noid (l:List Int):(rcS l).allv pnoid=true:=by unfold rcS;split<;>simp [AV.allv,pnoid,ints_noid',allL]
theorem rcV_frz (l:List Int):(rcV l).mapv frz1=rcS l:=by unfold rcV rcS;split<;>simp [AV.mapv,frz1,ints_frz']
theorem rcV_okc (l:List Int):(rcV l).okc=true:=by unfold rcV;split<;>simp [AV.okc]
theorem rcS_okc (l:List Int):(rcS l).okc=true:=by unfold rcS;split<;>simp [AV.okc]
theorem ocV_noid' (l:List (List Int)):allL pnoid (ocV l)=true:=by
 induction l with
 |nil=>rfl
 |cons a l ih=>simp only [ocV,List.map_cons,allL] at ih ⊢;rw [rcV_noid,ih];rfl
theorem ocS_noid' (l:List (List Int)):allL pnoid (ocS l)=true:=by
 induction l with
 |nil=>rfl
 |cons a l ih=>simp only [ocS,List.map_cons,allL] at ih ⊢;rw [rcS_noid,ih];rfl
theorem ocV_frz' (l:List (List Int)):mapL frz1 (ocV l)=ocS l:=by
 induction l with
 |nil=>rfl
 |cons a l ih=>simp only [ocV,ocS,List.map_cons,mapL] at ih ⊢;rw [rcV_frz,ih]
theorem ocV_okc (l:List (List Int)):(ocV l).all AV.okc=true:=by
 induction l with
 |nil=>rfl
 |cons a l ih=>simp only [ocV,List.map_cons,List.all_cons] at ih ⊢;rw [rcV_okc,ih];rfl
theorem ocS_okc (l:List (List Int)):(ocS l).all AV.okc=true:=by
 induction l with
 |nil=>rfl
 |cons a l ih=>simp only [ocS,List.map_cons,List.all_cons] at ih ⊢;rw [rcS_okc,ih];rfl
theorem ocV_ids (l:List (List Int)):idsL (ocV l)=[]:=noidL_ids _ (ocV_noid' l)
theorem ocV_idlt' (n:Nat) (l:List (List Int)):allL (pidlt n) (ocV l)=true:=idltL_noid _ (ocV_noid' l)
theorem ocV_ren' (f:Nat→Nat) (l:List (List Int)):mapL (ren1 f) (ocV l)=ocV l:=renL_noid _ (ocV_noid' l)
theorem ocS_ids (l:List (List Int)):idsL (ocS l)=[]:=noidL_ids _ (ocS_noid' l)
theorem ocS_idlt' (n:Nat) (l:List (List Int)):allL (pidlt n) (ocS l)=true:=idltL_noid _ (ocS_noid' l)
theorem ocS_ren' (f:Nat→Nat) (l:List (List Int)):mapL (ren1 f) (ocS l)=ocS l:=renL_noid _ (ocS_noid' l)
attribute [go_sem] ocS_ids ocS_idlt' ocS_ren' ocV_len ocS_len ocV_noid' ocS_noid' ocV_frz' ocV_okc ocS_okc ocV_ids ocV_idlt' ocV_ren'
theorem tile_nils:∀ n,tile n [AV.nils]=nls n
 |0=>rfl
 |n+1=>by rw [tile,tile_nils n];rfl
theorem set_rdc {l:List AV} {u:Nat} {x:AV} (h:u<l.length):rdc ((l.set u x).drop u) none=some x:=by
 simp [rdc,List.head?_drop,h]
end Go.Proofs.YtmckpijdjoifoaaGreat
