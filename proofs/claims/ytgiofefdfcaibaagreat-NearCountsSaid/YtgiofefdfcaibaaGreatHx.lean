import Derived.Test.YtgiofefdfcaibaaGreatHu
namespace Go.Proofs.YtgiofefdfcaibaaGreat
set_option linter.unusedSimpArgs false
set_option linter.unusedVariables false
set_option maxHeartbeats 4000000
set_option maxRecDepth 100000
abbrev Ed:=Int × Int
def prs (l:List Ed):List AV:=l.flatMap fun e=>[.int .i64 e.1,.int .i64 e.2]
theorem prs_cons (e:Ed) (l:List Ed):prs (e::l)=.int .i64 e.1::.int .i64 e.2::prs l:=rfl
theorem prs_flat (l:List Ed):(prs l).all flat=true:=by
 induction l with
 |nil=>rfl
 |cons e l ih=>rw [prs_cons];simp only [List.all_cons,flat,Bool.true_and];exact ih
theorem prs_len (l:List Ed):(prs l).length=l.length*2:=by
 induction l with
 |nil=>rfl
 |cons e l ih=>rw [prs_cons];simp only [List.length_cons,ih];omega
theorem prs_okc (l:List Ed):(prs l).all AV.okc=true:=flat_okc (prs_flat l)
theorem prs_noid' (l:List Ed):allL pnoid (prs l)=true:=flat_noidL (prs_flat l)
theorem prs_noinl' (l:List Ed):allL pnoinl (prs l)=true:=flat_noinlL (prs_flat l)
theorem prs_noimm (l:List Ed):allL pnoimm (prs l)=true:=flat_noimmL (prs_flat l)
theorem prs_ids (l:List Ed):idsL (prs l)=[]:=flat_idsL (prs_flat l)
theorem prs_idlt' (n:Nat) (l:List Ed):allL (pidlt n) (prs l)=true:=flat_idltL (prs_flat l)
theorem prs_ren' (f:Nat→Nat) (l:List Ed):mapL (ren1 f) (prs l)=prs l:=flat_renL (prs_flat l)
theorem prs_frz' (l:List Ed):mapL frz1 (prs l)=prs l:=flat_frzL (prs_flat l)
theorem prs_fz (hp:List Blk) (l:List Ed):fzL hp (prs l)=some (prs l):=flat_fzL (prs_flat l)
theorem prs_pk (n:Nat) (hp:List Blk) (l:List Ed):pkL n hp (prs l)=some (prs l,hp):=flat_pkL (prs_flat l)
theorem prs_pks (hp:List Blk) (l:List Ed):pksL hp (prs l)=some (prs l,hp):=flat_pksL (prs_flat l)
theorem prs_thaw (hp:List Blk) (l:List Ed):thawL hp (prs l)=(prs l,hp):=flat_thawL (prs_flat l)
theorem mul2_div (n:Nat):n*2 / 2=n:=by omega
theorem prs_app (a b:List Ed):prs a++prs b=prs (a++b):=by simp [prs]
attribute [go_sem] prs_len prs_okc prs_noid' prs_noinl' prs_noimm prs_ids prs_idlt' prs_ren' prs_frz' prs_fz prs_pk prs_pks prs_thaw mul2_div prs_app
theorem prs_drop (l:List Ed) (i:Nat):(prs l).drop (i*2)=prs (l.drop i):=by
 induction i generalizing l with
 |zero=>simp
 |succ i ih=>cases l with
  |nil=>simp [prs]
  |cons r l=>rw [prs_cons,show (i+1)*2=i*2+1+1 by omega,List.drop_succ_cons,List.drop_succ_cons];exact ih l
attribute [go_sem] prs_drop
theorem prs_at {l:List Ed} {i:Nat} (h:i<l.length):rdc (prs (l.drop i)) (some 2)=some (.agg [.int .i64 (l.getD i default).1,.int .i64 (l.getD i default).2]):=by
 rw [List.drop_eq_getElem_cons h,prs_cons,List.getD_eq_getElem?_getD,List.getElem?_eq_getElem h];rfl
def cmpI (a b:Int):Int:=if a<b then -1 else if b<a then 1 else 0
theorem compare_run {a b:Int}:runP tab 1061 [.int .i64 a,.int .i64 b] []=some (.int .i64 (cmpI a b),[]):=by
 have g:∀ x:Int,runP tab 1072 [.int .i64 x] []=some (.bool false,[]):=fun x=>by
  refine runP_fn t1072 rfl ?_
  simp (disch:=omega) only [go_sem,d1072]
 refine runP_fn t1061 rfl ?_
 unfold cmpI
 by_cases h:a<b
 ·rw [if_pos h]
  simp (disch:=omega) only [go_sem,d1061,g]
 ·by_cases h2:b<a
  ·rw [if_neg h,if_pos h2]
   simp (disch:=omega) only [go_sem,d1061,g]
  ·rw [if_neg h,if_neg h2]
   simp (disch:=omega) only [go_sem,d1061,g]
theorem or_run {a b:Int}:runP tab 1060 [.sl 1 [.int .i64 a,.int .i64 b]] []=some (.int .i64 (if a=0 then b else a),[]):=by
 refine runP_fn t1060 rfl ?_
 simp (disch:=omega) only [go_sem,d1060]
 by_cases h:a=0
 ·rw [if_pos h]
  by_cases h2:b=0
  ·refine Ev_loop0 (fun i=>⟨[(3,.int .i64 0),(6,.sl 1 [.int .i64 a,.int .i64 b]),(7,.int .i64 2),(8,.int .i64 (i:Int))],[],0,[(0,0,[3,6,7,8],[])]⟩) 2 rfl (fun i hi=>?_) ?_
   ·match i,hi with
    |0,_=>simp (disch:=omega) only [go_sem,d1060_b0,h]
    |1,_=>simp (disch:=omega) only [go_sem,d1060_b0,h2,Int.reduceAdd]
   ·simp (disch:=omega) only [go_sem,d1060_b0,h2]
  ·refine Ev_loop0 (fun i=>⟨[(3,.int .i64 0),(6,.sl 1 [.int .i64 a,.int .i64 b]),(7,.int .i64 2),(8,.int .i64 (i:Int))],[],0,[(0,0,[3,6,7,8],[])]⟩) 1 rfl (fun i hi=>?_) ?_
   ·match i,hi with
    |0,_=>simp (disch:=omega) only [go_sem,d1060_b0,h]
   ·simp (disch:=omega) only [go_sem,d1060_b0,h2]
 ·rw [if_neg h]
  refine Ev_loop0 (fun i=>⟨[(3,.int .i64 0),(6,.sl 1 [.int .i64 a,.int .i64 b]),(7,.int .i64 2),(8,.int .i64 (i:Int))],[],0,[(0,0,[3,6,7,8],[])]⟩) 0 rfl (fun i hi=>by omega) ?_
  simp (disch:=omega) only [go_sem,d1060_b0,h]
def ordE (a b:Ed):Int:=if cmpI a.1 b.1=0 then cmpI a.2 b.2 else cmpI a.1 b.1
theorem byends_run {a b:Ed}:runP tab 1223 [.agg [.int .i64 a.1,.int .i64 a.2],.agg [.int .i64 b.1,.int .i64 b.2]] []=some (.int .i64 (ordE a b),[]):=by
 refine runP_fn t1223 rfl ?_
 have g1:=compare_run (a:=a.1) (b:=b.1)
 have g2:=compare_run (a:=a.2) (b:=b.2)
 have g3:=or_run (a:=cmpI a.1 b.1) (b:=cmpI a.2 b.2)
 unfold ordE
 simp (disch:=omega) only [go_sem,d1223,g1,g2,g3]
theorem byends_mk:runP tab 1216 [] []=some (.agg [.clo 1223 [] []],[]):=by
 refine runP_fn t1216 rfl ?_
 simp (disch:=omega) only [go_sem,d1216]
theorem bytext_mk:runP tab 1218 [] []=some (.agg [.clo 1224 [] []],[]):=by
 refine runP_fn t1218 rfl ?_
 simp (disch:=omega) only [go_sem,d1218]
def risE (l:List Ed):Prop:=∀ i,i+1<l.length→ordE (l.getD i default) (l.getD (i+1) default)<0
theorem rises_run {l:List Ed} (hl:l.length≤1000000) (h:risE l):runP tab 1215 [.sl 2 (prs l),.agg [.clo 1223 [] []]] []=some (.bool true,[]):=by
 refine runP_fn t1215 rfl ?_
 simp (disch:=omega) only [go_sem,d1215]
 refine Ev_loop0 (fun i=>⟨[(0,.sl 2 (prs l)),(3,.ref 0 0),(5,.int .i64 (i+1:Int))],[.row false [.clo 1223 [] []]],0,[(0,1,[0,3,5],[(3,0)])]⟩) (l.length - 1) (by simp) (fun i hi=>?_) ?_
 ·have q:=h i (by omega)
  have e1:=prs_at (l:=l) (i:=i) (by omega)
  have e2:=prs_at (l:=l) (i:=i+1) (by omega)
  have g:=byends_run (a:=l.getD i default) (b:=l.getD (i+1) default)
  have q1:((i:Int)+1 - 1)=i:=by omega
  have q2:((i:Int)+1).toNat=i+1:=by omega
  simp (disch:=omega) only [go_sem,d1215_b0,e1,e2,g,q1,q2]
 ·simp (disch:=omega) only [go_sem,d1215_b0]
theorem all_nil:runP tab 1221 [.sl 1 [],.clo 1222 [] []] []=some (.bool true,[]):=by
 refine runP_fn t1221 rfl ?_
 simp (disch:=omega) only [go_sem,d1221]
 refine Ev_loop0 (fun i=>⟨[(1,.clo 1222 [] []),(7,.sl 1 []),(8,.int .i64 0),(9,.int .i64 (i:Int))],[],0,[(0,0,[1,7,8,9],[])]⟩) 0 rfl (fun i hi=>by omega) ?_
 simp (disch:=omega) only [go_sem,d1221_b0]
theorem rises_nil:runP tab 1217 [.sl 1 [],.agg [.clo 1224 [] []]] []=some (.bool true,[]):=by
 refine runP_fn t1217 rfl ?_
 simp (disch:=omega) only [go_sem,d1217]
 refine Ev_loop0 (fun i=>⟨[(0,.sl 1 []),(3,.ref 0 0),(5,.int .i64 (i+1:Int))],[.row false [.clo 1224 [] []]],0,[(0,1,[0,3,5],[(3,0)])]⟩) 0 (by simp) (fun i hi=>by omega) ?_
 simp (disch:=omega) only [go_sem,d1217_b0]
def nls (n:Nat):List AV:=List.replicate n .nils
theorem nls_len (n:Nat):(nls n).length=n:=by simp [nls]
theorem nls_okc (n:Nat):(nls n).all AV.okc=true:=by simp [nls,AV.okc]
theorem nls_all {p:AV→Bool} (h:AV.nils.allv p=true):∀ n,allL p (nls n)=true
 |0=>rfl
 |n+1=>by rw [nls,List.replicate_succ,allL,h];exact nls_all h n
theorem nls_map {f:AV→AV} (h:AV.nils.mapv f=.nils):∀ n,mapL f (nls n)=nls n
 |0=>rfl
 |n+1=>by
  rw [nls,List.replicate_succ,mapL,h]
  have:=nls_map h n
  rw [nls] at this
  rw [this]
theorem nls_noid' (n:Nat):allL pnoid (nls n)=true:=nls_all rfl n
theorem nls_noinl' (n:Nat):allL pnoinl (nls n)=true:=nls_all rfl n
theorem nls_idlt' (k n:Nat):allL (pidlt k) (nls n)=true:=nls_all rfl n
theorem nls_frz' (n:Nat):mapL frz1 (nls n)=nls n:=nls_map rfl n
theorem nls_ren' (f:Nat→Nat) (n:Nat):mapL (ren1 f) (nls n)=nls n:=nls_map rfl n
theorem nls_ids (n:Nat):idsL (nls n)=[]:=noidL_ids _ (nls_noid' n)
theorem nls_rdc {n i:Nat} (h:i<n):rdc ((nls n).drop i) none=some .nils:=by
 rw [nls,List.drop_replicate]
 obtain ⟨k,hk⟩:∃ k,n - i=k+1:=⟨n - i - 1,by omega⟩
 rw [hk];rfl
attribute [go_sem] nls_len nls_okc nls_noid' nls_noinl' nls_idlt' nls_frz' nls_ren' nls_ids
theorem ghas_run {n v:Int} {l:List AV} {ws:List AV}:runP tab 1220 [.agg [.int .i64 n,.sl 2 l,.sl 1 ws],.int .i64 v] []=some (.bool (decide (0≤v∧v<n)),[]):=by
 refine runP_fn t1220 rfl ?_
 by_cases h1:0≤v<;>by_cases h2:v<n
 ·rw [decide_eq_true ⟨h1,h2⟩];simp (disch:=omega) only [go_sem,d1220]
 ·rw [decide_eq_false (fun h=>h2 h.2)];simp (disch:=omega) only [go_sem,d1220]
 ·rw [decide_eq_false (fun h=>h1 h.1)];simp (disch:=omega) only [go_sem,d1220]
 ·rw [decide_eq_false (fun h=>h1 h.1)];simp (disch:=omega) only [go_sem,d1220]
def rcV (l:List Int):AV:=if l=[] then .nils else .vec 1 (ints l)
def rcS (l:List Int):AV:=if l=[] then .nils else .sl 1 (ints l)
def ocV (l:List (List Int)):List AV:=l.map rcV
def ocS (l:List (List Int)):List AV:=l.map rcS
theorem ocV_len (l:List (List Int)):(ocV l).length=l.length:=by simp [ocV]
theorem ocS_len (l:List (List Int)):(ocS l).length=l.length:=by simp [ocS]
theorem rcV_noid (l:List Int):(rcV l).allv pnoid=true:=by unfold rcV;split<;>simp [AV.allv,pnoid,ints_noid',allL]
theorem rcS_noid (l:List Int):(rcS l).allv pnoid=true:=by unfold rcS;split<;>simp [AV.allv,pnoid,ints_noid',allL]
theorem rcV_frz (l:List Int):(rcV l).mapv frz1=rcS l:=by unfold rcV rcS;split<;>simp [AV.mapv,frz1,ints_frz']
theorem rcV_okc (l:List Int):(rcV l).okc=true:=by unfold rcV;split<;>simp [AV.okc]
theorem rcS_okc (l:List Int):(rcS l).okc=true:=by unfold rcS;split<;>simp [AV.okc]
theorem ocV_noid' (l:List (List Int)):allL pnoid (ocV l)=true:=by
 induction l with
 |nil=>rfl
 |cons a l ih=>simp only [ocV,List.map_cons,allL] at ih ⊢;rw [rcV_noid,ih];rfl
theorem ocS_noid' (l:List (List Int)):allL pnoid (ocS l)=true:=by
 induction l with
 |nil=>rfl
 |cons a l ih=>simp only [ocS,List.map_cons,allL] at ih ⊢;rw [rcS_noid,ih];rfl
theorem ocV_frz' (l:List (List Int)):mapL frz1 (ocV l)=ocS l:=by
 induction l with
 |nil=>rfl
 |cons a l ih=>simp only [ocV,ocS,List.map_cons,mapL] at ih ⊢;rw [rcV_frz,ih]
theorem ocV_okc (l:List (List Int)):(ocV l).all AV.okc=true:=by
 induction l with
 |nil=>rfl
 |cons a l ih=>simp only [ocV,List.map_cons,List.all_cons] at ih ⊢;rw [rcV_okc,ih];rfl
theorem ocS_okc (l:List (List Int)):(ocS l).all AV.okc=true:=by
 induction l with
 |nil=>rfl
 |cons a l ih=>simp only [ocS,List.map_cons,List.all_cons] at ih ⊢;rw [rcS_okc,ih];rfl
theorem ocV_ids (l:List (List Int)):idsL (ocV l)=[]:=noidL_ids _ (ocV_noid' l)
theorem ocV_idlt' (n:Nat) (l:List (List Int)):allL (pidlt n) (ocV l)=true:=idltL_noid _ (ocV_noid' l)
theorem ocV_ren' (f:Nat→Nat) (l:List (List Int)):mapL (ren1 f) (ocV l)=ocV l:=renL_noid _ (ocV_noid' l)
theorem ocS_ids (l:List (List Int)):idsL (ocS l)=[]:=noidL_ids _ (ocS_noid' l)
theorem ocS_idlt' (n:Nat) (l:List (List Int)):allL (pidlt n) (ocS l)=true:=idltL_noid _ (ocS_noid' l)
theorem ocS_ren' (f:Nat→Nat) (l:List (List Int)):mapL (ren1 f) (ocS l)=ocS l:=renL_noid _ (ocS_noid' l)
attribute [go_sem] ocS_ids ocS_idlt' ocS_ren' ocV_len ocS_len ocV_noid' ocS_noid' ocV_frz' ocV_okc ocS_okc ocV_ids ocV_idlt' ocV_ren'
theorem ocS_at {l:List (List Int)} {i:Nat} (h:i<l.length):rdc ((ocS l).drop i) none=some (rcS (l.getD i [])):=by
 rw [ocS,←List.map_drop,List.drop_eq_getElem_cons h,List.getD_eq_getElem?_getD,List.getElem?_eq_getElem h];rfl
def offs (rows:List (List Int)) (i:Nat):List Int:=(List.range (i+1)).map fun k=>(((rows.take k).flatten.length:Nat):Int)
theorem offs_succ (rows:List (List Int)) (i:Nat):offs rows (i+1)=offs rows i++[(((rows.take (i+1)).flatten.length:Nat):Int)]:=by
 simp only [offs];rw [List.range_succ,List.map_append];rfl
theorem flat_succ {rows:List (List Int)} {i:Nat} (h:i<rows.length):(rows.take (i+1)).flatten=(rows.take i).flatten++rows.getD i []:=by
 rw [take_snoc [] h,List.flatten_append];simp
theorem flat_le {rows:List (List Int)} {n:Nat} (h:rows.flatten.length≤n) (i:Nat):(rows.take i).flatten.length≤n:=by
 have:rows.flatten=(rows.take i).flatten++(rows.drop i).flatten:=by rw [←List.flatten_append,List.take_append_drop]
 rw [this,List.length_append] at h
 omega
theorem offs_len (rows:List (List Int)) (i:Nat):(offs rows i).length=i+1:=by simp [offs]
theorem joined_run {rows:List (List Int)} (h:rows.length≤1000000) (h2:rows.flatten.length≤1000000):runP tab 1209 [.sl 1 (ocS rows)] []=some (.tup [.vec 1 (ints (offs rows rows.length)),.vec 1 (ints rows.flatten)],[]):=by
 refine runP_fn t1209 rfl ?_
 simp (disch:=omega) only [go_sem,d1209]
 refine Ev_loop0 (fun i=>⟨[(4,.own 1 0),(5,.own 1 1),(10,.sl 1 (ocS rows)),(11,.int .i64 rows.length),(12,.int .i64 (i:Int))],[.row false (ints (offs rows i)),.row false (ints (rows.take i).flatten)],0,[(0,2,[4,5,10,11,12],[(4,0),(5,1)])]⟩) rows.length (by simp [offs,ints]) (fun i hi=>?_) ?_
 ·have e:=ocS_at hi
  have e1:=flat_succ hi
  have e2:=offs_succ rows i
  have l1:=flat_le h2 i
  have l2:=flat_le h2 (i+1)
  have l3:=offs_len rows i
  rw [e1] at e2 l2
  rw [e2,e1]
  generalize hr:rows.getD i []=r at *
  generalize (List.take i rows).flatten=T at *
  generalize offs rows i=O at *
  rw [List.length_append] at l2
  by_cases h0:r=[]
  ·subst h0
   simp only [rcS,if_true] at e
   simp (disch:=omega) only [go_sem,d1209_b0,e]
  ·simp only [rcS,if_neg h0] at e
   simp (disch:=omega) only [go_sem,d1209_b0,e]
 ·simp (disch:=omega) only [go_sem,d1209_b0,List.take_length]
structure okE (n:Nat) (E:List Ed):Prop where
 lo:1≤n
 hi:n≤200
 len:E.length≤2000
 pl:∀ i,i<E.length→0≤(E.getD i default).1∧(E.getD i default).1<n∧0≤(E.getD i default).2∧(E.getD i default).2<n
 ris:risE E
def grS (n:Nat) (E:List Ed):List AV:=[.int .i64 n,.sl 2 (prs E),.sl 1 (nls n)]
theorem gcheck_run {n:Nat} {E:List Ed} (h:okE n E):runP tab 1214 [.agg (grS n E)] []=some (.bool true,[]):=by
 refine runP_fn t1214 rfl ?_
 have h1:=h.lo
 have h2:=h.hi
 have h3:=h.len
 simp (disch:=omega) only [go_sem,d1214,grS]
 refine Ev_loop0 (fun i=>⟨[(1,.ref 0 0),(30,.sl 2 (prs E)),(31,.int .i64 E.length),(32,.int .i64 (i:Int))],[.row false [.int .i64 n,.sl 2 (prs E),.sl 1 (nls n)]],0,[(0,1,[1,30,31,32],[(1,0)])]⟩) E.length (by simp) (fun i hi=>?_) ?_
 ·have e:=prs_at hi
  have p:=h.pl i hi
  generalize E.getD i default=x at *
  have g1:=ghas_run (n:=n) (v:=x.1) (l:=prs E) (ws:=nls n)
  have g2:=ghas_run (n:=n) (v:=x.2) (l:=prs E) (ws:=nls n)
  rw [decide_eq_true ⟨p.1,p.2.1⟩] at g1
  rw [decide_eq_true ⟨p.2.2.1,p.2.2.2⟩] at g2
  simp (disch:=omega) only [go_sem,d1214_b0,e,g1,g2]
 ·simp (disch:=omega) only [go_sem,d1214_b0]
  refine Ev_loop0 (fun i=>⟨[(50,.sl 1 (nls n)),(51,.int .i64 n),(52,.int .i64 (i:Int))],[.row false [.int .i64 n,.sl 2 (prs E),.sl 1 (nls n)]],0,[(1,1,[50,51,52],[]),(0,1,[1,30,31,32],[(1,0)])]⟩) n (by simp) (fun i hi=>?_) ?_
  ·have e:=nls_rdc hi
   have g:=all_nil
   simp (disch:=omega) only [go_sem,d1214_b1,e,g]
  ·simp (disch:=omega) only [go_sem,d1214_b1]
theorem is_run {n:Nat} {E:List Ed} (h:okE n E):runP tab 1208 [.agg (grS n E)] []=some (.bool true,[]):=by
 refine runP_fn t1208 rfl ?_
 have h1:=h.lo
 have h2:=h.hi
 have h3:=h.len
 have gc:=gcheck_run h
 have gr:=rises_run (l:=E) (by omega) h.ris
 have b1:=byends_mk
 have b2:=bytext_mk
 have gn:=rises_nil
 simp only [grS] at gc
 simp (disch:=omega) only [go_sem,d1208,grS,gc,gr,b1]
 refine Ev_loop0 (fun i=>⟨[(16,.sl 1 (nls n)),(17,.int .i64 n),(18,.int .i64 (i:Int))],[.row false [.int .i64 n,.sl 2 (prs E),.sl 1 (nls n)]],0,[(0,1,[16,17,18],[])]⟩) n (by simp) (fun i hi=>?_) ?_
 ·have e:=nls_rdc hi
  simp (disch:=omega) only [go_sem,d1208_b0,e,b2,gn]
 ·simp (disch:=omega) only [go_sem,d1208_b0]
def outR (E:List Ed) (n k:Nat):List (List Int):=(List.range n).map fun v:Nat=>((E.take k).filter fun e=>e.1 == (v:Int)).map (·.2)
def inR (E:List Ed) (n k:Nat):List (List Int):=(List.range n).map fun v:Nat=>((E.take k).filter fun e=>e.2 == (v:Int)).map (·.1)
theorem outR_len (E:List Ed) (n k:Nat):(outR E n k).length=n:=by simp [outR]
theorem inR_len (E:List Ed) (n k:Nat):(inR E n k).length=n:=by simp [inR]
theorem tile_nils:∀ n,tile n [AV.nils]=nls n
 |0=>rfl
 |n+1=>by rw [tile,tile_nils n];rfl
theorem ocV_nil (n:Nat):ocV (List.replicate n [])=nls n:=by
 simp [ocV,rcV,nls]
theorem outR_zero (E:List Ed) (n:Nat):ocV (outR E n 0)=nls n:=by
 rw [←ocV_nil];congr 1;simp [outR,List.map_const']
theorem inR_zero (E:List Ed) (n:Nat):ocV (inR E n 0)=nls n:=by
 rw [←ocV_nil];congr 1;simp [inR,List.map_const']
theorem rows_set {R R':List (List Int)} {u:Nat} {x:List Int} (hu:u<R.length) (hl:R'.length=R.length) (h1:R'.getD u []=x) (h2:∀ i,i≠u→R'.getD i []=R.getD i []):(ocV R).set u (rcV x)=ocV R':=by
 rw [ocV,←List.map_set,ocV]
 congr 1
 refine List.ext_getElem (by simp [hl]) fun i a b=>?_
 rw [List.getElem_set]
 by_cases e:u=i
 ·subst e
  rw [if_pos rfl,←h1,List.getD_eq_getElem?_getD,List.getElem?_eq_getElem b];rfl
 ·rw [if_neg e]
  have:=h2 i (fun h=>e h.symm)
  rw [List.getD_eq_getElem?_getD,List.getD_eq_getElem?_getD,List.getElem?_eq_getElem b,List.getElem?_eq_getElem (by simpa using a)] at this
  exact this.symm
theorem outR_at {E:List Ed} {n k v:Nat} (h:v<n):(outR E n k).getD v []=((E.take k).filter fun e=>e.1 == (v:Int)).map (·.2):=by
 rw [outR,List.getD_eq_getElem?_getD,List.getElem?_map,List.getElem?_range h];rfl
theorem inR_at {E:List Ed} {n k v:Nat} (h:v<n):(inR E n k).getD v []=((E.take k).filter fun e=>e.2 == (v:Int)).map (·.1):=by
 rw [inR,List.getD_eq_getElem?_getD,List.getElem?_map,List.getElem?_range h];rfl
theorem getD_out {l:List (List Int)} {i:Nat} (h:l.length≤i):l.getD i []=[]:=by
 rw [List.getD_eq_getElem?_getD,List.getElem?_eq_none h];rfl
theorem outR_succ {E:List Ed} {n k u:Nat} {w:Int} (hk:k<E.length) (he:E.getD k default=((u:Int),w)) (hu:u<n):(ocV (outR E n k)).set u (.vec 1 (ints ((outR E n k).getD u []++[w])))=ocV (outR E n (k+1)):=by
 have:=rows_set (R:=outR E n k) (R':=outR E n (k+1)) (u:=u) (x:=(outR E n k).getD u []++[w]) (by rw [outR_len];exact hu) (by rw [outR_len,outR_len]) (by
  rw [outR_at hu,outR_at hu,take_snoc default hk,List.filter_append,List.map_append,he];simp) (fun i hi=>by
  by_cases h:i<n
  ·rw [outR_at h,outR_at h,take_snoc default hk,List.filter_append,List.map_append,he]
   simp;omega
  ·rw [getD_out (by rw [outR_len];omega),getD_out (by rw [outR_len];omega)])
 rw [←this,rcV,if_neg (by simp)]
theorem inR_succ {E:List Ed} {n k u:Nat} {w:Int} (hk:k<E.length) (he:E.getD k default=(w,(u:Int))) (hu:u<n):(ocV (inR E n k)).set u (.vec 1 (ints ((inR E n k).getD u []++[w])))=ocV (inR E n (k+1)):=by
 have:=rows_set (R:=inR E n k) (R':=inR E n (k+1)) (u:=u) (x:=(inR E n k).getD u []++[w]) (by rw [inR_len];exact hu) (by rw [inR_len,inR_len]) (by
  rw [inR_at hu,inR_at hu,take_snoc default hk,List.filter_append,List.map_append,he];simp) (fun i hi=>by
  by_cases h:i<n
  ·rw [inR_at h,inR_at h,take_snoc default hk,List.filter_append,List.map_append,he]
   simp;omega
  ·rw [getD_out (by rw [inR_len];omega),getD_out (by rw [inR_len];omega)])
 rw [←this,rcV,if_neg (by simp)]
theorem ocV_cut {R:List (List Int)} {u:Nat} (h:u<R.length):((ocV R).drop u).take 1=[rcV (R.getD u [])]:=by
 rw [ocV,←List.map_drop,List.drop_eq_getElem_cons h,List.getD_eq_getElem?_getD,List.getElem?_eq_getElem h];rfl
theorem set_rdc {l:List AV} {u:Nat} {x:AV} (h:u<l.length):rdc ((l.set u x).drop u) none=some x:=by
 simp [rdc,List.head?_drop,h]
theorem flat_bound {M:Nat}:∀ {rows:List (List Int)},(∀ r∈rows,r.length≤M)→rows.flatten.length≤rows.length*M
 | [],_=>by simp
 |r::rows,h=>by
  have ih:=flat_bound (M:=M) (rows:=rows) (fun x hx=>h x (by simp [hx]))
  have:=h r (by simp)
  rw [List.flatten_cons,List.length_append,List.length_cons,Nat.add_mul];omega
theorem outR_flat {E:List Ed} {n:Nat} (h:okE n E):(outR E n E.length).flatten.length≤1000000:=by
 have:=flat_bound (M:=2000) (rows:=outR E n E.length) (fun r hr=>by
  obtain ⟨v,_,rfl⟩:=List.mem_map.1 hr
  have h1:=List.length_filter_le (fun e:Ed=>e.1 == (v:Int)) (E.take E.length)
  have h2:=h.len
  rw [List.length_take] at h1
  rw [List.length_map];omega)
 rw [outR_len] at this
 have:=h.hi
 omega
theorem inR_flat {E:List Ed} {n:Nat} (h:okE n E):(inR E n E.length).flatten.length≤1000000:=by
 have:=flat_bound (M:=2000) (rows:=inR E n E.length) (fun r hr=>by
  obtain ⟨v,_,rfl⟩:=List.mem_map.1 hr
  have h1:=List.length_filter_le (fun e:Ed=>e.2 == (v:Int)) (E.take E.length)
  have h2:=h.len
  rw [List.length_take] at h1
  rw [List.length_map];omega)
 rw [inR_len] at this
 have:=h.hi
 omega
set_option maxHeartbeats 1500000 in
theorem make_run {n:Nat} {E:List Ed} (h:okE n E):runP tab 1198 [.agg (grS n E)] []=some (.tup [.agg [.vec 1 (ints (offs (outR E n E.length) n)),.vec 1 (ints (outR E n E.length).flatten),.vec 1 (ints (offs (inR E n E.length) n)),.vec 1 (ints (inR E n E.length).flatten)],.int .i64 0],[]):=by
 refine runP_fn t1198 rfl ?_
 have h1:=h.lo
 have h2:=h.hi
 have h3:=h.len
 have gi:=is_run h
 simp only [grS] at gi
 simp (disch:=omega) only [go_sem,d1198,grS,gi,tile_nils]
 refine Ev_loop0 (fun k=>⟨[(2,.ref 1 0),(4,.own 1 2),(5,.own 1 3),(20,.sl 2 (prs E)),(21,.int .i64 E.length),(22,.int .i64 (k:Int))],[.row false [.int .i64 n,.sl 2 (prs E),.sl 1 (nls n)],.row false [.nils,.nils,.nils,.nils],.row false (ocV (outR E n k)),.row false (ocV (inR E n k))],0,[(0,4,[2,4,5,20,21,22],[(2,1),(4,2),(5,3)])]⟩) E.length (by simp [outR_zero,inR_zero]) (fun k hk=>?_) ?_
 ·have e:=prs_at hk
  have p:=h.pl k hk
  obtain ⟨u,w,hx⟩:∃ u w:Nat,E.getD k default=((u:Int),(w:Int)):=⟨(E.getD k default).1.toNat,(E.getD k default).2.toNat,Prod.ext (Int.toNat_of_nonneg p.1).symm (Int.toNat_of_nonneg p.2.2.1).symm⟩
  rw [hx] at e p
  have s1:=outR_succ (n:=n) hk hx (by omega)
  have s2:=inR_succ (n:=n) hk hx (by omega)
  have l1:=outR_len E n k
  have l2:=inR_len E n k
  have c1:=ocV_cut (R:=outR E n k) (u:=u) (by omega)
  have c2:=ocV_cut (R:=inR E n k) (u:=w) (by omega)
  have m1:(ocV (outR E n k)).length=n:=by rw [ocV_len];exact l1
  have m2:(ocV (inR E n k)).length=n:=by rw [ocV_len];exact l2
  have b1:((outR E n k).getD u []).length≤2000:=by
   rw [outR_at (by omega),List.length_map]
   have:=List.length_filter_le (fun e:Ed=>e.1 == (u:Int)) (E.take k)
   rw [List.length_take] at this
   omega
  have b2:((inR E n k).getD w []).length≤2000:=by
   rw [inR_at (by omega),List.length_map]
   have:=List.length_filter_le (fun e:Ed=>e.2 == (w:Int)) (E.take k)
   rw [List.length_take] at this
   omega
  generalize (outR E n k).getD u []=ra at *
  generalize (inR E n k).getD w []=rb at *
  generalize ocV (outR E n k)=X at *
  generalize ocV (inR E n k)=Y at *
  by_cases ha:ra=[]<;>by_cases hb:rb=[]
  ·subst ha;subst hb;simp only [rcV,if_true,if_true] at c1 c2
   have er1:=set_rdc (l:=X) (u:=u) (x:=.nils) (by omega)
   have er2:=set_rdc (l:=Y) (u:=w) (x:=.nils) (by omega)
   have t1:(X.set u (.nils)).set u (.vec 1 [.int .i64 (w:Int)])=ocV (outR E n (k+1)):=by rw [List.set_set];exact s1
   have t2:(Y.set w (.nils)).set w (.vec 1 [.int .i64 (u:Int)])=ocV (inR E n (k+1)):=by rw [List.set_set];exact s2
   simp (disch:=omega) only [go_sem,d1198_b0,e,c1,c2,l1,l2,m1,m2,er1,er2]
   refine ⟨rfl,rfl,?_⟩
   simp (disch:=omega) only [go_sem,t1,t2]
  ·subst ha;simp only [rcV,if_true,if_neg hb] at c1 c2
   have er1:=set_rdc (l:=X) (u:=u) (x:=.nils) (by omega)
   have er2:=set_rdc (l:=Y) (u:=w) (x:=.own 1 6) (by omega)
   have t1:(X.set u (.nils)).set u (.vec 1 [.int .i64 (w:Int)])=ocV (outR E n (k+1)):=by rw [List.set_set];exact s1
   have t2:(Y.set w (.own 1 6)).set w (.vec 1 (ints (rb++[(u:Int)])))=ocV (inR E n (k+1)):=by rw [List.set_set];exact s2
   simp (disch:=omega) only [go_sem,d1198_b0,e,c1,c2,l1,l2,m1,m2,er1,er2]
   refine ⟨rfl,rfl,?_⟩
   simp (disch:=omega) only [go_sem,t1,t2]
  ·subst hb;simp only [rcV,if_neg ha,if_true] at c1 c2
   have er1:=set_rdc (l:=X) (u:=u) (x:=.own 1 5) (by omega)
   have er2:=set_rdc (l:=Y) (u:=w) (x:=.nils) (by omega)
   have t1:(X.set u (.own 1 5)).set u (.vec 1 (ints (ra++[(w:Int)])))=ocV (outR E n (k+1)):=by rw [List.set_set];exact s1
   have t2:(Y.set w (.nils)).set w (.vec 1 [.int .i64 (u:Int)])=ocV (inR E n (k+1)):=by rw [List.set_set];exact s2
   simp (disch:=omega) only [go_sem,d1198_b0,e,c1,c2,l1,l2,m1,m2,er1,er2]
   refine ⟨rfl,rfl,?_⟩
   simp (disch:=omega) only [go_sem,t1,t2]
  ·simp only [rcV,if_neg ha,if_neg hb] at c1 c2
   have er1:=set_rdc (l:=X) (u:=u) (x:=.own 1 5) (by omega)
   have er2:=set_rdc (l:=Y) (u:=w) (x:=.own 1 7) (by omega)
   have t1:(X.set u (.own 1 5)).set u (.vec 1 (ints (ra++[(w:Int)])))=ocV (outR E n (k+1)):=by rw [List.set_set];exact s1
   have t2:(Y.set w (.own 1 7)).set w (.vec 1 (ints (rb++[(u:Int)])))=ocV (inR E n (k+1)):=by rw [List.set_set];exact s2
   simp (disch:=omega) only [go_sem,d1198_b0,e,c1,c2,l1,l2,m1,m2,er1,er2]
   refine ⟨rfl,rfl,?_⟩
   simp (disch:=omega) only [go_sem,t1,t2]
 ·have g1:=joined_run (rows:=outR E n E.length) (by rw [outR_len];omega) (outR_flat h)
  have g2:=joined_run (rows:=inR E n E.length) (by rw [inR_len];omega) (inR_flat h)
  rw [outR_len] at g1
  rw [inR_len] at g2
  simp (disch:=omega) only [go_sem,d1198_b0,g1,g2]
end Go.Proofs.YtgiofefdfcaibaaGreat
