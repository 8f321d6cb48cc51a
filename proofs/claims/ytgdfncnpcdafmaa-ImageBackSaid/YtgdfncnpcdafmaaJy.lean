import Derived.Test.YtgdfncnpcdafmaaJq
import Derived.Test.YtgdfncnpcdafmaaJv
import Derived.Test.YtgdfncnpcdafmaaGa
import Derived.Test.YtgdfncnpcdafmaaJz
namespace Go.Proofs.Ytgdfncnpcdafmaa
set_option linter.unusedSimpArgs false
set_option linter.unusedVariables false
set_option maxHeartbeats 4000000
set_option maxRecDepth 100000
def evP (E:List Ed):AV:=if E=[] then .nils else .vec 2 (prs E)
theorem evP_nil:evP []=.nils:=rfl
theorem evP_snoc (E:List Ed) (x:Ed):evP (E++[x])=.vec 2 (prs E++[.int .i64 x.1,.int .i64 x.2]):=by
 rw [evP,if_neg (by simp)];simp [prs]
def wyS (s:Txt) (v e:Nat) (l:List Int) (n:Int) (E:List Ed) (W:Wds) (i:Nat):St:=⟨[(0,.ref 0 0),(2,.int .i64 (v:Int)),(9,.own 1 2),(10,.int .i64 l.length),(11,.int .i64 (i:Int))],[.row false [.int .i64 n,evP (E++(l.take i).map fun w=>((v:Int),w)),.vec 1 (wos W)],.row false [.str s,.int .i64 (e:Int)],.row false (ints l)],2,[(0,3,[0,2,9,10,11],[(0,0),(9,2)])]⟩
theorem ways_run {s:Txt} (hs:s.length≤1000000) {j:Nat} (hj:j≤s.length) {l:List Int} {e:Nat} (h:rdR s j=some (l,e)) {n:Int} {E:List Ed} (hE:E.length≤1000000) {W:Wds} {v:Nat} (hv:v≤1000000):runP tab 1676 [.ref 0 0,.ref 1 0,.int .i64 (v:Int)] [.row false [.int .i64 n,evP E,.vec 1 (wos W)],.row false [.str s,.int .i64 (j:Int)]]=some (.tup [],[.row false [.int .i64 n,evP (E++l.map fun w=>((v:Int),w)),.vec 1 (wos W)],.row false [.str s,.int .i64 (e:Int)]]):=by
 have b:=rdR_le h
 have g:=srow_run hs hj h
 have L:=ints_length l
 refine runP_fn t1676 rfl ?_
 simp (disch:=omega) only [go_sem,d1676,g,L]
 refine Ev_loop0 (wyS s v e l n E W) l.length (by simp [wyS]) (fun i hi=>?_) ?_
 ·have e1:=ints_rdc0 hi
  have b9:(E++(l.take i).map fun w=>((v:Int),w)).length≤1004000:=by
   rw [List.length_append,List.length_map,List.length_take];omega
  unfold wyS
  rw [take_snoc 0 hi,List.map_append,←List.append_assoc,List.map_cons,List.map_nil,evP_snoc]
  generalize E++(l.take i).map (fun w=>((v:Int),w))=D at *
  generalize l.getD i 0=x at *
  cases D with
  | nil=>
   simp (disch:=omega) only [go_sem,d1676_b0,L,e1,evP_nil]
   rfl
  | cons d D=>
   have e2:evP (d::D)=.vec 2 (prs (d::D)):=by rw [evP,if_neg (by simp)]
   rw [e2]
   generalize d::D=D at *
   simp (disch:=omega) only [go_sem,d1676_b0,L,e1]
 ·unfold wyS
  rw [List.take_length]
  generalize hD:E++l.map (fun w=>((v:Int),w))=D at *
  cases D with
  | nil=>simp (disch:=omega) only [go_sem,d1676_b0,L,evP_nil]
  | cons d D=>
   have e2:evP (d::D)=.vec 2 (prs (d::D)):=by rw [evP,if_neg (by simp)]
   rw [e2]
   generalize d::D=D at *
   simp (disch:=omega) only [go_sem,d1676_b0,L]
theorem wosX_cut {W:Wds} {i:Nat} (h:i<W.length):((wos W).drop i).take 1=[wo (W.getD i none)]:=by
 rw [wos,←List.map_drop,List.drop_eq_getElem_cons h,List.getD_eq_getElem?_getD,List.getElem?_eq_getElem h];rfl
def owd (w:List Txt):Option (List Txt):=if w=[] then none else some w
def woX (s:Txt) (v m j:Nat) (n:Int) (E:List Ed) (W:Wds) (acc:List Txt):St:=⟨[(0,.ref 0 0),(1,.ref 1 0),(2,.int .i64 (v:Int)),(7,.int .i64 (m:Int)),(8,.int .i64 (acc.length:Int))],[.row false [.int .i64 n,evP E,.vec 1 (wos (W.set v (owd acc)))],.row false [.str s,.int .i64 (j:Int)]],2,[(0,2,[0,1,2,7,8],[(0,0),(1,1)])]⟩
theorem words_step {s:Txt} (hs:s.length≤1000000) {j':Nat} (h4:j'≤s.length) {t:Txt} {e':Nat} (h5:rdT s j'=some (t,e')) {n:Int} {E:List Ed} (hE:E.length≤1000000) {W:Wds} (hW:W.length≤1000) {v m:Nat} (hv:v<W.length) {acc:List Txt} (hm:acc.length<m) (hm8:m≤8):Ev tab d1677_b0 (woX s v m j' n E W acc) (fun x st=>x=.normal∧st=woX s v m e' n E W (acc++[t])):=by
 have L:=strs_length acc
 have g2:=stext_run hs h4 h5
 have b3:=rdT_sound h5
 have e3:((acc++[t]).length:Int)=(acc.length:Int)+1:=by simp
 unfold woX
 rw [e3]
 have c1:=wosX_cut (W:=W.set v (owd acc)) (i:=v) (by rw [List.length_set];exact hv)
 have c2:(W.set v (owd acc)).getD v none=owd acc:=by
  rw [List.getD_eq_getElem?_getD,List.getElem?_set_self hv];rfl
 rw [c2] at c1
 have m1:(wos (W.set v (owd acc))).length=W.length:=by rw [wos_len,List.length_set]
 have t0:(wos (W.set v (owd acc))).set v (.vec 1 (strs (acc++[t])))=wos (W.set v (owd (acc++[t]))):=by
  rw [wos_set,List.set_set,owd,if_neg (by simp)]
 have em:strs acc++[.str t]=strs (acc++[t]):=by simp [strs]
 generalize wos (W.set v (owd acc))=X at *
 cases E with
 | nil=>
  rw [evP_nil]
  by_cases ha:acc=[]
  ·subst ha
   simp only [owd,if_true,wo] at c1
   have er1:=set_rdc (l:=X) (u:=v) (x:=.nils) (by omega)
   have t1:X.set v (.vec 1 [.str t])=wos (W.set v (owd ([]++[t]))):=t0
   simp (disch:=omega) only [go_sem,d1677_b0,g2,L,c1,m1,er1,em,List.set_set,t1]
   rfl
  ·simp only [owd,if_neg ha,wo] at c1
   have er1:=set_rdc (l:=X) (u:=v) (x:=.own 1 3) (by omega)
   simp (disch:=omega) only [go_sem,d1677_b0,g2,L,c1,m1,er1,em,List.set_set,t0]
   rfl
 | cons d D=>
  have e2:evP (d::D)=.vec 2 (prs (d::D)):=by rw [evP,if_neg (by simp)]
  rw [e2]
  generalize d::D=D at *
  by_cases ha:acc=[]
  ·subst ha
   simp only [owd,if_true,wo] at c1
   have er1:=set_rdc (l:=X) (u:=v) (x:=.nils) (by omega)
   have t1:X.set v (.vec 1 [.str t])=wos (W.set v (owd ([]++[t]))):=t0
   simp (disch:=omega) only [go_sem,d1677_b0,g2,L,c1,m1,er1,em,List.set_set,t1]
   rfl
  ·simp only [owd,if_neg ha,wo] at c1
   have er1:=set_rdc (l:=X) (u:=v) (x:=.own 1 4) (by omega)
   simp (disch:=omega) only [go_sem,d1677_b0,g2,L,c1,m1,er1,em,List.set_set,t0]
   rfl
theorem words_run {s:Txt} (hs:s.length≤1000000) {j:Nat} (hj:j≤s.length) {w:List Txt} {e:Nat} (h:rdWd s j=some (w,e)) {n:Int} {E:List Ed} (hE:E.length≤1000000) {W:Wds} (hW:W.length≤1000) {v:Nat} (hv:v<W.length) (h0:W.getD v none=none):runP tab 1677 [.ref 0 0,.ref 1 0,.int .i64 (v:Int)] [.row false [.int .i64 n,evP E,.vec 1 (wos W)],.row false [.str s,.int .i64 (j:Int)]]=some (.tup [],[.row false [.int .i64 n,evP E,.vec 1 (wos (W.set v (owd w)))],.row false [.str s,.int .i64 (e:Int)]]):=by
 have hW0:W.set v (owd [])=W:=by
  rw [List.getD_eq_getElem?_getD,List.getElem?_eq_getElem hv] at h0
  simp only [Option.getD_some] at h0
  refine List.ext_getElem (by simp) fun i h1 h2=>?_
  rw [List.getElem_set]
  split
  ·rename_i he;subst he;rw [h0];rfl
  ·rfl
 unfold rdWd rowsG at h
 cases h2:rdL 8 s j with
 | none=>rw [h2] at h;cases h
 | some q=>
  obtain ⟨m,j1⟩:=q
  rw [h2] at h
  simp only at h
  obtain ⟨g0,hm⟩:=rdL_sound h2
  have b:=rdN_sound g0
  have g:=snum_run hs g0 (most:=8) (by omega)
  unfold rdr at g
  refine runP_fn t1677 rfl ?_
  simp (disch:=omega) only [go_sem,d1677,g]
  refine Ev_inv (fun k st=>∃ (acc:List Txt) (j':Nat),repsG rdT k s j' acc=some (w,e)∧acc.length+k=m∧j'≤s.length∧st=woX s v m j' n E W acc) ?_ (i:=m) ⟨[],j1,h,by simp,by omega,by simp [woX,hW0]⟩
  rintro k st ⟨acc,j',h1,h3,h4,rfl⟩
  have L:=strs_length acc
  cases k with
  | succ k=>
   simp only [repsG] at h1
   cases h5:rdT s j' with
   | none=>rw [h5] at h1;cases h1
   | some q=>
    obtain ⟨t,e'⟩:=q
    rw [h5] at h1
    simp only at h1
    have g2:=words_step (n:=n) (E:=E) (W:=W) (v:=v) (acc:=acc) hs h4 h5 hE hW hv (m:=m) (by omega) hm
    have b3:=rdT_sound h5
    refine Ev_mono g2 ?_
    rintro x st ⟨rfl,rfl⟩
    exact .inl ⟨rfl,k,by omega,acc++[t],e',h1,by simp;omega,by omega,rfl⟩
  | zero=>
   simp only [repsG,Option.some.injEq,Prod.mk.injEq] at h1
   obtain ⟨rfl,rfl⟩:=h1
   unfold woX
   cases E with
   | nil=>
    simp (disch:=omega) only [go_sem,d1677_b0,L,evP_nil]
   | cons d D=>
    have e2:evP (d::D)=.vec 2 (prs (d::D)):=by rw [evP,if_neg (by simp)]
    rw [e2]
    generalize d::D=D at *
    simp (disch:=omega) only [go_sem,d1677_b0,L]
def wdN (acc:List Pic3) (k:Nat):Wds:=wdPc acc++List.replicate k none
theorem wdN_len (acc:List Pic3) (k:Nat):(wdN acc k).length=acc.length+k:=by simp [wdN,wdPc]
theorem wdN_get (acc:List Pic3) (k:Nat):(wdN acc k).getD acc.length none=none:=by
 rw [wdN,List.getD_eq_getElem?_getD,List.getElem?_append_right (by rw [wdP_len];exact Nat.le_refl _)]
 cases k<;>simp [wdP_len]
theorem wdN_set (acc:List Pic3) (k:Nat) (p:Pic3):(wdN acc (k+1)).set acc.length (owd p.2)=wdN (acc++[p]) k:=by
 have e:wdPc (acc++[p])=wdPc acc++[owd p.2]:=by simp [wdPc,owd]
 rw [wdN,wdN,List.set_append_right _ _ (by rw [wdP_len];exact Nat.le_refl _),wdP_len,Nat.sub_self,e,List.append_assoc]
 simp [List.replicate_succ]
def rgB (s:Txt) (n j:Nat) (E:List Ed) (W:Wds):List Blk:=[.row false [.str s,.int .i64 (j:Int)],.row false [.int .i64 0,.nils,.nils],.dead,.row false [.int .i64 (n:Int),evP E,.vec 1 (wos W)],.row false [.clo 1676 [] [],.clo 1677 [] []]]
def rgS (s:Txt) (n j:Nat) (acc:List Pic3) (k:Nat):St:=⟨[(0,.ref 0 0),(2,.ref 1 0),(4,.ref 3 0),(5,.ref 4 0),(20,.int .i64 (n:Int)),(21,.int .i64 (acc.length:Int))],rgB s n j (edPc 0 acc) (wdN acc k),1,[(0,5,[0,2,4,5,20,21],[(0,0),(2,1),(4,3),(5,4)])]⟩
def rgI (s:Txt) (n v j:Nat) (E:List Ed) (W:Wds) (i:Nat):St:=⟨[(0,.ref 0 0),(2,.ref 1 0),(4,.ref 3 0),(5,.ref 4 0),(6,.int .i64 (v:Int)),(20,.int .i64 (n:Int)),(21,.int .i64 (v:Int)),(24,.agg [.clo 1676 [] [],.clo 1677 [] []]),(25,.int .i64 (i:Int))],rgB s n j E W,1,[(1,5,[0,2,4,5,6,20,21,24,25],[(0,0),(2,1),(4,3),(5,4)]),(0,5,[0,2,4,5,20,21],[(0,0),(2,1),(4,3),(5,4)])]⟩
theorem evP_idlt (k:Nat) (E:List Ed):AV.allv (pidlt k) (evP E)=true:=by
 unfold evP;split
 ·rfl
 ·simp [AV.allv,prs_idlt',pidlt]
theorem evP_noid (E:List Ed):AV.allv pnoid (evP E)=true:=by
 unfold evP;split
 ·rfl
 ·simp [AV.allv,prs_noid',pnoid]
theorem evP_okc (E:List Ed):AV.okc (evP E)=true:=by unfold evP;split<;>rfl
theorem evP_ids (E:List Ed):AV.ids (evP E)=[]:=by
 unfold evP;split
 ·rfl
 ·simp [AV.ids,prs_ids]
theorem dd30:(if ([3]:List Nat).contains 0=true then [3] else [0,3]).reverse=[3,0]:=rfl
theorem ix33:idxOf [3,0] 3=0:=rfl
theorem ix30:idxOf [3,0] 0=1:=rfl
theorem rdPl_parts {s:Txt} {j e:Nat} {p:Pic3} (h:rdPl s j=some (p,e)):∃ e1,rdR s j=some (p.1,e1)∧rdWd s e1=some (p.2,e):=by
 unfold rdPl at h
 split at h
 ·rename_i l e1 h1
  split at h
  ·rename_i w e2 h2
   simp only [Option.some.injEq,Prod.mk.injEq] at h
   obtain ⟨rfl,rfl⟩:=h
   exact ⟨e1,h1,h2⟩
  ·cases h
 ·cases h
theorem rg_ways {s:Txt} {n v j e:Nat} {E E':List Ed} {W:Wds} (gw:runP tab 1676 [.ref 0 0,.ref 1 0,.int .i64 (v:Int)] [.row false [.int .i64 (n:Int),evP E,.vec 1 (wos W)],.row false [.str s,.int .i64 (j:Int)]]=some (.tup [],[.row false [.int .i64 (n:Int),evP E',.vec 1 (wos W)],.row false [.str s,.int .i64 (e:Int)]])):Ev tab d1672_b1 (rgI s n v j E W 0) (fun x st=>x=.normal∧st=rgI s n v e E' W 1):=by
 unfold rgI rgB
 simp (disch:=omega) only [go_sem,d1672_b1,gw,evP_idlt,evP_noid,evP_okc,evP_ids,dd30,ix33,ix30]
theorem rg_words {s:Txt} {n v j e:Nat} {E:List Ed} {W W':Wds} (gx:runP tab 1677 [.ref 0 0,.ref 1 0,.int .i64 (v:Int)] [.row false [.int .i64 (n:Int),evP E,.vec 1 (wos W)],.row false [.str s,.int .i64 (j:Int)]]=some (.tup [],[.row false [.int .i64 (n:Int),evP E,.vec 1 (wos W')],.row false [.str s,.int .i64 (e:Int)]])):Ev tab d1672_b1 (rgI s n v j E W 1) (fun x st=>x=.normal∧st=rgI s n v e E W' 2):=by
 unfold rgI rgB
 simp (disch:=omega) only [go_sem,d1672_b1,gx,evP_idlt,evP_noid,evP_okc,evP_ids,dd30,ix33,ix30]
 rfl
theorem gread_step {s:Txt} (hs:s.length≤1000000) {n j' e' k:Nat} {acc:List Pic3} {p:Pic3} (h5:rdPl s j'=some (p,e')) (h3:acc.length+(k+1)=n) (hn:n≤200) (h4:j'≤s.length) (h6:∀ p∈acc,okPl3 p):Ev tab d1672_b0 (rgS s n j' acc (k+1)) (fun x st=>x=.normal∧st=rgS s n e' (acc++[p]) k):=by
 have e3:((acc++[p]).length:Int)=(acc.length:Int)+1:=by simp
 unfold rgS rgB
 rw [e3]
 simp (disch:=omega) only [go_sem,d1672_b0]
 obtain ⟨e1,q1,q2⟩:=rdPl_parts h5
 have r1:=rdR_le q1
 obtain ⟨k1,k2,k3,k4⟩:=pl_cdc.snd h4 h5
 have b7:=edPc_len h6 0
 have b8:=k1.1.1
 have gw:=ways_run (n:=(n:Int)) (v:=acc.length) (W:=wdN acc (k+1)) (E:=edPc 0 acc) hs h4 q1 (by omega) (by omega)
 have gx:=words_run (n:=(n:Int)) (v:=acc.length) (W:=wdN acc (k+1)) (E:=edPc 0 acc++p.1.map fun w=>((acc.length:Int),w)) hs r1.2.1 q2 (by rw [List.length_append,List.length_map];omega) (by rw [wdN_len];omega) (by rw [wdN_len];omega) (wdN_get acc (k+1))
 have e4:edPc 0 acc++p.1.map (fun w=>((acc.length:Int),w))=edPc 0 (acc++[p]):=by rw [edP_snoc,Nat.zero_add]
 rw [wdN_set,e4] at gx
 rw [e4] at gw
 refine Ev_loop0 (fun i=>match i with
  | 0=>rgI s n acc.length j' (edPc 0 acc) (wdN acc (k+1)) 0
  | 1=>rgI s n acc.length e1 (edPc 0 (acc++[p])) (wdN acc (k+1)) 1
  | _=>rgI s n acc.length e' (edPc 0 (acc++[p])) (wdN (acc++[p]) k) 2) 2 (by simp [rgI,rgB]) (fun i hi=>?_) ?_
 ·match i,hi with
  | 0,_=>exact rg_ways gw
  | 1,_=>exact rg_words gx
 ·unfold rgI rgB
  generalize edPc 0 (acc++[p])=E' at *
  simp (disch:=omega) only [go_sem,d1672_b1,evP_idlt,evP_noid,evP_okc,evP_ids]
theorem gread_run {s:Txt} (hs:s.length≤1000000) {L:List Pic3} {e:Nat} (h:rdIm s=some (L,e)):runP tab 1672 [.ref 0 0] [.row false [.str s,.int .i64 0]]=some (.agg (gV L.length (edPc 0 L) (wdPc L)),[.row false [.str s,.int .i64 (e:Int)]]):=by
 unfold rdIm at h
 split at h
 case isFalse=>cases h
 rename_i hc
 obtain ⟨c1,c2⟩:=hc
 have gm:=mark_run hs c1 c2
 unfold rowsG at h
 cases h2:rdL 200 s 2 with
 | none=>rw [h2] at h;cases h
 | some q=>
  obtain ⟨n,j⟩:=q
  rw [h2] at h
  simp only at h
  obtain ⟨g0,hn⟩:=rdL_sound h2
  have b:=rdN_sound g0
  have g:=snum_run hs g0 (most:=200) (by omega)
  unfold rdr at g
  rw [show ((2:Nat):Int)=2 from rfl] at g
  refine runP_fn t1672 rfl ?_
  have tn:tile n [.nils]=wos (wdN [] n):=by rw [tile_nils,wos_nls,wdN];rfl
  have wn:=wdN_len [] n
  simp (disch:=omega) only [go_sem,d1672,gm,g,tn]
  refine Ev_inv (fun k st=>∃ (acc:List Pic3) (j':Nat),repsG rdPl k s j' acc=some (L,e)∧acc.length+k=n∧j'≤s.length∧(∀ p∈acc,okPl3 p)∧st=rgS s n j' acc k) ?_ (i:=n) ⟨[],j,h,by simp,by omega,by simp,by simp [rgS,rgB,edPc,evP]⟩
  rintro k st ⟨acc,j',h1,h3,h4,h6,rfl⟩
  cases k with
  | succ k=>
   simp only [repsG] at h1
   cases h5:rdPl s j' with
   | none=>rw [h5] at h1;cases h1
   | some q=>
    obtain ⟨p,e'⟩:=q
    rw [h5] at h1
    simp only at h1
    obtain ⟨k1,k2,k3,k4⟩:=pl_cdc.snd h4 h5
    refine Ev_mono (gread_step hs h5 (by omega) hn h4 h6) ?_
    rintro x st ⟨rfl,rfl⟩
    exact .inl ⟨rfl,k,by omega,acc++[p],e',h1,by simp;omega,k3,fun x hx=>by
     rcases List.mem_append.1 hx with hx | hx
     ·exact h6 x hx
     ·rw [List.mem_singleton.1 hx];exact k1,rfl⟩
  | zero=>
   simp only [repsG,Option.some.injEq,Prod.mk.injEq] at h1
   obtain ⟨rfl,rfl⟩:=h1
   obtain rfl:n=acc.length:=by omega
   unfold rgS rgB
   have e0:wdN acc 0=wdPc acc:=by simp [wdN]
   rw [e0]
   generalize wdPc acc=W at *
   generalize edPc 0 acc=E at *
   cases E with
   | nil=>
    simp (disch:=omega) only [go_sem,d1672_b0,evP_nil]
    rfl
   | cons d D=>
    have e2:evP (d::D)=.vec 2 (prs (d::D)):=by rw [evP,if_neg (by simp)]
    rw [e2]
    generalize d::D=D at *
    simp (disch:=omega) only [go_sem,d1672_b0]
    rfl
end Go.Proofs.Ytgdfncnpcdafmaa
