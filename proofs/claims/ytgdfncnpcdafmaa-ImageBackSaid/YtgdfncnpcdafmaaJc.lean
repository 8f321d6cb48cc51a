import Derived.Test.YtgdfncnpcdafmaaJy
import Derived.Test.YtgdfncnpcdafmaaPd
namespace Go.Proofs.Ytgdfncnpcdafmaa
set_option linter.unusedSimpArgs false
set_option linter.unusedVariables false
set_option maxHeartbeats 4000000
set_option maxRecDepth 100000
section
variable {P:Program}
theorem mark_dies (G:Good P fid tab) (N:NeedIs P) {s:Txt} (hs:s.length≤1000000) (h:¬ (2≤s.length∧s.take 2=[119,103])):DiesC P fid 1470 [.ref 0 0,.str [119,103]] [.row false [.str s,.int .i64 0]]:=by
 refine D_fn G t1470 ?_
 have hn:=needs G N []
 simp only [d1470,bindParams]
 refine D_seq2 G ?_
 simp (disch:=omega) only [go_sem]
 refine D_ghost (st1:=⟨_,_,_,_⟩) rfl (D_seq1 ?_)
 refine D_opsC G 21 (.tup []) rfl ?_
 by_cases h2:2≤s.length
 ·have h3:(s.take 2 == [119,103])=false:=by
   simp only [beq_eq_false_iff_ne,ne_eq]
   exact fun e=>h ⟨h2,e⟩
  simp (disch:=omega) only [go_sem,h3,keepEnv,List.take_succ_cons,List.take_zero,List.drop_succ_cons,List.drop_zero]
  exact ⟨⟨1444,_,_,_,rfl,rfl,rfl,rfl,hn⟩,DrF_end rfl⟩
 ·simp (disch:=omega) only [go_sem,keepEnv,List.take_succ_cons,List.take_zero,List.drop_succ_cons,List.drop_zero]
  exact ⟨⟨1444,_,_,_,rfl,rfl,rfl,rfl,hn⟩,DrF_end rfl⟩
theorem nmL_dies (G:Good P fid tab) (N:NeedIs P) {s:Txt} (hs:s.length≤1000000) {i:Nat} (hi:i≤s.length) {m:Nat} (h:rdL m s i=none):DiesC P fid 1445 [.ref 0 0,.int .i64 (m:Int)] [.row false [.str s,.int .i64 (i:Int)]]:=
 snum_dies G N hs hi fun n j hr=>by have:=rdL_none h n j hr;omega
theorem ways_dies (G:Good P fid tab) (N:NeedIs P) {s:Txt} (hs:s.length≤1000000) {j:Nat} (hj:j≤s.length) (h:rdR s j=none) {n:Int} {E:List Ed} {W:Wds} {v:Nat}:DiesC P fid 1676 [.ref 0 0,.ref 1 0,.int .i64 (v:Int)] [.row false [.int .i64 n,evP E,.vec 1 (wos W)],.row false [.str s,.int .i64 (j:Int)]]:=by
 refine D_fn G t1676 ?_
 have hn:=srow_dies G N hs hj h
 simp only [d1676,bindParams]
 refine D_seq1 (D_ops (DO_take G 1 ?_))
 simp (disch:=omega) only [go_sem,List.take_succ_cons,List.take_zero,List.drop_succ_cons,List.drop_zero]
 exact DO_call rfl rfl rfl hn trivial
theorem words_dies (G:Good P fid tab) (N:NeedIs P) {s:Txt} (hs:s.length≤1000000) {j:Nat} (hj:j≤s.length) (h:rdWd s j=none) {n:Int} {E:List Ed} (hE:E.length≤1000000) {W:Wds} (hW:W.length≤1000) {v:Nat} (hv:v<W.length) (h0:W.getD v none=none):DiesC P fid 1677 [.ref 0 0,.ref 1 0,.int .i64 (v:Int)] [.row false [.int .i64 n,evP E,.vec 1 (wos W)],.row false [.str s,.int .i64 (j:Int)]]:=by
 refine D_fn G t1677 ?_
 simp only [d1677,bindParams]
 unfold rdWd rowsG at h
 cases h2:rdL 8 s j with
 | none=>
  have hn:=nmL_dies G N hs hj h2
  simp only [Int.cast_ofNat_Int] at hn
  refine D_seq1 (D_ops (DO_take G 1 ?_))
  simp (disch:=omega) only [go_sem,List.take_succ_cons,List.take_zero,List.drop_succ_cons,List.drop_zero]
  exact DO_call rfl rfl rfl hn trivial
 | some q=>
  obtain ⟨m,j1⟩:=q
  rw [h2] at h
  simp only at h
  obtain ⟨g0,hm⟩:=rdL_sound h2
  have b:=rdN_sound g0
  have g:=snum_run hs g0 (most:=8) (by omega)
  unfold rdr at g
  refine D_seq2 G ?_
  simp (disch:=omega) only [go_sem,g]
  have hW0:W.set v (owd [])=W:=by
   rw [List.getD_eq_getElem?_getD,List.getElem?_eq_getElem hv] at h0
   simp only [Option.getD_some] at h0
   refine List.ext_getElem (by simp) fun i h1 h2=>?_
   rw [List.getElem_set]
   split
   ·rename_i he;subst he;rw [h0];rfl
   ·rfl
  refine D_block (D_ghost (st1:=woX s v m j1 n E W []) (by rw [woX,hW0];rfl) ?_)
  refine D_loop G (fun k st=>∃ (acc:List Txt) (j':Nat),repsG rdT k s j' acc=none∧acc.length+k=m∧j'≤s.length∧st=woX s v m j' n E W acc) ?_ (n:=m) ⟨[],j1,h,by simp,by omega,rfl⟩
  rintro k st ⟨acc,j',h1,h3,h4,rfl⟩
  cases k with
  | zero=>cases h1
  | succ k=>
   simp only [repsG] at h1
   cases h5:rdT s j' with
   | some q=>
    obtain ⟨t,e'⟩:=q
    rw [h5] at h1
    simp only at h1
    have b3:=rdT_sound h5
    refine .inr (Ev_mono (words_step (n:=n) (E:=E) (W:=W) (v:=v) (acc:=acc) hs h4 h5 hE hW hv (m:=m) (by omega) hm) ?_)
    rintro x st ⟨rfl,rfl⟩
    exact ⟨rfl,k,by omega,acc++[t],e',h1,by simp;omega,by omega,rfl⟩
   | none=>
    have gt:=stext_dies G N hs h4 h5
    refine .inl ?_
    unfold d1677_b0 woX
    refine D_after (D_seq2 G ?_)
    have L:=strs_length acc
    simp (disch:=omega) only [go_sem]
    refine D_seq2 G ?_
    simp (disch:=omega) only [go_sem]
    refine D_seq1 (D_block ?_)
    have c1:=wosX_cut (W:=W.set v (owd acc)) (i:=v) (by rw [List.length_set];exact hv)
    have c2:(W.set v (owd acc)).getD v none=owd acc:=by
     rw [List.getD_eq_getElem?_getD,List.getElem?_set_self hv];rfl
    rw [c2] at c1
    have m1:(wos (W.set v (owd acc))).length=W.length:=by rw [wos_len,List.length_set]
    generalize wos (W.set v (owd acc))=X at *
    cases E with
    | nil=>
     rw [evP_nil]
     by_cases ha:acc=[]
     ·subst ha
      simp only [owd,if_true,wo] at c1
      have er1:=set_rdc (l:=X) (u:=v) (x:=.nils) (by omega)
      refine D_ghost (st1:=⟨[(9,.bool true),(0,.ref 0 0),(1,.ref 1 0),(2,.int .i64 (v:Int)),(7,.int .i64 (m:Int)),(8,.int .i64 ((([]:List Txt).length:Nat):Int))],[.row false [.int .i64 n,.nils,.own 1 2],.row false [.str s,.int .i64 (j':Int)],.row false X],2,[(0,2,[0,1,2,7,8],[(0,0),(1,1)])]⟩) rfl ?_
      refine D_ghost (st1:=⟨[(9,.bool true),(0,.ref 0 0),(1,.ref 1 0),(2,.int .i64 (v:Int)),(7,.int .i64 (m:Int)),(8,.int .i64 ((([]:List Txt).length:Nat):Int))],[.row false [.int .i64 n,.nils,.own 1 2],.row false [.str s,.int .i64 (j':Int)],.row false (X.set v .nils)],2,[(0,2,[0,1,2,7,8],[(0,0),(1,1)])]⟩) (by simp (disch:=omega) only [go_sem,c1,m1]) ?_
      refine D_opsC G 15 (.str []) rfl ?_
      simp (disch:=omega) only [go_sem,m1,er1,List.length_set,List.take_succ_cons,List.take_zero,List.drop_succ_cons,List.drop_zero]
      refine ⟨⟨1650,_,_,_,rfl,rfl,rfl,rfl,gt⟩,DrF_run G 4 ?_⟩
      simp (disch:=omega) only [go_sem,St.put,m1,er1,L,List.length_set,List.take_succ_cons,List.take_zero,List.drop_succ_cons,List.drop_zero]
      exact DrF_end rfl
     ·skip
      simp only [owd,if_neg ha,wo] at c1
      have er1:=set_rdc (l:=X) (u:=v) (x:=.own 1 3) (by omega)
      refine D_ghost (st1:=⟨[(9,.bool true),(0,.ref 0 0),(1,.ref 1 0),(2,.int .i64 (v:Int)),(7,.int .i64 (m:Int)),(8,.int .i64 (acc.length:Int))],[.row false [.int .i64 n,.nils,.own 1 2],.row false [.str s,.int .i64 (j':Int)],.row false X],2,[(0,2,[0,1,2,7,8],[(0,0),(1,1)])]⟩) rfl ?_
      refine D_ghost (st1:=⟨[(9,.bool true),(0,.ref 0 0),(1,.ref 1 0),(2,.int .i64 (v:Int)),(7,.int .i64 (m:Int)),(8,.int .i64 (acc.length:Int))],[.row false [.int .i64 n,.nils,.own 1 2],.row false [.str s,.int .i64 (j':Int)],.row false (X.set v (.own 1 3)),.row false (strs acc)],2,[(0,2,[0,1,2,7,8],[(0,0),(1,1)])]⟩) (by simp (disch:=omega) only [go_sem,c1,m1]) ?_
      refine D_opsC G 15 (.str []) rfl ?_
      simp (disch:=omega) only [go_sem,m1,er1,List.length_set,List.take_succ_cons,List.take_zero,List.drop_succ_cons,List.drop_zero]
      refine ⟨⟨1650,_,_,_,rfl,rfl,rfl,rfl,gt⟩,DrF_run G 4 ?_⟩
      simp (disch:=omega) only [go_sem,St.put,m1,er1,L,List.length_set,List.take_succ_cons,List.take_zero,List.drop_succ_cons,List.drop_zero]
      exact DrF_end rfl
    | cons d D=>
     have e2:evP (d::D)=.vec 2 (prs (d::D)):=by rw [evP,if_neg (by simp)]
     rw [e2]
     generalize d::D=D at *
     by_cases ha:acc=[]
     ·subst ha
      simp only [owd,if_true,wo] at c1
      have er1:=set_rdc (l:=X) (u:=v) (x:=.nils) (by omega)
      refine D_ghost (st1:=⟨[(9,.bool true),(0,.ref 0 0),(1,.ref 1 0),(2,.int .i64 (v:Int)),(7,.int .i64 (m:Int)),(8,.int .i64 ((([]:List Txt).length:Nat):Int))],[.row false [.int .i64 n,.own 2 2,.own 1 3],.row false [.str s,.int .i64 (j':Int)],.row false (prs D),.row false X],2,[(0,2,[0,1,2,7,8],[(0,0),(1,1)])]⟩) rfl ?_
      refine D_ghost (st1:=⟨[(9,.bool true),(0,.ref 0 0),(1,.ref 1 0),(2,.int .i64 (v:Int)),(7,.int .i64 (m:Int)),(8,.int .i64 ((([]:List Txt).length:Nat):Int))],[.row false [.int .i64 n,.own 2 2,.own 1 3],.row false [.str s,.int .i64 (j':Int)],.row false (prs D),.row false (X.set v .nils)],2,[(0,2,[0,1,2,7,8],[(0,0),(1,1)])]⟩) (by simp (disch:=omega) only [go_sem,c1,m1]) ?_
      refine D_opsC G 15 (.str []) rfl ?_
      simp (disch:=omega) only [go_sem,m1,er1,List.length_set,List.take_succ_cons,List.take_zero,List.drop_succ_cons,List.drop_zero]
      refine ⟨⟨1650,_,_,_,rfl,rfl,rfl,rfl,gt⟩,DrF_run G 4 ?_⟩
      simp (disch:=omega) only [go_sem,St.put,m1,er1,L,List.length_set,List.take_succ_cons,List.take_zero,List.drop_succ_cons,List.drop_zero]
      exact DrF_end rfl
     ·skip
      simp only [owd,if_neg ha,wo] at c1
      have er1:=set_rdc (l:=X) (u:=v) (x:=.own 1 4) (by omega)
      refine D_ghost (st1:=⟨[(9,.bool true),(0,.ref 0 0),(1,.ref 1 0),(2,.int .i64 (v:Int)),(7,.int .i64 (m:Int)),(8,.int .i64 (acc.length:Int))],[.row false [.int .i64 n,.own 2 2,.own 1 3],.row false [.str s,.int .i64 (j':Int)],.row false (prs D),.row false X],2,[(0,2,[0,1,2,7,8],[(0,0),(1,1)])]⟩) rfl ?_
      refine D_ghost (st1:=⟨[(9,.bool true),(0,.ref 0 0),(1,.ref 1 0),(2,.int .i64 (v:Int)),(7,.int .i64 (m:Int)),(8,.int .i64 (acc.length:Int))],[.row false [.int .i64 n,.own 2 2,.own 1 3],.row false [.str s,.int .i64 (j':Int)],.row false (prs D),.row false (X.set v (.own 1 4)),.row false (strs acc)],2,[(0,2,[0,1,2,7,8],[(0,0),(1,1)])]⟩) (by simp (disch:=omega) only [go_sem,c1,m1]) ?_
      refine D_opsC G 15 (.str []) rfl ?_
      simp (disch:=omega) only [go_sem,m1,er1,List.length_set,List.take_succ_cons,List.take_zero,List.drop_succ_cons,List.drop_zero]
      refine ⟨⟨1650,_,_,_,rfl,rfl,rfl,rfl,gt⟩,DrF_run G 4 ?_⟩
      simp (disch:=omega) only [go_sem,St.put,m1,er1,L,List.length_set,List.take_succ_cons,List.take_zero,List.drop_succ_cons,List.drop_zero]
      exact DrF_end rfl
theorem gread_dies (G:Good P fid tab) (N:NeedIs P) {s:Txt} (hs:s.length≤1000000) (h:rdIm s=none):DiesC P fid 1672 [.ref 0 0] [.row false [.str s,.int .i64 0]]:=by
 refine D_fn G t1672 ?_
 simp only [d1672,bindParams]
 refine D_seq2 G ?_
 simp (disch:=omega) only [go_sem]
 unfold rdIm at h
 by_cases hc:2≤s.length∧s.take 2=[119,103]
 case neg=>
  have hn:=mark_dies G N hs hc
  refine D_seq1 (D_ops (DO_take G 1 ?_))
  simp (disch:=omega) only [go_sem,List.take_succ_cons,List.take_zero,List.drop_succ_cons,List.drop_zero]
  exact DO_call rfl rfl rfl hn trivial
 rw [if_pos hc] at h
 obtain ⟨c1,c2⟩:=hc
 have gm:=mark_run hs c1 c2
 refine D_seq2 G ?_
 simp (disch:=omega) only [go_sem,gm]
 unfold rowsG at h
 cases h2:rdL 200 s 2 with
 | none=>
  have hn:=nmL_dies G N hs c1 h2
  simp only [Int.cast_ofNat_Int] at hn
  refine D_seq1 (D_ops (DO_take G 1 ?_))
  simp (disch:=omega) only [go_sem,List.take_succ_cons,List.take_zero,List.drop_succ_cons,List.drop_zero]
  exact DO_call rfl rfl rfl hn trivial
 | some q=>
  obtain ⟨n,j⟩:=q
  rw [h2] at h
  simp only at h
  obtain ⟨g0,hn⟩:=rdL_sound h2
  have b:=rdN_sound g0
  have g:=snum_run hs g0 (most:=200) (by omega)
  unfold rdr at g
  rw [show ((2:Nat):Int)=2 from rfl] at g
  have tn:tile n [.nils]=wos (wdN [] n):=by rw [tile_nils,wos_nls,wdN];rfl
  have wn:=wdN_len [] n
  refine D_seq2 G ?_
  simp (disch:=omega) only [go_sem,g]
  refine D_seq2 G ?_
  simp (disch:=omega) only [go_sem,tn]
  refine D_ghost (st1:=⟨_,_,_,_⟩) rfl (D_seq2 G ?_)
  simp (disch:=omega) only [go_sem]
  refine D_seq1 (D_seq2 G ?_)
  simp (disch:=omega) only [go_sem]
  refine D_block (D_ghost (st1:=rgS s n j [] n) rfl ?_)
  refine D_loop G (fun k st=>∃ (acc:List Pic3) (j':Nat),repsG rdPl k s j' acc=none∧acc.length+k=n∧j'≤s.length∧(∀ p∈acc,okPl3 p)∧st=rgS s n j' acc k) ?_ (n:=n) ⟨[],j,h,by simp,by omega,by simp,rfl⟩
  rintro k st ⟨acc,j',h1,h3,h4,h6,rfl⟩
  cases k with
  | zero=>cases h1
  | succ k=>
   simp only [repsG] at h1
   cases h5:rdPl s j' with
   | some q=>
    obtain ⟨p,e'⟩:=q
    rw [h5] at h1
    simp only at h1
    obtain ⟨k1,k2,k3,k4⟩:=pl_cdc.snd h4 h5
    refine .inr (Ev_mono (gread_step hs h5 (by omega) hn h4 h6) ?_)
    rintro x st ⟨rfl,rfl⟩
    exact ⟨rfl,k,by omega,acc++[p],e',h1,by simp;omega,k3,fun x hx=>by
     rcases List.mem_append.1 hx with hx | hx
     ·exact h6 x hx
     ·rw [List.mem_singleton.1 hx];exact k1,rfl⟩
   | none=>
    refine .inl ?_
    have b7:=edPc_len h6 0
    unfold d1672_b0 rgS rgB
    refine D_after (D_seq2 G ?_)
    simp (disch:=omega) only [go_sem]
    refine D_seq2 G ?_
    simp (disch:=omega) only [go_sem]
    refine D_seq1 (D_block (D_seq2 G ?_))
    simp (disch:=omega) only [go_sem]
    refine D_seq2 G ?_
    simp (disch:=omega) only [go_sem]
    refine D_block (D_ghost (st1:=rgI s n acc.length j' (edPc 0 acc) (wdN acc (k+1)) 0) rfl ?_)
    refine D_loop G (fun k2 st=>(k2=2∧st=rgI s n acc.length j' (edPc 0 acc) (wdN acc (k+1)) 0)∨(k2=1∧∃ l e1,rdR s j'=some (l,e1)∧rdWd s e1=none∧st=rgI s n acc.length e1 (edPc 0 acc++l.map fun w=>((acc.length:Int),w)) (wdN acc (k+1)) 1)) ?_ (n:=2) (.inl ⟨rfl,rfl⟩)
    rintro k2 st (⟨rfl,rfl⟩ | ⟨rfl,l,e1,q1,q2,rfl⟩)
    ·cases q1:rdR s j' with
     | some q=>
      obtain ⟨l,e1⟩:=q
      have q2:rdWd s e1=none:=by
       unfold rdPl at h5
       rw [q1] at h5
       simp only at h5
       split at h5
       ·cases h5
       ·assumption
      have gw:=ways_run (n:=(n:Int)) (v:=acc.length) (W:=wdN acc (k+1)) (E:=edPc 0 acc) hs h4 q1 (by omega) (by omega)
      refine .inr (Ev_mono (rg_ways gw) ?_)
      rintro x st ⟨rfl,rfl⟩
      exact ⟨rfl,1,by omega,.inr ⟨rfl,l,e1,rfl,q2,rfl⟩⟩
     | none=>
      have gd:=ways_dies G N hs h4 q1 (n:=(n:Int)) (E:=edPc 0 acc) (W:=wdN acc (k+1)) (v:=acc.length)
      refine .inl ?_
      unfold d1672_b1 rgI rgB
      generalize edPc 0 acc=E at *
      refine D_after (D_seq2 G ?_)
      simp (disch:=omega) only [go_sem]
      refine D_seq2 G ?_
      simp (disch:=omega) only [go_sem]
      refine D_seq1 (D_block (D_seq2 G ?_))
      simp (disch:=omega) only [go_sem]
      refine D_ops (DO_take G 4 ?_)
      simp (disch:=omega) only [go_sem,List.take_succ_cons,List.take_zero,List.drop_succ_cons,List.drop_zero]
      refine DO_call (k:=1676) (vs:=[.ref 3 0,.ref 0 0,.int .i64 (acc.length:Int)]) (hps:=[.row false [.int .i64 (n:Int),evP E,.vec 1 (wos (wdN acc (k+1)))],.row false [.str s,.int .i64 (j':Int)]]) rfl rfl ?_ gd trivial
      simp (disch:=omega) only [go_sem,idsL,AV.ids,dedup,dd30,evP_noid]
    ·have r1:=rdR_le q1
     have hl:(edPc 0 acc++l.map fun w=>((acc.length:Int),w)).length≤1000000:=by rw [List.length_append,List.length_map];omega
     have gd:=words_dies G N hs r1.2.1 q2 hl (n:=(n:Int)) (W:=wdN acc (k+1)) (v:=acc.length) (by rw [wdN_len];omega) (by rw [wdN_len];omega) (wdN_get acc (k+1))
     refine .inl ?_
     unfold d1672_b1 rgI rgB
     generalize edPc 0 acc++l.map (fun w=>((acc.length:Int),w))=E at *
     refine D_after (D_seq2 G ?_)
     simp (disch:=omega) only [go_sem]
     refine D_seq2 G ?_
     simp (disch:=omega) only [go_sem]
     refine D_seq1 (D_block (D_seq2 G ?_))
     simp (disch:=omega) only [go_sem]
     refine D_ops (DO_take G 4 ?_)
     simp (disch:=omega) only [go_sem,List.take_succ_cons,List.take_zero,List.drop_succ_cons,List.drop_zero]
     refine DO_call (k:=1677) (vs:=[.ref 3 0,.ref 0 0,.int .i64 (acc.length:Int)]) (hps:=[.row false [.int .i64 (n:Int),evP E,.vec 1 (wos (wdN acc (k+1)))],.row false [.str s,.int .i64 (e1:Int)]]) rfl rfl ?_ gd trivial
     simp (disch:=omega) only [go_sem,idsL,AV.ids,dedup,dd30,evP_noid]
def wA0:List SOp:=[⟨some 4,.alloc [.int .i64 0,.nils,.nils],none⟩,⟨some 5,.alloc [.bool false],none⟩]
def wR2:List SOp:=[⟨some 8,.move (.tmp 0),none⟩,⟨some 9,.build [.str [],.int .i64 0] [(0,(1,.tmp 8))],none⟩,⟨some 10,.box 2 (.tmp 9),none⟩,⟨some 6,.move (.tmp 10),none⟩]
def wR3:List SOp:=[⟨some 11,.move (.tmp 1),none⟩,⟨some 12,.move (.tmp 6),none⟩,⟨some 13,.callf .mem (.tmp 11) [.tmp 12],none⟩,⟨none,.store false 3 (.tmp 4) (.tmp 13),none⟩]
def wR4:List SOp:=[⟨some 14,.move (.tmp 6),none⟩,⟨some 15,.nilCheck (.tmp 14),none⟩,⟨some 16,.fieldAddr 1 (.tmp 15),none⟩,⟨some 17,.load false none (.tmp 16),none⟩,⟨some 18,.move (.tmp 0),none⟩,⟨some 19,.len true (.tmp 18),none⟩,⟨some 20,.bin 0 .eql (.tmp 17) (.tmp 19),none⟩,⟨some 21,.call .mem 1444 [.tmp 20],none⟩]
def wR5:List SOp:=[⟨some 22,.load true (some 3) (.tmp 4),none⟩,⟨none,.store false 3 (.tmp 4) (.tmp 22),none⟩,⟨none,.store false 1 (.tmp 5) (.val (.bool true)),none⟩]
def wB1:List SOp:=[⟨some 2,.alloc [.int .i64 0,.nils,.nils],none⟩]
def wB2:List SOp:=[⟨some 5,.load true (some 3) (.tmp 2),none⟩,⟨none,.store false 3 (.tmp 0) (.tmp 5),none⟩,⟨none,.store false 1 (.tmp 1) (.val (.bool false)),none⟩]
def wRs:List RS:=[⟨.cell 4 (some 3),[(1,2,false),(2,1,false)]⟩,⟨.cell 5 none,[]⟩]
def wholeG (s:Txt):List AV:=match rdIm s with
 | some (L,e)=>if e=s.length then [.agg (gV L.length (edPc 0 L) (wdPc L)),.bool true] else [.agg (gV 0 [] []),.bool false]
 | none=>[.agg (gV 0 [] []),.bool false]
theorem whole_graph (G:Good P fid tab) (N:NeedIs P) {f:FuncId} (hC:Catch P fid f 23 6 wA0 wR2 wR3 wR4 wR5 wB1 wB2 wRs) {s:Txt} (hs:s.length≤1000000):FnThere P f∧CallOk P fid f [.str s,.clo 1672 [] []] [] (.tup (wholeG s),[]):=by
 refine whole_ok G hC (by omega) (by omega) ?_
 simp only [wA0,wR2,wR3,wR4,wR5,wB1,wB2,wRs,bindParams]
 simp (disch:=omega) only [go_sem]
 cases hp:rdIm s with
 | none=>
  have g:=gread_dies G N hs hp
  refine .inl (DO_take G 2 ?_)
  simp (disch:=omega) only [go_sem,List.take_succ_cons,List.take_zero,List.drop_succ_cons,List.drop_zero]
  refine DO_call rfl rfl rfl g ?_
  simp only [wholeG,hp,recQ]
  simp (disch:=omega) only [go_sem,putHp,idsL,AV.ids,dedup,dd00,List.replicate_succ,List.replicate_zero,List.length_cons,List.length_nil]
  exact ⟨_,rfl,rfl⟩
 | some r=>
  obtain ⟨L,e⟩:=r
  have g:=gread_run hs hp
  simp only [gV] at g
  refine .inr ?_
  by_cases he:e=s.length
  ·subst he
   have hw:wholeG s=[.agg (gV L.length (edPc 0 L) (wdPc L)),.bool true]:=by simp only [wholeG,hp,if_true]
   rw [hw]
   generalize edPc 0 L=E at *
   generalize wdPc L=W at *
   simp (disch:=omega) only [go_sem,g]
   refine .inr ?_
   simp (disch:=omega) only [go_sem,need_run,endQ]
   refine ⟨_,rfl,_,rfl,?_⟩
   simp (disch:=omega) only [go_sem,fin,gV]
  ·have hn:=needs G N []
   generalize edPc 0 L=E at *
   generalize wdPc L=W at *
   simp (disch:=omega) only [go_sem,g]
   refine .inl (DO_take G 7 ?_)
   simp (disch:=omega) only [go_sem,List.take_succ_cons,List.take_zero,List.drop_succ_cons,List.drop_zero]
   refine DO_call rfl rfl rfl hn ?_
   simp only [wholeG,hp,if_neg he,recQ]
   simp (disch:=omega) only [go_sem,putHp,idsL,AV.ids,dedup,dd00,List.replicate_succ,List.replicate_zero,List.length_cons,List.length_nil]
   exact ⟨_,rfl,rfl⟩
end
end Go.Proofs.Ytgdfncnpcdafmaa
