import Derived.Test.YtgdfncnpcdafmaaXb
import Derived.Test.YtgdfncnpcdafmaaRq
import Derived.Test.YtgdfncnpcdafmaaYd
import Derived.Test.YtgdfncnpcdafmaaPd
namespace Go.Proofs.Ytgdfncnpcdafmaa
set_option linter.unusedSimpArgs false
set_option linter.unusedVariables false
set_option maxHeartbeats 4000000
set_option maxRecDepth 100000
theorem encT_len {t:Txt} (h:t.length≤4000):(encT t).length≤4005:=by
 have:=encN_len (n:=t.length) (by omega)
 simp only [encT,List.length_append];omega
theorem wtext_run {t:Txt} (h:t.length≤4000):runP tab 1647 [.str t] []=some (.tup [.str (encT t),.int .i64 0],[]):=by
 refine runP_fn t1647 rfl ?_
 have gl:=lay_run (n:=t.length) (by omega)
 have h5:=encN_len (n:=t.length) (by omega)
 simp (disch:=omega) only [go_sem,d1647,gl,u8c_len,encT]
theorem layt_run {t:Txt} (h:t.length≤4000):runP tab 1639 [.str t] []=some (.str (encT t),[]):=by
 refine runP_fn t1639 rfl ?_
 have g:=wtext_run h
 simp (disch:=omega) only [go_sem,d1639,g]
theorem rtext_run {t:Txt} (h:t.length≤4000):runP tab 1641 [.str t] []=some (.tup [.str (encT t),.int .i64 0],[]):=by
 refine runP_fn t1641 rfl ?_
 have gl:=rnumber_run (n:=t.length) (by omega) (by omega)
 have h5:=encN_len (n:=t.length) (by omega)
 rw [Int.toNat_natCast] at gl
 simp (disch:=omega) only [go_sem,d1641,gl,encT]
theorem num_rd {s:Txt} (hs:s.length≤1000000) {i:Nat} (hi:i≤s.length):(∃ n j,rdN s i=some (n,j)∧runP tab 1468 [.ref 0 0] [.row false [.str s,.int .i64 (i:Int)]]=some (.tup [.int .i64 (n:Int),.bool true],[.row false [.str s,.int .i64 (j:Int)]])) ∨
  (rdN s i=none∧∃ n j:Nat,runP tab 1468 [.ref 0 0] [.row false [.str s,.int .i64 (i:Int)]]=some (.tup [.int .i64 (n:Int),.bool false],[.row false [.str s,.int .i64 (j:Int)]])):=by
 rcases rd_cases s hi with ⟨n,h1,h2,h3,h4,h5⟩ | ⟨h,h5⟩
 ·by_cases c:vN (s.drop i) (n+1)≤2147483647∧(0<((s.drop i).getD n 0).toNat∨n=0)
  ·have g:=num_at hs h1 h2 h3 h4 (ok:=true) (by simp only [true_iff];exact c)
   rw [h5,if_pos c]
   exact .inl ⟨_,_,rfl,g⟩
  ·have g:=num_at hs h1 h2 h3 h4 (ok:=false) ⟨fun h=>by (cases h),fun h=>absurd h c⟩
   rw [h5,if_neg c]
   exact .inr ⟨rfl,_,_,g⟩
 ·obtain ⟨j,g⟩:=num_no hs hi h
  exact .inr ⟨h5,0,j,g⟩
def rtA:Option (Txt × Nat)→List AV
 | some (t,j)=>[.str t,.int .i64 j,.bool true]
 | none=>[.str [],.int .i64 0,.bool false]
theorem text_run {s:Txt} (hs:s.length≤1000000) {i:Nat} (hi:i≤s.length):(∃ t e,rdT s i=some (t,e)∧runP tab 1657 [.ref 0 0] [.row false [.str s,.int .i64 (i:Int)]]=some (.tup [.str t,.bool true],[.row false [.str s,.int .i64 (e:Int)]])) ∨
  (rdT s i=none∧∃ j:Nat,runP tab 1657 [.ref 0 0] [.row false [.str s,.int .i64 (i:Int)]]=some (.tup [.str [],.bool false],[.row false [.str s,.int .i64 (j:Int)]])):=by
 unfold rdT
 rcases num_rd hs hi with ⟨n,j,h,g⟩ | ⟨h,n,j,g⟩
 ·rw [h]
  simp only
  have hb:=rdN_sound h
  by_cases c1:n≤4000
  ·by_cases c2:n≤s.length - j
   ·rw [if_pos ⟨c1,c2⟩]
    refine .inl ⟨_,_,rfl,runP_fn t1657 rfl ?_⟩
    have hsl:((j:Int)+(n:Int)).toNat - j=n:=by omega
    simp (disch:=omega) only [go_sem,d1657,g,hsl]
   ·rw [if_neg (by omega)]
    refine .inr ⟨rfl,j,runP_fn t1657 rfl ?_⟩
    simp (disch:=omega) only [go_sem,d1657,g]
  ·rw [if_neg (by omega)]
   refine .inr ⟨rfl,j,runP_fn t1657 rfl ?_⟩
   simp (disch:=omega) only [go_sem,d1657,g]
 ·rw [h]
  simp only
  refine .inr ⟨trivial,j,runP_fn t1657 rfl ?_⟩
  simp (disch:=omega) only [go_sem,d1657,g]
theorem rdt_run {s:Txt} (hs:s.length≤1000000) {i:Nat} (hi:i≤s.length):runP tab 1655 [.str s,.int .i64 i] []=some (.tup (rtA (rdT s i)),[]):=by
 rcases text_run hs hi with ⟨t,e,h,g⟩ | ⟨h,j,g⟩
 ·have b:=rdT_sound h
  have g2:runP tab 1656 [.ref 0 0,.clo 1657 [.ref 0 0] []] [.row false [.str s,.int .i64 i]]=some (.tup [.str t,.int .i64 e,.bool true],[.row false [.str s,.int .i64 e]]):=by
   refine runP_fn t1656 rfl ?_
   simp (disch:=omega) only [go_sem,d1656,g]
  refine runP_fn t1655 rfl ?_
  rw [h]
  simp (disch:=omega) only [go_sem,d1655,g2,rtA]
 ·have g2:runP tab 1656 [.ref 0 0,.clo 1657 [.ref 0 0] []] [.row false [.str s,.int .i64 i]]=some (.tup [.str [],.int .i64 0,.bool false],[.row false [.str s,.int .i64 j]]):=by
   refine runP_fn t1656 rfl ?_
   simp (disch:=omega) only [go_sem,d1656,g]
  refine runP_fn t1655 rfl ?_
  rw [h]
  simp (disch:=omega) only [go_sem,d1655,g2,rtA]
theorem rrdt_run {s:Txt} (hs:s.length≤1000000) {i:Nat} (hi:i≤s.length):runP tab 1651 [.str s,.int .i64 i] []=some (.tup (rtA (rdT s i)),[]):=by
 refine runP_fn t1651 rfl ?_
 have g:=rrd_run hs hi
 unfold rdT
 cases h:rdN s i with
 | none=>
  rw [h] at g
  simp only [rdA] at g
  simp (disch:=omega) only [go_sem,d1651,g,rtA]
 | some p=>
  obtain ⟨n,j⟩:=p
  rw [h] at g
  simp only [rdA] at g ⊢
  have hb:=rdN_sound h
  by_cases c1:n≤4000
  ·by_cases c2:n≤s.length - j
   ·rw [if_pos ⟨c1,c2⟩]
    have hsl:((j:Int)+(n:Int)).toNat - j=n:=by omega
    simp (disch:=omega) only [go_sem,d1651,g,hsl,rtA]
   ·rw [if_neg (by omega)]
    simp (disch:=omega) only [go_sem,d1651,g,rtA]
  ·rw [if_neg (by omega)]
   simp (disch:=omega) only [go_sem,d1651,g,rtA]
theorem stext_run {s:Txt} (hs:s.length≤1000000) {i:Nat} (hi:i≤s.length) {t:Txt} {e:Nat} (h:rdT s i=some (t,e)):runP tab 1650 [.ref 0 0] [.row false [.str s,.int .i64 (i:Int)]]=some (.str t,[.row false [.str s,.int .i64 (e:Int)]]):=by
 have b:=rdT_sound h
 have g:=rdt_run hs hi
 rw [h] at g
 simp only [rtA] at g
 refine runP_fn t1650 rfl ?_
 simp (disch:=omega) only [go_sem,d1650,g,need_run]
section
variable {P:Program}
theorem stext_dies (G:Good P fid tab) (N:NeedIs P) {s:Txt} (hs:s.length≤1000000) {i:Nat} (hi:i≤s.length) (h:rdT s i=none):DiesC P fid 1650 [.ref 0 0] [.row false [.str s,.int .i64 (i:Int)]]:=by
 refine D_fn G t1650 ?_
 have g:=rdt_run hs hi
 rw [h] at g
 simp only [rtA] at g
 have hn:=needs G N []
 simp only [d1650,bindParams]
 refine D_seq2 G ?_
 simp (disch:=omega) only [go_sem]
 refine D_seq2 G ?_
 simp (disch:=omega) only [go_sem,g]
 refine D_ghost rfl (D_seq1 (D_ops (DO_take G 1 ?_)))
 simp (disch:=omega) only [go_sem,keepEnv,List.take_succ_cons,List.take_zero,List.drop_succ_cons,List.drop_zero]
 exact DO_call rfl rfl rfl hn trivial
end
def rsL:Nat→Txt→Nat→List Int→Option (List Int × Nat)
 | 0,_,j,acc=>some (acc,j)
 | k+1,s,j,acc=>match rdN s j with
  | some (n,e)=>rsL k s e (acc++[(n:Int)])
  | none=>none
def rdR (s:Txt) (j:Nat):Option (List Int × Nat):=match rdN s j with
 | some (n,e)=>if n≤4000 then rsL n s e [] else none
 | none=>none
theorem rsL_len:∀ {k:Nat} {s:Txt} {j e:Nat} {acc l:List Int},rsL k s j acc=some (l,e)→l.length=acc.length+k
 | 0,_,_,_,_,_,h=>by simp only [rsL,Option.some.injEq,Prod.mk.injEq] at h;rw [h.1];rfl
 | k+1,s,j,e,acc,l,h=>by
  simp only [rsL] at h
  split at h
  ·have:=rsL_len h
   simp at this;omega
  ·cases h
def nuS (s:Txt) (n j:Nat) (acc:List Int):St:=⟨[(0,.ref 0 0),(4,.int .i64 (n:Int)),(6,.own 1 1)],[.row false [.str s,.int .i64 (j:Int)],.row false (ints acc)],1,[(0,2,[0,4,6],[(0,0),(6,1)])]⟩
theorem numbers_run {s:Txt} (hs:s.length≤1000000) {i:Nat} (hi:i≤s.length) {l:List Int} {e:Nat} (h:rdR s i=some (l,e)):runP tab 1682 [.ref 0 0] [.row false [.str s,.int .i64 (i:Int)]]=some (.tup [.vec 1 (ints l),.bool true],[.row false [.str s,.int .i64 (e:Int)]]):=by
 unfold rdR at h
 rcases num_rd hs hi with ⟨n,j,h2,g⟩ | ⟨h2,n,j,g⟩
 ·rw [h2] at h
  simp only at h
  split at h
  ·rename_i hn
   have b:=rdN_sound h2
   refine runP_fn t1682 rfl ?_
   simp (disch:=omega) only [go_sem,d1682,g]
   refine Ev_inv (fun k st=>∃ (acc:List Int) (j':Nat),rsL k s j' acc=some (l,e)∧acc.length+k=n∧j'≤s.length∧st=nuS s n j' acc) ?_ (i:=n) ⟨[],j,h,by simp,by omega,rfl⟩
   rintro k st ⟨acc,j',h1,h3,h4,rfl⟩
   have L:=ints_length acc
   cases k with
   | succ k=>
    simp only [rsL] at h1
    rcases num_rd hs h4 with ⟨v,e',h5,g2⟩ | ⟨h5,v,e',g2⟩
    ·rw [h5] at h1
     simp only at h1
     have b2:=rdN_sound h5
     have em:ints acc++[.int .i64 (v:Int)]=ints (acc++[(v:Int)]):=by simp [ints]
     have hk:k<k+1:=by omega
     have key:∃ (a2:List Int) (j2:Nat),rsL k s j2 a2=some (l,e)∧a2.length+k=n∧j2≤s.length∧nuS s n e' (acc++[(v:Int)])=nuS s n j2 a2:=⟨_,_,h1,by simp;omega,by omega,rfl⟩
     unfold nuS at key ⊢
     simp (disch:=omega) only [go_sem,d1682_b0,g2,L,em]
     exact ⟨k,hk,key⟩
    ·rw [h5] at h1;cases h1
   | zero=>
    simp only [rsL,Option.some.injEq,Prod.mk.injEq] at h1
    obtain ⟨rfl,rfl⟩:=h1
    unfold nuS
    simp (disch:=omega) only [go_sem,d1682_b0,L]
  ·cases h
 ·rw [h2] at h;cases h
def rsZ:Nat→Txt→Nat→Nat
 | 0,_,j=>j
 | k+1,s,j=>match rdN s j with
  | some (_,e)=>rsZ k s e
  | none=>j
theorem rsZ_none:∀ {k:Nat} {s:Txt} {j:Nat} {acc:List Int},j≤s.length→rsL k s j acc=none→rdN s (rsZ k s j)=none∧rsZ k s j≤s.length
 | 0,_,_,_,_,h=>by cases h
 | k+1,s,j,acc,hj,h=>by
  simp only [rsL] at h
  simp only [rsZ]
  split at h
  ·rename_i n e hr
   exact rsZ_none (by have:=rdN_sound hr;omega) h
  ·rename_i hr
   exact ⟨hr,hj⟩
theorem numbers_no {s:Txt} (hs:s.length≤1000000) {i:Nat} (hi:i≤s.length) (h:rdR s i=none):∃ j:Nat,runP tab 1682 [.ref 0 0] [.row false [.str s,.int .i64 (i:Int)]]=some (.tup [.vec 1 [],.bool false],[.row false [.str s,.int .i64 (j:Int)]]):=by
 unfold rdR at h
 rcases num_rd hs hi with ⟨n,j,h2,g⟩ | ⟨h2,n,j,g⟩
 ·rw [h2] at h
  simp only at h
  have b:=rdN_sound h2
  by_cases hn:n≤4000
  ·rw [if_pos hn] at h
   obtain ⟨z1,z2⟩:=rsZ_none (by omega) h
   rcases num_rd hs z2 with ⟨v,jz,h5,g2⟩ | ⟨_,v,jz,g2⟩
   ·rw [h5] at z1;cases z1
   refine ⟨jz,runP_fn t1682 rfl ?_⟩
   simp (disch:=omega) only [go_sem,d1682,g]
   refine Ev_inv (fun k st=>∃ (acc:List Int) (j':Nat),rsL k s j' acc=none∧rsZ k s j'=rsZ n s j∧acc.length+k=n∧j'≤s.length∧st=nuS s n j' acc) ?_ (i:=n) ⟨[],j,h,rfl,by simp,by omega,rfl⟩
   rintro k st ⟨acc,j',h1,hz,h3,h4,rfl⟩
   have L:=ints_length acc
   cases k with
   | succ k=>
    simp only [rsL] at h1
    simp only [rsZ] at hz
    rcases num_rd hs h4 with ⟨v,e',h5,g3⟩ | ⟨h5,_,_,_⟩
    ·rw [h5] at h1 hz
     simp only at h1 hz
     have b2:=rdN_sound h5
     have em:ints acc++[.int .i64 (v:Int)]=ints (acc++[(v:Int)]):=by simp [ints]
     have hk:k<k+1:=by omega
     have key:∃ (a2:List Int) (j2:Nat),rsL k s j2 a2=none∧rsZ k s j2=rsZ n s j∧a2.length+k=n∧j2≤s.length∧nuS s n e' (acc++[(v:Int)])=nuS s n j2 a2:=⟨_,_,h1,hz,by simp;omega,by omega,rfl⟩
     unfold nuS at key ⊢
     simp (disch:=omega) only [go_sem,d1682_b0,g3,L,em]
     exact ⟨k,hk,key⟩
    ·rw [h5] at hz
     simp only at hz
     rw [←hz] at g2
     unfold nuS
     simp (disch:=omega) only [go_sem,d1682_b0,g2,L]
   | zero=>cases h1
  ·refine ⟨j,runP_fn t1682 rfl ?_⟩
   clear h
   simp (disch:=omega) only [go_sem,d1682,g]
 ·refine ⟨j,runP_fn t1682 rfl ?_⟩
  simp (disch:=omega) only [go_sem,d1682,g]
theorem rsL_le:∀ {k:Nat} {s:Txt} {j e:Nat} {acc l:List Int},j≤s.length→rsL k s j acc=some (l,e)→j≤e∧e≤s.length
 | 0,_,_,_,_,_,hj,h=>by simp only [rsL,Option.some.injEq,Prod.mk.injEq] at h;omega
 | k+1,s,j,e,acc,l,hj,h=>by
  simp only [rsL] at h
  split at h
  ·rename_i n e' hr
   have b:=rdN_sound hr
   have:=rsL_le (by omega) h
   omega
  ·cases h
theorem rdR_le {s:Txt} {j e:Nat} {l:List Int} (h:rdR s j=some (l,e)):j<e∧e≤s.length∧l.length≤4000:=by
 unfold rdR at h
 split at h
 ·rename_i n e' hr
  have b:=rdN_sound hr
  split at h
  ·have:=rsL_le (by omega) h
   have:=rsL_len h
   simp at this
   omega
  ·cases h
 ·cases h
def rrA:Option (List Int × Nat)→List AV
 | some (l,j)=>[.vec 1 (ints l),.int .i64 j,.bool true]
 | none=>[.vec 1 [],.int .i64 0,.bool false]
theorem rdrow_run {s:Txt} (hs:s.length≤1000000) {i:Nat} (hi:i≤s.length):runP tab 1680 [.str s,.int .i64 i] []=some (.tup (rrA (rdR s i)),[]):=by
 cases h:rdR s i with
 | some p=>
  obtain ⟨l,e⟩:=p
  have b:=rdR_le h
  have g:=numbers_run hs hi h
  have L:=ints_length l
  have g2:runP tab 1681 [.ref 0 0,.clo 1682 [.ref 0 0] []] [.row false [.str s,.int .i64 i]]=some (.tup [.vec 1 (ints l),.int .i64 e,.bool true],[.row false [.str s,.int .i64 e]]):=by
   refine runP_fn t1681 rfl ?_
   simp (disch:=omega) only [go_sem,d1681,g,L]
  refine runP_fn t1680 rfl ?_
  simp (disch:=omega) only [go_sem,d1680,g2,rrA]
 | none=>
  obtain ⟨j,g⟩:=numbers_no hs hi h
  have g2:runP tab 1681 [.ref 0 0,.clo 1682 [.ref 0 0] []] [.row false [.str s,.int .i64 i]]=some (.tup [.nils,.int .i64 0,.bool false],[.row false [.str s,.int .i64 j]]):=by
   refine runP_fn t1681 rfl ?_
   simp (disch:=omega) only [go_sem,d1681,g]
  refine runP_fn t1680 rfl ?_
  simp (disch:=omega) only [go_sem,d1680,g2,rrA]
theorem srow_run {s:Txt} (hs:s.length≤1000000) {i:Nat} (hi:i≤s.length) {l:List Int} {e:Nat} (h:rdR s i=some (l,e)):runP tab 1679 [.ref 0 0] [.row false [.str s,.int .i64 (i:Int)]]=some (.vec 1 (ints l),[.row false [.str s,.int .i64 (e:Int)]]):=by
 have b:=rdR_le h
 have g:=rdrow_run hs hi
 rw [h] at g
 simp only [rrA] at g
 refine runP_fn t1679 rfl ?_
 simp (disch:=omega) only [go_sem,d1679,g,need_run]
section
variable {P:Program}
theorem srow_dies (G:Good P fid tab) (N:NeedIs P) {s:Txt} (hs:s.length≤1000000) {i:Nat} (hi:i≤s.length) (h:rdR s i=none):DiesC P fid 1679 [.ref 0 0] [.row false [.str s,.int .i64 (i:Int)]]:=by
 refine D_fn G t1679 ?_
 have g:=rdrow_run hs hi
 rw [h] at g
 simp only [rrA] at g
 have hn:=needs G N []
 simp only [d1679,bindParams]
 refine D_seq2 G ?_
 simp (disch:=omega) only [go_sem]
 refine D_seq2 G ?_
 simp (disch:=omega) only [go_sem,g]
 refine D_ghost rfl (D_seq1 (D_ops (DO_take G 1 ?_)))
 simp (disch:=omega) only [go_sem,keepEnv,List.take_succ_cons,List.take_zero,List.drop_succ_cons,List.drop_zero]
 exact DO_call rfl rfl rfl hn trivial
end
theorem mark_run {s:Txt} (hs:s.length≤1000000) (h2:2≤s.length) (h:s.take 2=[119,103]):runP tab 1470 [.ref 0 0,.str [119,103]] [.row false [.str s,.int .i64 0]]=some (.tup [],[.row false [.str s,.int .i64 2]]):=by
 refine runP_fn t1470 rfl ?_
 simp (disch:=omega) only [go_sem,d1470,need_run,h]
 rfl
def nwS (s:Txt) (n j:Nat) (acc:List Int):St:=⟨[(0,.str s),(7,.int .i64 (n:Int)),(8,.int .i64 (j:Int)),(10,.own 1 0),(11,.int .i64 (acc.length:Int))],[.row false (ints acc)],0,[(0,1,[0,7,8,10,11],[(10,0)])]⟩
theorem rrdrow_run {s:Txt} (hs:s.length≤1000000) {i:Nat} (hi:i≤s.length) {l:List Int} {e:Nat} (h:rdR s i=some (l,e)):runP tab 1678 [.str s,.int .i64 (i:Int)] []=some (.tup (rrA (some (l,e))),[]):=by
 unfold rdR at h
 have g:=rrd_run hs hi
 cases h2:rdN s i with
 | none=>rw [h2] at h;cases h
 | some p=>
  obtain ⟨n,j⟩:=p
  rw [h2] at h g
  simp only [rdA] at g
  simp only at h
  split at h
  ·rename_i hn
   have b:=rdN_sound h2
   refine runP_fn t1678 rfl ?_
   simp (disch:=omega) only [go_sem,d1678,g]
   refine Ev_inv (fun k st=>∃ (acc:List Int) (j':Nat),rsL k s j' acc=some (l,e)∧acc.length+k=n∧j'≤s.length∧st=nwS s n j' acc) ?_ (i:=n) ⟨[],j,h,by simp,by omega,rfl⟩
   rintro k st ⟨acc,j',h1,h3,h4,rfl⟩
   have L:=ints_length acc
   have g2:=rrd_run hs h4
   cases k with
   | succ k=>
    simp only [rsL] at h1
    cases h5:rdN s j' with
    | none=>rw [h5] at h1;cases h1
    | some q=>
     obtain ⟨v,e'⟩:=q
     rw [h5] at h1 g2
     simp only [rdA] at h1 g2
     have b2:=rdN_sound h5
     have em:ints acc++[.int .i64 (v:Int)]=ints (acc++[(v:Int)]):=by simp [ints]
     have hk:k<k+1:=by omega
     have key:∃ (a2:List Int) (j2:Nat),rsL k s j2 a2=some (l,e)∧a2.length+k=n∧j2≤s.length∧nwS s n e' (acc++[(v:Int)])=nwS s n j2 a2:=⟨_,_,h1,by simp;omega,by omega,rfl⟩
     have e3:((acc++[(v:Int)]).length:Int)=(acc.length:Int)+1:=by simp
     unfold nwS at key ⊢
     rw [e3] at key
     simp (disch:=omega) only [go_sem,d1678_b0,g2,L,em]
     exact ⟨k,hk,key⟩
   | zero=>
    simp only [rsL,Option.some.injEq,Prod.mk.injEq] at h1
    obtain ⟨rfl,rfl⟩:=h1
    unfold nwS
    simp (disch:=omega) only [go_sem,d1678_b0,L,rrA]
  ·cases h
end Go.Proofs.Ytgdfncnpcdafmaa
