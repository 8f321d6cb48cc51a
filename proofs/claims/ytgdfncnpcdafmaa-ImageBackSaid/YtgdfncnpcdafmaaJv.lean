import Derived.Test.YtgdfncnpcdafmaaJq
namespace Go.Proofs.Ytgdfncnpcdafmaa
set_option linter.unusedSimpArgs false
set_option linter.unusedVariables false
set_option maxHeartbeats 4000000
set_option maxRecDepth 100000
structure Cdc {α:Type} (rd:Txt→Nat→Option (α × Nat)) (ok:α→Prop) (enc:α→Txt):Prop where
 snd:∀ {s:Txt} {j e:Nat} {x:α},j≤s.length→rd s j=some (x,e)→ok x∧j≤e∧e≤s.length∧s.take e=s.take j++enc x
 cmp:∀ {x:α},ok x→∀ a r:Txt,rd (a++(enc x++r)) a.length=some (x,a.length+(enc x).length)
def repsG {α:Type} (rd:Txt→Nat→Option (α × Nat)):Nat→Txt→Nat→List α→Option (List α × Nat)
 | 0,_,j,acc=>some (acc,j)
 | k+1,s,j,acc=>match rd s j with
  | some (x,e)=>repsG rd k s e (acc++[x])
  | none=>none
section
variable {α:Type} {rd:Txt→Nat→Option (α × Nat)} {ok:α→Prop} {enc:α→Txt}
theorem reps_snd (C:Cdc rd ok enc):∀ {k:Nat} {s:Txt} {j e:Nat} {acc l:List α},j≤s.length→repsG rd k s j acc=some (l,e)→∃ m,l=acc++m∧m.length=k∧(∀ x∈m,ok x)∧j≤e∧e≤s.length∧s.take e=s.take j++m.flatMap enc
 | 0,s,j,e,acc,l,hj,h=>by
  simp only [repsG,Option.some.injEq,Prod.mk.injEq] at h
  obtain ⟨rfl,rfl⟩:=h
  exact ⟨[],by simp,rfl,by simp,Nat.le_refl _,hj,by simp⟩
 | k+1,s,j,e,acc,l,hj,h=>by
  simp only [repsG] at h
  split at h
  ·rename_i x e' hr
   obtain ⟨h1,h2,h3,h4⟩:=C.snd hj hr
   obtain ⟨m,m1,m2,m3,m4,m5,m6⟩:=reps_snd C h3 h
   refine ⟨x::m,by rw [m1];simp,by simp [m2],fun y hy=>?_,by omega,m5,by rw [m6,h4];simp⟩
   rcases List.mem_cons.1 hy with rfl | hy
   ·exact h1
   ·exact m3 y hy
  ·cases h
theorem reps_cmp (C:Cdc rd ok enc):∀ {m:List α} {acc:List α},(∀ x∈m,ok x)→∀ a r:Txt,repsG rd m.length (a++(m.flatMap enc++r)) a.length acc=some (acc++m,a.length+(m.flatMap enc).length)
 | [],acc,_,a,r=>by simp [repsG]
 | x::m,acc,h,a,r=>by
  simp only [List.length_cons,repsG,List.flatMap_cons]
  have h1:=C.cmp (h x (by simp)) a (m.flatMap enc++r)
  rw [show a++(enc x++m.flatMap enc++r)=a++(enc x++(m.flatMap enc++r)) by simp,h1]
  simp only
  have h2:=reps_cmp C (m:=m) (acc:=acc++[x]) (fun y hy=>h y (by simp [hy])) (a++enc x) r
  rw [List.length_append] at h2
  rw [show a++(enc x++(m.flatMap enc++r))=a++enc x++(m.flatMap enc++r) by simp,h2,List.length_append,List.append_assoc,Nat.add_assoc]
  rfl
def rowsG (most:Nat) (rd:Txt→Nat→Option (α × Nat)) (s:Txt) (j:Nat):Option (List α × Nat):=match rdL most s j with
 | some (n,e)=>repsG rd n s e []
 | none=>none
def encRs3 (enc:α→Txt) (l:List α):Txt:=encN l.length++l.flatMap enc
theorem rows_cdc (C:Cdc rd ok enc) {most:Nat} (hm:most≤2147483647):Cdc (rowsG most rd) (fun l=>l.length≤most∧∀ x∈l,ok x) (encRs3 enc) where
 snd:=by
  intro s j e l hj h
  unfold rowsG at h
  split at h
  ·rename_i n e' hn
   obtain ⟨g0,g1⟩:=rdL_sound hn
   obtain ⟨h1,h2,h3,h4⟩:=rdN_sound g0
   obtain ⟨m,rfl,m2,m3,m4,m5,m6⟩:=reps_snd C h2 h
   exact ⟨⟨by omega,m3⟩,by omega,m5,by rw [m6,h4,encRs3,m2,List.append_assoc]⟩
  ·cases h
 cmp:=by
  intro l hl a r
  unfold rowsG encRs3
  have e:rdL most (a++(encN l.length++l.flatMap enc++r)) a.length=some (l.length,a.length+(encN l.length).length):=by
   unfold rdL
   rw [List.append_assoc,rdN_enc (by omega)]
   simp only
   rw [if_pos hl.1]
  rw [e]
  simp only
  have:=reps_cmp C (acc:=[]) hl.2 (a++encN l.length) r
  rw [List.length_append] at this
  rw [show a++(encN l.length++l.flatMap enc++r)=a++encN l.length++(l.flatMap enc++r) by simp,this,List.length_append,Nat.add_assoc]
  rfl
end
def rdIn (s:Txt) (j:Nat):Option (Int × Nat):=match rdN s j with
 | some (n,e)=>some ((n:Int),e)
 | none=>none
def okIn3 (x:Int):Prop:=0≤x∧x≤2147483647
theorem int_cdc:Cdc rdIn okIn3 (fun x=>encN x.toNat) where
 snd:=by
  intro s j e x hj h
  unfold rdIn at h
  split at h
  ·rename_i n e' hn
   simp only [Option.some.injEq,Prod.mk.injEq] at h
   obtain ⟨rfl,rfl⟩:=h
   obtain ⟨h1,h2,h3,h4⟩:=rdN_sound hn
   exact ⟨⟨by omega,by omega⟩,by omega,h2,by rw [h4];rfl⟩
  ·cases h
 cmp:=by
  intro x hx a r
  unfold rdIn
  obtain ⟨h0,h1⟩:=hx
  rw [rdN_enc (by omega)]
  simp only [Option.some.injEq,Prod.mk.injEq,and_true]
  omega
theorem rsL_reps:∀ (k:Nat) (s:Txt) (j:Nat) (acc:List Int),rsL k s j acc=repsG rdIn k s j acc
 | 0,_,_,_=>rfl
 | k+1,s,j,acc=>by
  simp only [rsL,repsG,rdIn]
  cases rdN s j with
  | none=>rfl
  | some p=>exact rsL_reps k s p.2 _
theorem rdR_rows (s:Txt) (j:Nat):rdR s j=rowsG 4000 rdIn s j:=by
 unfold rdR rowsG rdL
 cases rdN s j with
 | none=>rfl
 | some p=>
  obtain ⟨n,e⟩:=p
  simp only
  by_cases h:n≤4000
  ·rw [if_pos h,if_pos h];exact rsL_reps n s e []
  ·rw [if_neg h,if_neg h]
theorem txt_cdc:Cdc rdT (fun t=>t.length≤4000) encT where
 snd:=by
  intro s j e t hj h
  obtain ⟨h1,h2,h3,h4⟩:=rdT_sound h
  exact ⟨h1,by omega,h3,h4⟩
 cmp:=fun h a r=>rdT_enc h
abbrev Pic3:=List Int × List Txt
def rdWd (s:Txt) (j:Nat):Option (List Txt × Nat):=rowsG 8 rdT s j
def rdPl (s:Txt) (j:Nat):Option (Pic3 × Nat):=match rdR s j with
 | some (l,e)=>match rdWd s e with
  | some (w,e2)=>some ((l,w),e2)
  | none=>none
 | none=>none
def okRo3 (l:List Int):Prop:=l.length≤4000∧∀ x∈l,okIn3 x
def okWd3 (w:List Txt):Prop:=w.length≤8∧∀ t∈w,t.length≤4000
def okPl3 (p:Pic3):Prop:=okRo3 p.1∧okWd3 p.2
def encRo (l:List Int):Txt:=encN l.length++encL l
def encWd (w:List Txt):Txt:=encN w.length++w.flatMap encT
def encPc (p:Pic3):Txt:=encRo p.1++encWd p.2
theorem row_cdc:Cdc rdR okRo3 encRo:=by
 have e:rdR=rowsG 4000 rdIn:=by funext s j;exact rdR_rows s j
 rw [e]
 exact rows_cdc int_cdc (by omega)
theorem wds_cdc:Cdc rdWd okWd3 encWd:=rows_cdc txt_cdc (by omega)
theorem pl_cdc:Cdc rdPl okPl3 encPc where
 snd:=by
  intro s j e p hj h
  unfold rdPl at h
  split at h
  ·rename_i l e1 h1
   obtain ⟨a1,a2,a3,a4⟩:=row_cdc.snd hj h1
   split at h
   ·rename_i w e2 h2
    obtain ⟨b1,b2,b3,b4⟩:=wds_cdc.snd a3 h2
    simp only [Option.some.injEq,Prod.mk.injEq] at h
    obtain ⟨rfl,rfl⟩:=h
    exact ⟨⟨a1,b1⟩,by omega,b3,by rw [b4,a4,encPc,List.append_assoc]⟩
   ·cases h
  ·cases h
 cmp:=by
  intro p hp a r
  unfold rdPl encPc
  have h1:=row_cdc.cmp hp.1 a (encWd p.2++r)
  have h2:=wds_cdc.cmp hp.2 (a++encRo p.1) r
  rw [List.length_append] at h2
  rw [show a++(encRo p.1++encWd p.2++r)=a++(encRo p.1++(encWd p.2++r)) by simp,h1]
  simp only
  rw [show a++(encRo p.1++(encWd p.2++r))=a++encRo p.1++(encWd p.2++r) by simp,h2]
  simp only [List.length_append,Nat.add_assoc]
def encIm (L:List Pic3):Txt:=[119,103]++(encN L.length++L.flatMap encPc)
def okLs3 (L:List Pic3):Prop:=L.length≤200∧∀ p∈L,okPl3 p
def rdIm (s:Txt):Option (List Pic3 × Nat):=if 2≤s.length∧s.take 2=[119,103] then rowsG 200 rdPl s 2 else none
theorem pls_cdc:Cdc (rowsG 200 rdPl) okLs3 (fun L=>encN L.length++L.flatMap encPc):=rows_cdc pl_cdc (by omega)
theorem rdG_snd {s:Txt} {L:List Pic3} {e:Nat} (h:rdIm s=some (L,e)):okLs3 L∧e≤s.length∧s.take e=encIm L:=by
 unfold rdIm at h
 split at h
 ·rename_i hc
  obtain ⟨h1,h2,h3,h4⟩:=pls_cdc.snd hc.1 h
  exact ⟨h1,h3,by rw [h4,hc.2];rfl⟩
 ·cases h
theorem rdG_cmp {L:List Pic3} (h:okLs3 L) (r:Txt):rdIm (encIm L++r)=some (L,(encIm L).length):=by
 unfold rdIm
 have e:(encIm L++r)=[119,103]++(encN L.length++L.flatMap encPc++r):=by simp [encIm]
 rw [if_pos (by rw [e];simp),e]
 have:=pls_cdc.cmp h [119,103] r
 rw [show ([119,103]:Txt).length=2 from rfl] at this
 rw [this]
 simp [encIm];omega
theorem encR_len {l:List Int} (h:okRo3 l):(encRo l).length≤20005:=by
 have h1:=encL_len h.2
 have h2:=encN_len (n:=l.length) (by have:=h.1;omega)
 have:=h.1
 simp only [encRo,List.length_append];omega
theorem laym_run {pre:List UInt8} (hp:pre.length≤100000) {n:Nat} (hn:n≤2147483647):runP tab 1442 [.own 1 0,.int .i64 n] [.row false (u8c pre)]=some (.vec 1 (u8c (pre++encN n)),[.dead]):=by
 refine runP_fn t1442 rfl ?_
 have gd:=digits_run n
 simp (disch:=omega) only [go_sem,d1442,gd]
 refine Ev_rangef rfl ?_
 refine EvC_fn t1466 rfl ?_
 simp (disch:=omega) only [go_sem,d1466]
 refine Ev_inv (fun k st=>∃ (mid:List UInt8) (left:Nat),k=left∧mid++encN left=encN n∧left≤n∧st=⟨[(0,.yld 3),(3,.int .i64 left)],[.dead,.row false [.vec 1 (u8c (pre++mid))],.row false [.int .i64 n],.lp 0 [(2,.ref 1 0),(4,.nils),(7,.clo 1466 [] [.ref 2 0])] [8] d1442_r0a d1442_r0 .normal],4,[(0,4,[0,3],[(0,3)])]⟩) ?_ (i:=n) ⟨[],n,rfl,rfl,Nat.le_refl _,by rw [List.append_nil]⟩
 rintro k st ⟨mid,left,rfl,he,hl,rfl⟩
 have L:=u8c_len (pre++mid)
 have h5:=encN_len hn
 have hl5:mid.length≤5:=by rw [←he,List.length_append] at h5;omega
 have hl6:(pre++mid).length≤100005:=by rw [List.length_append];omega
 by_cases hb:128≤k
 ·rw [encN_big hb] at he
  have et:((k:Int).tmod 128)=((k % 128:Nat):Int):=by rw [Int.tmod_eq_emod_of_nonneg (by omega)];omega
  have eq:((k:Int).tdiv 128)=((k / 128:Nat):Int):=by rw [Int.tdiv_eq_ediv_of_nonneg (by omega)];omega
  have e1:(IntKind.u8.wrap (((k % 128:Nat):Int)+128))=((UInt8.ofNat (k % 128+128)).toNat:Int):=by
   rw [u8_toNat (by omega),IntKind.wrap_u8];omega
  generalize hq:pre++mid=q at *
  simp (disch:=omega) only [go_sem,d1466_b0,et,e1]
  refine EvR_eq rfl rfl ?_
  simp (disch:=omega) only [go_sem,d1442_r0a,d1442_r0,L,eq]
  exact ⟨k / 128,by omega,mid++[UInt8.ofNat (k % 128+128)],k / 128,rfl,by rw [List.append_assoc];exact he,by omega,by rw [←List.append_assoc,hq]⟩
 ·rw [encN_small (by omega)] at he
  have e1:(IntKind.u8.wrap (k:Int))=((UInt8.ofNat k).toNat:Int):=by
   rw [u8_toNat (by omega),IntKind.wrap_u8];omega
  rw [←he,←List.append_assoc]
  generalize hq:pre++mid=q at *
  simp (disch:=omega) only [go_sem,d1466_b0,e1]
  refine EvR_eq rfl rfl ?_
  simp (disch:=omega) only [go_sem,d1442_r0a,d1442_r0,L]
def wnS (l:List Int) (i:Nat):St:=⟨[(4,.own 1 0),(13,.sl 1 (ints l)),(14,.int .i64 l.length),(15,.int .i64 (i:Int))],[.row false (u8c (encN l.length++encL (l.take i)))],0,[(0,1,[4,13,14,15],[(4,0)])]⟩
theorem wnumbers_run {l:List Int} (h:okRo3 l):runP tab 1674 [.sl 1 (ints l)] []=some (.tup [.str (encRo l),.int .i64 0],[]):=by
 obtain ⟨hl,ho⟩:=h
 refine runP_fn t1674 rfl ?_
 have L:=ints_length l
 have gl:=lay_run (n:=l.length) (by omega)
 have h5:=encN_len (n:=l.length) (by omega)
 have U:=u8c_len (encN l.length)
 simp (disch:=omega) only [go_sem,d1674,L,gl,U]
 refine Ev_loop0 (wnS l) l.length (by simp [wnS,encL]) (fun i hi=>?_) ?_
 ·have e1:=ints_rdc0 hi
  obtain ⟨h0,h1⟩:=ho (l.getD i 0) (by rw [List.getD_eq_getElem?_getD,List.getElem?_eq_getElem hi];exact List.getElem_mem hi)
  have gm:=wmay_run (l.getD i 0)
  rw [decide_eq_true (show 0≤l.getD i 0∧l.getD i 0≤2147483647 from ⟨h0,h1⟩)] at gm
  have k1:=encL_len (l:=l.take i) (fun x hx=>ho x (List.mem_of_mem_take hx))
  rw [List.length_take] at k1
  have gn:=laym_run (pre:=encN l.length++encL (l.take i)) (by rw [List.length_append];omega) (n:=(l.getD i 0).toNat) (by omega)
  rw [show (((l.getD i 0).toNat:Nat):Int)=l.getD i 0 by omega] at gn
  have k2:=encN_len (n:=(l.getD i 0).toNat) (by omega)
  have k3:(encN l.length++encL (l.take i)).length≤100000:=by rw [List.length_append];omega
  unfold wnS
  rw [take_snoc 0 hi,encL_snoc,←List.append_assoc]
  generalize encN l.length++encL (l.take i)=pre at *
  have U2:=u8c_len pre
  have U3:=u8c_len (pre++encN (l.getD i 0).toNat)
  have k4:(pre++encN (l.getD i 0).toNat).length≤100005:=by rw [List.length_append];omega
  simp (disch:=omega) only [go_sem,d1674_b0,L,e1,gm,gn,U2,U3]
 ·unfold wnS
  rw [List.take_length]
  have U2:=u8c_len (encN l.length++encL l)
  have k1:=encL_len ho
  have k3:(encN l.length++encL l).length≤100000:=by rw [List.length_append];omega
  simp (disch:=omega) only [go_sem,d1674_b0,L,U2,encRo]
theorem layrow_run {l:List Int} (h:okRo3 l):runP tab 1668 [.sl 1 (ints l)] []=some (.str (encRo l),[]):=by
 have g:=wnumbers_run h
 refine runP_fn t1668 rfl ?_
 simp (disch:=omega) only [go_sem,d1668,g]
theorem rnumbers_run {l:List Int} (h:okRo3 l):runP tab 1669 [.sl 1 (ints l)] []=some (.tup [.str (encRo l),.int .i64 0],[]):=by
 obtain ⟨hl,ho⟩:=h
 refine runP_fn t1669 rfl ?_
 have L:=ints_length l
 have gl:=rnumber_run (n:=l.length) (by omega) (by omega)
 rw [Int.toNat_natCast] at gl
 have h5:=encN_len (n:=l.length) (by omega)
 simp (disch:=omega) only [go_sem,d1669,L,gl]
 refine Ev_loop0 (fun i=>⟨[(0,.sl 1 (ints l)),(4,.str (encN l.length++encL (l.take i))),(6,.int .i64 (i:Int))],[],0,[(0,0,[0,4,6],[])]⟩) l.length (by simp [encL]) (fun i hi=>?_) ?_
 ·have e1:=ints_rdc0 hi
  obtain ⟨h0,h1⟩:=ho (l.getD i 0) (by rw [List.getD_eq_getElem?_getD,List.getElem?_eq_getElem hi];exact List.getElem_mem hi)
  have gn:=rnumber_run h0 h1
  have k1:=encL_len (l:=l.take i) (fun x hx=>ho x (List.mem_of_mem_take hx))
  rw [List.length_take] at k1
  have k2:=encN_len (n:=(l.getD i 0).toNat) (by omega)
  rw [take_snoc 0 hi,encL_snoc]
  simp (disch:=omega) only [go_sem,d1669_b0,L,e1,gn,List.length_append,List.append_assoc]
 ·rw [List.take_length]
  simp (disch:=omega) only [go_sem,d1669_b0,L,encRo]
theorem rrdrow_no {s:Txt} (hs:s.length≤1000000) {i:Nat} (hi:i≤s.length) (h:rdR s i=none):runP tab 1678 [.str s,.int .i64 (i:Int)] []=some (.tup (rrA none),[]):=by
 unfold rdR at h
 have g:=rrd_run hs hi
 cases h2:rdN s i with
 | none=>
  rw [h2] at g
  simp only [rdA] at g
  refine runP_fn t1678 rfl ?_
  simp (disch:=omega) only [go_sem,d1678,g,rrA]
 | some p=>
  obtain ⟨n,j⟩:=p
  rw [h2] at h g
  simp only [rdA] at g
  simp only at h
  have b:=rdN_sound h2
  by_cases hn:n≤4000
  ·rw [if_pos hn] at h
   obtain ⟨z1,z2⟩:=rsZ_none (by omega) h
   refine runP_fn t1678 rfl ?_
   simp (disch:=omega) only [go_sem,d1678,g]
   refine Ev_inv (fun k st=>∃ (acc:List Int) (j':Nat),rsL k s j' acc=none∧rsZ k s j'=rsZ n s j∧acc.length+k=n∧j'≤s.length∧st=nwS s n j' acc) ?_ (i:=n) ⟨[],j,h,rfl,by simp,by omega,rfl⟩
   rintro k st ⟨acc,j',h1,hz,h3,h4,rfl⟩
   have L:=ints_length acc
   have g2:=rrd_run hs h4
   cases k with
   | succ k=>
    simp only [rsL] at h1
    simp only [rsZ] at hz
    cases h5:rdN s j' with
    | some q=>
     obtain ⟨v,e'⟩:=q
     rw [h5] at h1 hz g2
     simp only [rdA] at h1 hz g2
     have b2:=rdN_sound h5
     have em:ints acc++[.int .i64 (v:Int)]=ints (acc++[(v:Int)]):=by simp [ints]
     have hk:k<k+1:=by omega
     have key:∃ (a2:List Int) (j2:Nat),rsL k s j2 a2=none∧rsZ k s j2=rsZ n s j∧a2.length+k=n∧j2≤s.length∧nwS s n e' (acc++[(v:Int)])=nwS s n j2 a2:=⟨_,_,h1,hz,by simp;omega,by omega,rfl⟩
     have e3:((acc++[(v:Int)]).length:Int)=(acc.length:Int)+1:=by simp
     unfold nwS at key ⊢
     rw [e3] at key
     simp (disch:=omega) only [go_sem,d1678_b0,g2,L,em]
     exact ⟨k,hk,key⟩
    | none=>
     rw [h5] at g2
     simp only [rdA] at g2
     unfold nwS
     simp (disch:=omega) only [go_sem,d1678_b0,g2,L,rrA]
   | zero=>cases h1
  ·refine runP_fn t1678 rfl ?_
   clear h
   simp (disch:=omega) only [go_sem,d1678,g,rrA]
theorem im_row {s:Txt} (hs:s.length≤1000000) {i:Nat} (hi:i≤s.length):runP tab 1678 [.str s,.int .i64 (i:Int)] []=some (.tup (rrA (rdR s i)),[]):=by
 cases h:rdR s i with
 | none=>exact rrdrow_no hs hi h
 | some p=>obtain ⟨l,e⟩:=p;exact rrdrow_run hs hi h
def plA:Option (Pic3 × Nat)→List AV
 | some (p,e)=>[.vec 1 (ints p.1),.vec 1 (strs p.2),.int .i64 e,.bool true]
 | none=>[.vec 1 [],.vec 1 [],.int .i64 0,.bool false]
def pwS (s:Txt) (l:List Int) (n j:Nat) (acc:List Txt):St:=⟨[(0,.str s),(8,.own 1 0),(11,.int .i64 (n:Int)),(12,.int .i64 (j:Int)),(14,.own 1 1),(15,.int .i64 (acc.length:Int))],[.row false (ints l),.row false (strs acc)],0,[(0,2,[0,8,11,12,14,15],[(8,0),(14,1)])]⟩
theorem im_place {s:Txt} (hs:s.length≤1000000) {i:Nat} (hi:i≤s.length):runP tab 1673 [.str s,.int .i64 (i:Int)] []=some (.tup (plA (rdPl s i)),[]):=by
 have g:=im_row hs hi
 unfold rdPl
 cases h1:rdR s i with
 | none=>
  rw [h1] at g
  simp only [rrA] at g
  have g2:=rrd_run hs (Nat.zero_le s.length)
  rw [show ((0:Nat):Int)=0 from rfl] at g2
  refine runP_fn t1673 rfl ?_
  cases h2:rdN s 0 with
  | none=>
   rw [h2] at g2
   simp only [rdA] at g2
   simp (disch:=omega) only [go_sem,d1673,g,g2,plA]
  | some q=>
   obtain ⟨n,j⟩:=q
   rw [h2] at g2
   simp only [rdA] at g2
   simp (disch:=omega) only [go_sem,d1673,g,g2,plA]
 | some q=>
  obtain ⟨l,e⟩:=q
  rw [h1] at g
  simp only [rrA] at g
  have b:=rdR_le h1
  have L:=ints_length l
  have g2:=rrd_run hs (show e≤s.length from b.2.1)
  simp only
  unfold rdWd rowsG rdL
  refine runP_fn t1673 rfl ?_
  cases h2:rdN s e with
  | none=>
   rw [h2] at g2
   simp only [rdA] at g2
   simp (disch:=omega) only [go_sem,d1673,g,g2,plA,L]
  | some q=>
   obtain ⟨n,j⟩:=q
   rw [h2] at g2
   simp only [rdA] at g2
   have b2:=rdN_sound h2
   simp only
   by_cases hn:n≤8
   ·rw [if_pos hn]
    simp only
    simp (disch:=omega) only [go_sem,d1673,g,g2,L]
    refine Ev_inv (fun k st=>∃ (acc:List Txt) (j':Nat),repsG rdT k s j' acc=repsG rdT n s j []∧acc.length+k=n∧j'≤s.length∧st=pwS s l n j' acc) ?_ (i:=n) ⟨[],j,rfl,by simp,by omega,rfl⟩
    rintro k st ⟨acc,j',h1,h3,h4,rfl⟩
    have L2:=strs_length acc
    have g3:=rrdt_run hs h4
    rw [←h1]
    cases k with
    | succ k=>
     simp only [repsG] at h1 ⊢
     cases h5:rdT s j' with
     | none=>
      rw [h5] at g3
      simp only [rtA] at g3
      unfold pwS
      simp (disch:=omega) only [go_sem,d1673_b0,g3,L2,plA]
     | some q=>
      obtain ⟨t,e'⟩:=q
      rw [h5] at h1 g3
      simp only [rtA] at h1 g3
      have b3:=rdT_sound h5
      have em:strs acc++[.str t]=strs (acc++[t]):=by simp [strs]
      have hk:k<k+1:=by omega
      have key:∃ (a2:List Txt) (j2:Nat),repsG rdT k s j2 a2=repsG rdT n s j []∧a2.length+k=n∧j2≤s.length∧pwS s l n e' (acc++[t])=pwS s l n j2 a2:=⟨_,_,h1,by simp;omega,by omega,rfl⟩
      have e3:((acc++[t]).length:Int)=(acc.length:Int)+1:=by simp
      unfold pwS at key ⊢
      rw [e3,←h1] at key
      simp (disch:=omega) only [go_sem,d1673_b0,g3,L2,em]
      exact ⟨k,hk,key⟩
    | zero=>
     simp only [repsG]
     unfold pwS
     simp (disch:=omega) only [go_sem,d1673_b0,L2,plA]
   ·rw [if_neg hn]
    simp (disch:=omega) only [go_sem,d1673,g,g2,plA,L]
end Go.Proofs.Ytgdfncnpcdafmaa
