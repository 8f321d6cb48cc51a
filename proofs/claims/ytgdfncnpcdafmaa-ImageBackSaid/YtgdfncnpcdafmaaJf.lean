import Derived.Test.YtgdfncnpcdafmaaJd
namespace Go.Proofs.Ytgdfncnpcdafmaa
set_option linter.unusedSimpArgs false
set_option linter.unusedVariables false
set_option maxHeartbeats 4000000
set_option maxRecDepth 100000
theorem parse_short {s:Txt} (hs:s.length≤2100):runP tabM 1666 [.str s] []=some (.tup (paA wdPc s),[]):=
 parse_run (by omega) fun L h=>by
  obtain ⟨h1,h2,h3⟩:=rdG_snd h
  exact grPc_ok h1 (by rw [←h3,List.length_take];omega)
theorem pcs_len2:∀ (L:List Pic3) (k:Nat),(∀ p∈L,okPl3 p∧∀ t∈p.2,t.length≤12)→(L.flatMap encPc).length≤5*(edPc k L).length+L.length*146
 | [],_,_=>by simp
 | p::L,k,h=>by
  obtain ⟨⟨⟨h1,h2⟩,h3,h4⟩,h5⟩:=h p (by simp)
  have ih:=pcs_len2 L (k+1) fun q hq=>h q (by simp [hq])
  have a1:=encL_len h2
  have a2:=encN_len (n:=p.1.length) (by omega)
  have a3:=encN_len (n:=p.2.length) (by omega)
  have a4:∀ w:List Txt,(∀ t∈w,t.length≤12)→(w.flatMap encT).length≤w.length*17:=by
   intro w hw
   induction w with
   | nil=>simp
   | cons t w ih=>
    have:=encN_len (n:=t.length) (by have:=hw t (by simp);omega)
    have:=hw t (by simp)
    have:=ih fun x hx=>hw x (by simp [hx])
    simp only [List.flatMap_cons,encT,List.length_append,List.length_cons] at this ⊢
    omega
  have a5:=a4 p.2 h5
  simp only [List.flatMap_cons,encPc,encRo,encWd,edPc,List.length_append,List.length_map,List.length_cons]
  omega
theorem img_len {g:Gr} (hb:isB g=true):(imG g).length≤100000:=by
 have hw:=isB_W hb
 obtain ⟨n,hn,n1,n2,n3,_⟩:=isB_pl hb
 have hk:okB g=true:=by simp only [isB,Bool.and_eq_true] at hb;exact hb.1
 obtain ⟨_,_,hk⟩:=okB_iff.1 hk
 have h1:=pcs_len2 (ptsG g) 0 fun p hp=>⟨(pts_ok hb).2 p hp,fun t ht=>by
  simp only [ptsG,List.mem_map,List.mem_range] at hp
  obtain ⟨v,hv,rfl⟩:=hp
  have:=(hk v hv).2 t ht
  simp only [wordB,Bool.and_eq_true,decide_eq_true_eq] at this
  omega⟩
 rw [pts_E hb,pts_len] at h1
 have h2:=encN_len (n:=(ptsG g).length) (by rw [pts_len];omega)
 simp only [imG,encIm,List.length_append,List.length_cons,List.length_nil]
 omega
theorem grPc_okE {L:List Pic3} (h:okLs3 L) (he:(edPc 0 L).length≤2100):okG (grPc L):=by
 have h3:=h.1
 have hr:∀ i,okWd3 (L.getD i ([],[])).2:=fun i=>by
  rcases getD_or L i ([],[]) with h' | h'
  ·exact (h.2 _ h').2
  ·rw [h'];exact ⟨by simp,by simp⟩
 refine ⟨⟨by simp only [grPc];omega,by simp only [grPc];omega⟩,he,by simp only [grPc,wdP_len];omega,fun i hi=>?_,fun i hi s hs=>?_⟩
 ·have:=(hr i).1
  simp only [grPc,wdP_w];omega
 ·simp only [grPc,wdP_w] at hs
  exact (hr i).2 s hs
theorem parse_img {g:Gr} (hb:isB g=true):runP tabM 1666 [.str (imG g)] []=some (.tup [.agg (gV (ptsG g).length (edPc 0 (ptsG g)) (wdPc (ptsG g))),.int .i64 0],[]):=by
 have hl:=img_len hb
 have:=parse_run (s:=imG g) (by omega) fun L h=>by
  have h2:=rdG_cmp (pts_ok hb) []
  rw [List.append_nil] at h2
  change rdIm (imG g)=_ at h2
  rw [h] at h2
  injection h2 with h2
  injection h2 with h2 _
  subst h2
  obtain ⟨n,hn,n1,n2,n3,_⟩:=isB_pl hb
  exact grPc_okE (pts_ok hb) (by rw [pts_E hb];omega)
 rw [this,paA,imA_img hb]
theorem encN0:encN 0=[0]:=encN_small (by omega)
theorem encN1:encN 1=[1]:=encN_small (by omega)
theorem encN2:encN 2=[2]:=encN_small (by omega)
theorem gck_zero:runP tab 1214 [.agg [.int .i64 0,.sl 1 [],.sl 1 []]] []=some (.bool false,[]):=by
 refine runP_fn t1214 rfl ?_
 simp (disch:=omega) only [go_sem,d1214]
theorem isg_zero:runP tab 1208 [.agg [.int .i64 0,.sl 1 [],.sl 1 []]] []=some (.bool false,[]):=by
 refine runP_fn t1208 rfl ?_
 simp (disch:=omega) only [go_sem,d1208,gck_zero]
theorem print_zero:runP tab 1663 [.agg [.int .i64 0,.sl 1 [],.sl 1 []]] []=some (.tup [.str [],.int .i64 20],[]):=by
 refine runP_fn t1663 rfl ?_
 simp (disch:=omega) only [go_sem,d1663,isg_zero]
def gi1:Gr:=⟨2,[(0,1)],[none,some [[97,98]]]⟩
theorem gi1_ok:okG gi1:=⟨⟨by decide,by decide⟩,by decide,by decide,by decide,by decide⟩
theorem gi1_isB:isB gi1=true:=by
 unfold isB
 rw [show okB gi1=true by decide,show ascB ltE gi1.E=true from ascB_iff.2 (by simp [gi1,asc]),wAsc_yes fun i hi=>by
  have hi:i<2:=hi
  rcases (show i=0∨i=1 by omega) with rfl | rfl
  ·exact .nil
  ·show asc ltS [[97,98]]
   simp [asc]]
 rfl
theorem gi1_pts:ptsG gi1=[([1],[]),([],[[97,98]])]:=by rfl
theorem gi1_img:imG gi1=[119,103,2,1,1,0,0,1,2,97,98]:=by
 rw [imG,gi1_pts]
 simp only [encIm,encPc,encRo,encWd,encL,encT,List.flatMap_cons,List.flatMap_nil,List.length_cons,List.length_nil,List.append_nil,List.nil_append,List.cons_append,Nat.zero_add,Nat.reduceAdd,Int.toNat_one,encN0,encN1,encN2]
theorem bad_img:imA [119,103,1,1,1,0]=none:=by
 have e:[119,103,1,1,1,0]=encIm [([1],[])]:=by
  simp only [encIm,encPc,encRo,encWd,encL,encT,List.flatMap_cons,List.flatMap_nil,List.length_cons,List.length_nil,List.append_nil,List.nil_append,List.cons_append,Nat.zero_add,Nat.reduceAdd,Int.toNat_one,encN0,encN1,encN2]
 have h:okLs3 [([1],[])]:=⟨by simp,by simp [okPl3,okRo3,okWd3,okIn3]⟩
 have:=rdG_cmp h []
 rw [List.append_nil] at this
 rw [e,imA,this]
 simp only
 rw [if_neg]
 rintro ⟨_,hb⟩
 simp only [isB,Bool.and_eq_true] at hb
 have:okB (grPc [([1],[])])=false:=by decide
 rw [this] at hb
 cases hb.1
theorem images_run:runP tabM 1665 [] []=some (.bool true,[]):=by
 refine runP_fn (show tabM 1665=some (.fn d1665) from t1665) rfl ?_
 have p1:=up (print_run gi1_ok)
 have q1:=parse_img gi1_isB
 have q2:=parse_short (s:=[119,103,1,1,1,0]) (by decide)
 have s2:=up (sameG_run (a:=gi1) (b:=gi1) gi1_ok gi1_ok)
 have z:=up print_zero
 rw [paA,bad_img] at q2
 simp only [prA,gi1_isB,if_true] at p1
 rw [gi1_img] at p1 q1
 rw [gi1_pts] at q1
 rw [show sameB gi1 gi1=true by decide] at s2
 simp only [gS,gV,gi1,prs,wcs,wos,wc,wo,strs,edPc,wdPc,List.flatMap_cons,List.flatMap_nil,List.map_cons,List.map_nil,List.cons_append,List.nil_append,List.append_nil,List.length_cons,List.length_nil] at p1 q1 q2 s2
 simp (disch:=omega) only [go_sem,d1665,p1,q1,q2,s2,z]
theorem prints_law {g:Gr} (hf:gFit g):runP tabM 1658 [.agg (gS g)] []=some (.bool true,[]):=by
 refine runP_fn (show tabM 1658=some (.fn d1658) from t1658) rfl ?_
 have gb:=up (bigG_run hf)
 have gi:=images_run
 cases hb:bigB g with
 | true=>
  rw [hb] at gb
  simp only [gS] at gb
  simp (disch:=omega) only [go_sem,d1658,gS,gb]
 | false=>
  rw [hb] at gb
  have hg:=bigB_ok hf hb
  have ho:=oG_ok hg
  have go:=up (own_run hg)
  have gp:=up (print_run hg)
  have gr:=up (rprint_run ho)
  have e:prA (oG g)=prA g:=by rw [prA,prA,oG_isB,img_same (oG_same g)]
  rw [e] at gr
  have s2:=up (sameG_run hg ho)
  rw [oG_same] at s2
  obtain ⟨x,c,hx⟩:∃ x c,prA g=[.str x,.int .i64 c]:=by
   unfold prA;split
   ·exact ⟨_,_,rfl⟩
   ·exact ⟨_,_,rfl⟩
  rw [hx] at gp gr
  have hl3:(oG g).W.length≤250:=ho.w
  have hl4:(oG g).E.length≤2100:=ho.e
  clear ho e hx
  generalize oG g=O at *
  obtain ⟨n2,E2,W2⟩:=O
  simp only [gS,gV] at gb go gp gr s2 hl3 hl4
  simp (disch:=omega) only [go_sem,d1658,gS,gb,gi,go,gp,gr,s2]
theorem parses_law {s:Txt} (h63:s.length≤9223372036854775807):runP tabM 1659 [.str s] []=some (.bool true,[]):=by
 refine runP_fn (show tabM 1659=some (.fn d1659) from t1659) rfl ?_
 have gi:=images_run
 by_cases hs:s.length≤1000
 case neg=>simp (disch:=omega) only [go_sem,d1659]
 have gp:=parse_short (s:=s) (by omega)
 have gr:=up (rparse_run (s:=s) (by omega))
 obtain ⟨X,Y,c,hX,hY,hXY,e1,e2⟩:∃ X Y c,okG X∧okG Y∧sameB X Y=true∧paA wdPc s=[.agg (gV X.n X.E X.W),.int .i64 c]∧paA wdQ s=[.agg (gV Y.n Y.E Y.W),.int .i64 c]:=by
  unfold paA
  cases hi:imA s with
  | none=>exact ⟨zG,zG,30,zG_ok,zG_ok,by decide,rfl,rfl⟩
  | some L=>
   obtain ⟨h1,h2,h3,h4⟩:=imA_some hi
   exact ⟨grPc L,grQ L,0,grPc_ok h2 (by rw [←h4];omega),grQ_ok h2 (by rw [←h4];omega),grQ_same L,rfl,rfl⟩
 rw [e1] at gp
 rw [e2] at gr
 have s2:=up (sameG_run hX hY)
 rw [hXY] at s2
 have hl1:=hX.w
 have hl2:=hX.e
 have hl3:=hY.w
 have hl4:=hY.e
 clear hX hY hXY e1 e2
 obtain ⟨n1,E1,W1⟩:=X
 obtain ⟨n2,E2,W2⟩:=Y
 simp only [gS,gV] at gp gr s2 hl1 hl2 hl3 hl4
 simp (disch:=omega) only [go_sem,d1659,gi,gp,gr,s2]
theorem empty_img:imA []=none:=by
 rw [imA,show rdIm []=none by rw [rdIm,if_neg (by simp)]]
theorem back_law {g:Gr} (hf:gFit g):runP tabM 1660 [.agg (gS g)] []=some (.bool true,[]):=by
 refine runP_fn (show tabM 1660=some (.fn d1660) from t1660) rfl ?_
 have gb:=up (bigG_run hf)
 have gi:=images_run
 cases hb:bigB g with
 | true=>
  rw [hb] at gb
  simp only [gS] at gb
  simp (disch:=omega) only [go_sem,d1660,gS,gb]
 | false=>
  rw [hb] at gb
  have hg:=bigB_ok hf hb
  have gn:=up (norm_run hg)
  rw [nrmA_eq] at gn
  have ht:=tG_ok hg
  have gp:=up (print_run ht)
  unfold prA at gp
  rw [tG_isB] at gp
  have hl1:=ht.w
  have hl2:=ht.e
  unfold codeA at gn
  by_cases hk:okB g=true
  ·rw [if_pos hk] at gp gn
   have hi:isB (tG g)=true:=by rw [tG_isB];exact hk
   have gq:=parse_img hi
   obtain ⟨n,hn,n1,n2,n3,_⟩:=isB_pl hi
   have hP:=grPc_okE (pts_ok hi) (by rw [pts_E hi];omega)
   have s2:=up (sameG_run hP ht)
   rw [(gr_pts hi).1] at s2
   have hl3:=hP.w
   have hl4:=hP.e
   simp only [gS,gV,grPc] at gb gn gp gq s2 hl1 hl2 hl3 hl4
   clear hP ht hi hf hg n1 n2 n3 hn
   generalize imG (tG g)=I at *
   generalize (ptsG (tG g)).length=m at *
   generalize edPc 0 (ptsG (tG g))=E3 at *
   generalize wdPc (ptsG (tG g))=W3 at *
   generalize tG g=T at *
   obtain ⟨n1,E1,W1⟩:=T
   simp only at gb gn gp gq s2 hl1 hl2
   simp (disch:=omega) only [go_sem,d1660,gS,gb,gi,gn,gp,gq,s2]
  ·rw [if_neg hk] at gp gn
   have gq:=parse_short (s:=[]) (by simp)
   rw [paA,empty_img] at gq
   simp only [gS,gV,prs00,wos00] at gb gn gp gq hl1 hl2
   clear ht hf hg
   generalize tG g=T at *
   obtain ⟨n1,E1,W1⟩:=T
   simp only at gb gn gp gq hl1 hl2
   simp (disch:=omega) only [go_sem,d1660,gS,gb,gi,gn,gp,gq]
theorem same_law {s:Txt} (h63:s.length≤9223372036854775807):runP tabM 1661 [.str s] []=some (.bool true,[]):=by
 refine runP_fn (show tabM 1661=some (.fn d1661) from t1661) rfl ?_
 have gi:=images_run
 by_cases hs:s.length≤2000
 case neg=>simp (disch:=omega) only [go_sem,d1661]
 have gp:=parse_short (s:=s) (by omega)
 unfold paA at gp
 cases hi:imA s with
 | none=>
  rw [hi] at gp
  simp only [gV,prs00,wos00] at gp
  simp (disch:=omega) only [go_sem,d1661,gi,gp]
 | some L=>
  rw [hi] at gp
  obtain ⟨h1,h2,h3,h4⟩:=imA_some hi
  have ho:=grPc_ok h2 (by rw [←h4];omega)
  have gr:=up (print_run ho)
  have gs:=up (isg_run ho)
  rw [h1] at gs
  rw [prA,if_pos h1,←h3] at gr
  have hl1:=ho.w
  have hl2:=ho.e
  simp only [gS,gV,grPc] at gp gr gs hl1 hl2
  clear ho h1 h2 h3 h4 hi
  generalize edPc 0 L=E3 at *
  generalize wdPc L=W3 at *
  simp (disch:=omega) only [go_sem,d1661,gi,gp,gr,gs,beq_self_eq_true]
theorem front_eq {g h:Gr} (hg:isB g=true) (hh:isB h=true):((imG h).take (imG g).length == imG g)=sameB g h:=by
 cases hs:sameB g h with
 | true=>rw [img_same hs,List.take_length];simp
 | false=>
  simp only [beq_eq_false_iff_ne,ne_eq]
  intro e
  have:imG h=imG g++(imG h).drop (imG g).length:=by
   conv=>lhs;rw [←List.take_append_drop (imG g).length (imG h),e]
  rw [img_pre hg hh this] at hs
  cases hs
theorem front_law {g h:Gr} (hf:gFit g) (hf2:gFit h):runP tabM 1662 [.agg (gS g),.agg (gS h)] []=some (.bool true,[]):=by
 refine runP_fn (show tabM 1662=some (.fn d1662) from t1662) rfl ?_
 have gb:=up (bigG_run hf)
 have gb2:=up (bigG_run hf2)
 have gi:=images_run
 simp only [gS] at gb gb2
 cases hb:bigB g with
 | true=>
  rw [hb] at gb
  simp (disch:=omega) only [go_sem,d1662,gS,gb]
 | false=>
 cases hb2:bigB h with
 | true=>
  rw [hb] at gb
  rw [hb2] at gb2
  simp (disch:=omega) only [go_sem,d1662,gS,gb,gb2]
 | false=>
  rw [hb] at gb
  rw [hb2] at gb2
  have hg:=bigB_ok hf hb
  have hh:=bigB_ok hf2 hb2
  have gp:=up (print_run hg)
  have gp2:=up (print_run hh)
  have s2:=up (sameG_run hg hh)
  simp only [gS] at gp gp2 s2
  unfold prA at gp gp2
  by_cases c:isB g=true
  case neg=>
   rw [if_neg c] at gp
   by_cases c2:isB h=true
   ·rw [if_pos c2] at gp2
    simp (disch:=omega) only [go_sem,d1662,gS,gb,gb2,gp,gp2,gi]
   ·rw [if_neg c2] at gp2
    simp (disch:=omega) only [go_sem,d1662,gS,gb,gb2,gp,gp2,gi]
  rw [if_pos c] at gp
  have l1:=img_len c
  by_cases c2:isB h=true
  case neg=>
   rw [if_neg c2] at gp2
   simp (disch:=omega) only [go_sem,d1662,gS,gb,gb2,gp,gp2,gi]
  rw [if_pos c2] at gp2
  have l2:=img_len c2
  have fe:=front_eq c c2
  by_cases hl:(imG h).length<(imG g).length
  ·simp (disch:=omega) only [go_sem,d1662,gS,gb,gb2,gp,gp2,gi]
  ·generalize sameB g h=B at *
   generalize imG g=I at *
   generalize imG h=J at *
   cases B<;>simp (disch:=omega) only [go_sem,d1662,gS,gb,gb2,gp,gp2,gi,fe,s2]
end Go.Proofs.Ytgdfncnpcdafmaa
