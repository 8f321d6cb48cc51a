import Derived.Test.YtfbfbennheeglaaKx
namespace Go.Proofs.Ytfbfbennheeglaa
set_option linter.unusedSimpArgs false
set_option linter.unusedVariables false
def flat:AV→Bool
 | .int _ _ | .bool _ | .str _=>true
 |_=>false
section
variable {l:List AV}
theorem flat_cases {v:AV} (h:flat v=true):(∃ k n,v=.int k n)∨(∃ b,v=.bool b)∨(∃ s,v=.str s):=by
 cases v<;>simp [flat] at h
 ·exact .inr (.inl ⟨_,rfl⟩)
 ·exact .inl ⟨_,_,rfl⟩
 ·exact .inr (.inr ⟨_,rfl⟩)
theorem flat_allL {p:AV→Bool} (hi:∀ k n,p (.int k n)=true) (hb:∀ b,p (.bool b)=true) (hs:∀ s,p (.str s)=true):∀ {l:List AV},l.all flat=true→allL p l=true
 | [],_=>rfl
 |v::l,h=>by
  simp only [List.all_cons,Bool.and_eq_true] at h
  rw [allL,flat_allL hi hb hs h.2,Bool.and_true]
  rcases flat_cases h.1 with ⟨k,n,rfl⟩ | ⟨b,rfl⟩ | ⟨s,rfl⟩
  ·exact hi k n
  ·exact hb b
  ·exact hs s
theorem flat_mapL {f:AV→AV} (hi:∀ k n,f (.int k n)=.int k n) (hb:∀ b,f (.bool b)=.bool b) (hs:∀ s,f (.str s)=.str s):∀ {l:List AV},l.all flat=true→mapL f l=l
 | [],_=>rfl
 |v::l,h=>by
  simp only [List.all_cons,Bool.and_eq_true] at h
  rw [mapL,flat_mapL hi hb hs h.2]
  rcases flat_cases h.1 with ⟨k,n,rfl⟩ | ⟨b,rfl⟩ | ⟨s,rfl⟩
  ·simp only [AV.mapv,hi]
  ·simp only [AV.mapv,hb]
  ·simp only [AV.mapv,hs]
theorem flat_noidL (h:l.all flat=true):noidL l=true:=flat_allL (fun _ _=>rfl) (fun _=>rfl) (fun _=>rfl) h
theorem flat_noinlL (h:l.all flat=true):noinlL l=true:=flat_allL (fun _ _=>rfl) (fun _=>rfl) (fun _=>rfl) h
theorem flat_idltL {n:Nat} (h:l.all flat=true):idltL n l=true:=flat_allL (fun _ _=>rfl) (fun _=>rfl) (fun _=>rfl) h
theorem flat_noimmL (h:l.all flat=true):allL pnoimm l=true:=flat_allL (fun _ _=>rfl) (fun _=>rfl) (fun _=>rfl) h
theorem flat_frzL (h:l.all flat=true):frzL l=l:=flat_mapL (fun _ _=>rfl) (fun _=>rfl) (fun _=>rfl) h
theorem flat_renL {r:Nat→Nat} (h:l.all flat=true):renL r l=l:=flat_mapL (fun _ _=>rfl) (fun _=>rfl) (fun _=>rfl) h
theorem flat_idsL:∀ {l:List AV},l.all flat=true→idsL l=[]
 | [],_=>rfl
 |v::l,h=>by
  simp only [List.all_cons,Bool.and_eq_true] at h
  rw [idsL,flat_idsL h.2,List.append_nil]
  rcases flat_cases h.1 with ⟨k,n,rfl⟩ | ⟨b,rfl⟩ | ⟨s,rfl⟩<;>rfl
theorem flat_fzL {hp:List Blk}:∀ {l:List AV},l.all flat=true→fzL hp l=some l
 | [],_=>rfl
 |v::l,h=>by
  simp only [List.all_cons,Bool.and_eq_true] at h
  rw [fzL,flat_fzL h.2]
  rcases flat_cases h.1 with ⟨k,n,rfl⟩ | ⟨b,rfl⟩ | ⟨s,rfl⟩<;>rfl
theorem flat_pkL {n:Nat}:∀ {l:List AV} {hp:List Blk},l.all flat=true→pkL n hp l=some (l,hp)
 | [],_,_=>rfl
 |v::l,hp,h=>by
  simp only [List.all_cons,Bool.and_eq_true] at h
  rw [pkL]
  rcases flat_cases h.1 with ⟨k,m,rfl⟩ | ⟨b,rfl⟩ | ⟨s,rfl⟩<;>simp only [pk,Option.bind_some,flat_pkL h.2,Option.map_some]
theorem flat_pksL:∀ {l:List AV} {hp:List Blk},l.all flat=true→pksL hp l=some (l,hp)
 | [],_,_=>rfl
 |v::l,hp,h=>by
  simp only [List.all_cons,Bool.and_eq_true] at h
  rw [pksL]
  rcases flat_cases h.1 with ⟨k,m,rfl⟩ | ⟨b,rfl⟩ | ⟨s,rfl⟩<;>simp only [pks,pk,Option.bind_some,flat_pksL h.2,Option.map_some]
theorem flat_thawL:∀ {l:List AV} {hp:List Blk},l.all flat=true→thawL hp l=(l,hp)
 | [],_,_=>rfl
 |v::l,hp,h=>by
  simp only [List.all_cons,Bool.and_eq_true] at h
  rcases flat_cases h.1 with ⟨k,m,rfl⟩ | ⟨b,rfl⟩ | ⟨s,rfl⟩<;>simp only [thawL,thaw,flat_thawL h.2]
theorem flat_okc:∀ {l:List AV},l.all flat=true→l.all AV.okc=true
 | [],_=>rfl
 |v::l,h=>by
  simp only [List.all_cons,Bool.and_eq_true] at h ⊢
  refine ⟨?_,flat_okc h.2⟩
  rcases flat_cases h.1 with ⟨k,m,rfl⟩ | ⟨b,rfl⟩ | ⟨s,rfl⟩<;>rfl
end
def ints (l:List Int):List AV:=l.map (.int .i64)
theorem ints_cons (a:Int) (l:List Int):ints (a::l)=.int .i64 a::ints l:=rfl
theorem ints_length (l:List Int):(ints l).length=l.length:=by simp [ints]
theorem ints_append (a b:List Int):ints a++ints b=ints (a++b):=by simp [ints]
theorem ints_drop (l:List Int) (n:Nat):(ints l).drop n=ints (l.drop n):=by simp [ints]
theorem ints_take (l:List Int) (n:Nat):(ints l).take n=ints (l.take n):=by simp [ints]
theorem ints_snoc (l:List Int) (x:Int):ints l++[.int .i64 x]=ints (l++[x]):=by simp [ints]
theorem ints_set (l:List Int) (n:Nat) (x:Int):(ints l).set n (.int .i64 x)=ints (l.set n x):=by simp [ints,List.map_set]
theorem ints_take_all {l:List Int} {n:Nat} (h:l.length≤n):(ints l).take n=ints l:=List.take_of_length_le (by simpa [ints] using h)
theorem ints_flat (l:List Int):(ints l).all flat=true:=by simp [ints,flat]
theorem ints_okc (l:List Int):(ints l).all AV.okc=true:=flat_okc (ints_flat l)
theorem ints_idsL (l:List Int):idsL (ints l)=[]:=flat_idsL (ints_flat l)
theorem ints_noid (l:List Int):noidL (ints l)=true:=flat_noidL (ints_flat l)
theorem ints_noid' (l:List Int):allL pnoid (ints l)=true:=flat_noidL (ints_flat l)
theorem ints_noinl (l:List Int):noinlL (ints l)=true:=flat_noinlL (ints_flat l)
theorem ints_noinl' (l:List Int):allL pnoinl (ints l)=true:=flat_noinlL (ints_flat l)
theorem ints_noimm (l:List Int):allL pnoimm (ints l)=true:=flat_noimmL (ints_flat l)
theorem ints_idlt (n:Nat) (l:List Int):idltL n (ints l)=true:=flat_idltL (ints_flat l)
theorem ints_idlt' (n:Nat) (l:List Int):allL (pidlt n) (ints l)=true:=flat_idltL (ints_flat l)
theorem ints_frz (l:List Int):frzL (ints l)=ints l:=flat_frzL (ints_flat l)
theorem ints_frz' (l:List Int):mapL frz1 (ints l)=ints l:=flat_frzL (ints_flat l)
theorem ints_ren (r:Nat→Nat) (l:List Int):renL r (ints l)=ints l:=flat_renL (ints_flat l)
theorem ints_ren' (r:Nat→Nat) (l:List Int):mapL (ren1 r) (ints l)=ints l:=flat_renL (ints_flat l)
theorem ints_fz (hp:List Blk) (l:List Int):fzL hp (ints l)=some (ints l):=flat_fzL (ints_flat l)
theorem ints_pk (n:Nat) (hp:List Blk) (l:List Int):pkL n hp (ints l)=some (ints l,hp):=flat_pkL (ints_flat l)
theorem ints_pks (hp:List Blk) (l:List Int):pksL hp (ints l)=some (ints l,hp):=flat_pksL (ints_flat l)
theorem ints_thaw (hp:List Blk) (l:List Int):thawL hp (ints l)=(ints l,hp):=flat_thawL (ints_flat l)
theorem ints_rdc {l:List Int} {i:Nat} (h:i<l.length):rdc ((ints l).drop i) none=some (.int .i64 (l.getD i 0)):=by
 simp [rdc,ints,List.head?_drop,List.getD_eq_getElem?_getD,h]
theorem ints_rdc0 {l:List Int} {i:Nat} (h:i<l.length):rdc (ints (l.drop i)) none=some (.int .i64 (l.getD i 0)):=by rw [←ints_drop];exact ints_rdc h
attribute [go_sem] ints_okc ints_idsL ints_noid ints_noid' ints_noinl ints_noinl' ints_noimm ints_idlt ints_idlt' ints_frz ints_frz' ints_ren ints_ren' ints_fz ints_pk ints_pks ints_thaw ints_length ints_append ints_snoc
theorem take_len_drop {α:Type} (l:List α) (j:Nat):(l.drop j).take (l.length - j)=l.drop j:=List.take_of_length_le (by simp)
theorem first_ix (p:Nat→Prop) [DecidablePred p]:∀ n,(∀ i,i<n→p i)∨∃ m,m<n∧(∀ i,i<m→p i)∧¬ p m
 |0=>.inl (by omega)
 |n+1=>by
  rcases first_ix p n with h | ⟨m,h1,h2,h3⟩
  ·by_cases hp:p n
   ·exact .inl fun i hi=>if h':i<n then h i h' else by rw [show i=n by omega];exact hp
   ·exact .inr ⟨n,by omega,h,hp⟩
  ·exact .inr ⟨m,by omega,h2,h3⟩
theorem getD_mem {α:Type} {l:List α} {i:Nat} {d:α} (h:i<l.length):l.getD i d∈l:=by
 rw [List.getD_eq_getElem?_getD,List.getElem?_eq_getElem h];exact List.getElem_mem h
theorem mem_getD {α:Type} {l:List α} {x d:α} (h:x∈l):∃ i,i<l.length∧l.getD i d=x:=by
 obtain ⟨i,hi,rfl⟩:=List.getElem_of_mem h
 exact ⟨i,hi,by rw [List.getD_eq_getElem?_getD,List.getElem?_eq_getElem hi];rfl⟩
theorem take_snoc {α:Type} {l:List α} {i:Nat} (d:α) (h:i<l.length):l.take (i+1)=l.take i++[l.getD i d]:=by
 rw [List.take_add_one,List.getD_eq_getElem?_getD,List.getElem?_eq_getElem h];rfl
attribute [go_sem] unx_miss Option.any_some Nat.zero_div beq_self_eq_true Bool.true_or List.isEmpty_cons Int.zero_add bindParams bindTo Nat.zero_add Nat.add_zero if_pos if_neg cnd_pos cnd_neg grd_tpos grd_tneg grd_fpos grd_fneg astep sln slc part rowc Blk.cells Option.map_some Option.bind_some abin homesOf AV.idof pick_pos pick_neg wrap_id trim tidy gst_if List.all_cons List.all_nil Blk.idlt Blk.noidb idlt idltL noid noidL noinl noinlL noimm allL AV.allv pidlt pnoid pnoinl pnoimm Bool.and_true Bool.true_and Bool.and_self ints_rdc ints_rdc0 ints_take_all Int.toNat_natCast Nat.mul_one Nat.div_one List.length_nil List.length_cons List.take_nil List.take_zero List.take_succ_cons List.drop_zero List.drop_succ_cons List.getElem?_cons_zero List.getElem?_cons_succ List.head?_cons List.set_cons_zero List.set_cons_succ List.cons_append and_self and_true true_and Nat.le_refl Int.natCast_add Int.cast_ofNat_Int ne_eq not_false_eq_true implies_true results rvs rvv rsIds immIds nz nzc nz1 tupv Option.map_none List.map_cons List.map_nil fz fzL frz frzL frz1 mapL AV.mapv ren renL ren1 AV.ids idsL List.append_nil List.nil_append decide_true decide_false not_true_eq_false callP callM subHp putHp idxOf dedup List.reverse_nil List.reverse_cons List.contains_nil Bool.or_false Bool.false_or Bool.or_true Bool.not_true Bool.not_false thaw thawL setAll rdc_one rdc_row AV.cells AV.okc parts tile modify_zero modify_succ dec_pos dec_neg List.not_mem_nil or_false or_true true_or if_true swapAll swapSt swapBl swp renEnv Blk.ren Option.getD_some Option.getD_none Nat.zero_mul Nat.one_mul List.isEmpty_nil still tellK frzmH opnH opnAH opnMH ghost_opnM ghost_opnF ghost_pkb pkbH opnFH ownbH fin pk pkL pks pksL Blk.still cnt unpk cut cut3 Option.isSome_some Option.isSome_none Bool.false_eq_true Nat.sub_zero List.getD_cons_zero List.getD_cons_succ Nat.le_add_right Nat.zero_le List.length_append List.length_set ints_drop ints_take ints_set ghost_norm' take_len_drop List.length_take List.length_drop
def swq (o:Option Nat) (h s:Nat) (l:List (Nat × Nat)) (st:St):Option St:=match o with
 |some id=>if id=h then swapAll l st else (swapSt st s h).bind (swapAll l)
 |none=>swapAll l st
theorem swapAll_q (s h:Nat) (l:List (Nat × Nat)) (st:St):swapAll ((s,h)::l) st=swq (lk st.env s).idof h s l st:=by
 show (swapSt st s h).bind (swapAll l)=_
 unfold swq
 cases hid:(lk st.env s).idof with
 |none=>simp only [swapSt,hid,Option.bind_some]
 |some id=>
  by_cases e:id=h
  ·simp only [swapSt,hid,e,if_true,Option.bind_some]
  ·simp only [e,if_false]
theorem swq_same (h s:Nat) (l:List (Nat × Nat)) (st:St):swq (some h) h s l st=swapAll l st:=by unfold swq;simp
theorem swq_diff {id h:Nat} (e:id≠h) (s:Nat) (l:List (Nat × Nat)) (st:St):swq (some id) h s l st=(swapSt st s h).bind (swapAll l):=by unfold swq;simp [e]
theorem swq_no (h s:Nat) (l:List (Nat × Nat)) (st:St):swq none h s l st=swapAll l st:=rfl
theorem swapAll_none (st:St):swapAll [] st=some st:=rfl
attribute [go_sem] swapAll_q swq_same swq_diff swq_no swapAll_none
open Go.RowKit
mutual
theorem ren_noid {r:Nat→Nat}:∀ x:AV,x.allv pnoid=true→ren r x=x
 | .sl sz cs,h=>by simp only [AV.allv,Bool.and_eq_true] at h;simp only [ren,AV.mapv];rw [show mapL (ren1 r) cs=cs from renL_noid cs h.2];rfl
 | .ip cs,h=>by simp only [AV.allv,Bool.and_eq_true] at h;simp only [ren,AV.mapv];rw [show mapL (ren1 r) cs=cs from renL_noid cs h.2];rfl
 | .vec sz cs,h=>by simp only [AV.allv,Bool.and_eq_true] at h;simp only [ren,AV.mapv];rw [show mapL (ren1 r) cs=cs from renL_noid cs h.2];rfl
 | .box cs,h=>by simp only [AV.allv,Bool.and_eq_true] at h;simp only [ren,AV.mapv];rw [show mapL (ren1 r) cs=cs from renL_noid cs h.2];rfl
 | .agg cs,h=>by simp only [AV.allv,Bool.and_eq_true] at h;simp only [ren,AV.mapv];rw [show mapL (ren1 r) cs=cs from renL_noid cs h.2];rfl
 | .tup cs,h=>by simp only [AV.allv,Bool.and_eq_true] at h;simp only [ren,AV.mapv];rw [show mapL (ren1 r) cs=cs from renL_noid cs h.2];rfl
 | .mp ks vs,h=>by simp only [AV.allv,Bool.and_eq_true] at h;simp only [ren,AV.mapv];rw [show mapL (ren1 r) ks=ks from renL_noid ks h.2.1,show mapL (ren1 r) vs=vs from renL_noid vs h.2.2];rfl
 | .clo f ks vs,h=>by simp only [AV.allv,Bool.and_eq_true] at h;simp only [ren,AV.mapv];rw [show mapL (ren1 r) ks=ks from renL_noid ks h.2.1,show mapL (ren1 r) vs=vs from renL_noid vs h.2.2];rfl
 | .ifc t v,h=>by simp only [AV.allv,Bool.and_eq_true] at h;simp only [ren,AV.mapv];rw [show v.mapv (ren1 r)=v from ren_noid v h.2];rfl
 | .unk,_=>rfl
 | .any,_=>rfl
 | .maybe _ _,_=>rfl
 | .bool _,_=>rfl
 | .int _ _,_=>rfl
 | .str _,_=>rfl
 | .nils,_=>rfl
 | .nilp,_=>rfl
 | .nilf,_=>rfl
 | .nili,_=>rfl
 | .nilm,_=>rfl
 | .own _ _,h=>by simp [AV.allv,pnoid] at h
 | .osl _ _ _ _,h=>by simp [AV.allv,pnoid] at h
 | .ref _ _,h=>by simp [AV.allv,pnoid] at h
 | .mref _,h=>by simp [AV.allv,pnoid] at h
 | .yld _,h=>by simp [AV.allv,pnoid] at h
theorem renL_noid {r:Nat→Nat}:∀ l:List AV,allL pnoid l=true→renL r l=l
 | [],_=>rfl
 |x::xs,h=>by
  simp only [allL,Bool.and_eq_true] at h
  simp only [renL,mapL]
  rw [show x.mapv (ren1 r)=x from ren_noid x h.1,show mapL (ren1 r) xs=xs from renL_noid xs h.2]
end
mutual
theorem idlt_noid {n:Nat}:∀ x:AV,x.allv pnoid=true→x.allv (pidlt n)=true
 | .sl sz cs,h=>by simp only [AV.allv,Bool.and_eq_true] at h ⊢;exact ⟨rfl,idltL_noid cs h.2⟩
 | .ip cs,h=>by simp only [AV.allv,Bool.and_eq_true] at h ⊢;exact ⟨rfl,idltL_noid cs h.2⟩
 | .vec sz cs,h=>by simp only [AV.allv,Bool.and_eq_true] at h ⊢;exact ⟨rfl,idltL_noid cs h.2⟩
 | .box cs,h=>by simp only [AV.allv,Bool.and_eq_true] at h ⊢;exact ⟨rfl,idltL_noid cs h.2⟩
 | .agg cs,h=>by simp only [AV.allv,Bool.and_eq_true] at h ⊢;exact ⟨rfl,idltL_noid cs h.2⟩
 | .tup cs,h=>by simp only [AV.allv,Bool.and_eq_true] at h ⊢;exact ⟨rfl,idltL_noid cs h.2⟩
 | .mp ks vs,h=>by simp only [AV.allv,Bool.and_eq_true] at h ⊢;exact ⟨rfl,idltL_noid ks h.2.1,idltL_noid vs h.2.2⟩
 | .clo f ks vs,h=>by simp only [AV.allv,Bool.and_eq_true] at h ⊢;exact ⟨rfl,idltL_noid ks h.2.1,idltL_noid vs h.2.2⟩
 | .ifc t v,h=>by simp only [AV.allv,Bool.and_eq_true] at h ⊢;exact ⟨rfl,idlt_noid v h.2⟩
 | .unk,h=>by simp [AV.allv,pnoid] at h
 | .any,_=>rfl
 | .maybe _ _,_=>rfl
 | .bool _,_=>rfl
 | .int _ _,_=>rfl
 | .str _,_=>rfl
 | .nils,_=>rfl
 | .nilp,_=>rfl
 | .nilf,_=>rfl
 | .nili,_=>rfl
 | .nilm,_=>rfl
 | .own _ _,h=>by simp [AV.allv,pnoid] at h
 | .osl _ _ _ _,h=>by simp [AV.allv,pnoid] at h
 | .ref _ _,h=>by simp [AV.allv,pnoid] at h
 | .mref _,h=>by simp [AV.allv,pnoid] at h
 | .yld _,h=>by simp [AV.allv,pnoid] at h
theorem idltL_noid {n:Nat}:∀ l:List AV,allL pnoid l=true→allL (pidlt n) l=true
 | [],_=>rfl
 |x::xs,h=>by
  simp only [allL,Bool.and_eq_true] at h ⊢
  exact ⟨idlt_noid x h.1,idltL_noid xs h.2⟩
end
section
variable {P:Program} {fid:FuncId→Option Nat} {T:Nat→Option Entry}
def RunsQ (P:Program) (fid:FuncId→Option Nat) (nt:Nat) (c:Code) (st:St) (Q:Res→Prop):Prop:=∀ (fr0 fr:Nat→Prop) w0 m a w,SInv P fid fr0 fr w0 nt m st a w→c.wpIn (FF none) 0 P (fun ex a' w'=>∃ r,Q r∧Post P fid fr0 fr w0 nt m st.lo r ex a' w') a w
theorem runsQ_of (G:Good P fid T) {nt:Nat} {c:Code} {s:Stmt} {st:St} {r:Res} {Q:Res→Prop} (hc:CodeS P fid nt c s) (h:run T (.stmt s st)=some r) (hQ:Q r):RunsQ P fid nt c st Q:=by
 intro fr0 fr w0 m a w S
 obtain ⟨n,hn⟩:=run_some.1 h
 exact wpIn_mono (says G n _ _ hn c fr0 fr w0 nt m a w none hc (.inl rfl) S) (fun ex a w h=>⟨r,hQ,h⟩)
theorem runsQ_seq {nt:Nat} {cx cy:Code} {st:St} {Q1 Q2:Res→Prop} (h1:RunsQ P fid nt cx st Q1) (h2:∀ r,Q1 r→(r.1=.normal→RunsQ P fid nt cy r.2 Q2)∧(r.1≠.normal→Q2 r)):RunsQ P fid nt (.seq cx cy) st Q2:=by
 intro fr0 fr w0 m a w S
 refine wpIn_seq (wpIn_mono (h1 fr0 fr w0 m a w S) ?_)
 rintro ex a1 w1 ⟨r1,hq,rfl,fr1,w1',m1,hW1,hF1,hlo1,S1⟩
 obtain ⟨k1,k2⟩:=h2 r1 hq
 cases hx:r1.1 with
 |normal=>
  refine wpIn_mono (k1 hx fr0 fr1 w1' m1 a1 w1 S1) ?_
  rintro ex a2 w2 ⟨r,hr,h⟩
  exact ⟨r,hr,h.after hW1 hF1 hlo1⟩
 |exit id=>exact ⟨r1,k2 (by rw [hx];simp),by rw [hx],fr1,w1',m1,hW1,hF1,hlo1,S1⟩
 |ret=>exact ⟨r1,k2 (by rw [hx];simp),by rw [hx],fr1,w1',m1,hW1,hF1,hlo1,S1⟩
theorem runsQ_cond {nt:Nat} {o:Operand} {x:SX} {cy cz:Code} {st:St} {Q:Res→Prop} (hx:opd fid o=some x) {e b:Bool} (hb:st.ev x=.maybe e b) (h1:e=true∨b=true→RunsQ P fid nt cy st Q) (h2:e=true∨b=false→RunsQ P fid nt cz st Q):RunsQ P fid nt (.cond o cy cz) st Q:=by
 intro fr0 fr w0 m a w S
 have hv:=opd_ok (st:=st) S.cd hx S.e
 rw [hb] at hv
 simp only [C] at hv
 obtain ⟨t,hv,ht⟩:=hv
 refine wpIn_cond hv ?_
 cases t with
 |false=>exact h2 (by cases e with | true=>exact .inl rfl | false=>exact .inr (ht rfl).symm) fr0 fr w0 m a w S
 |true=>exact h1 (by cases e with | true=>exact .inl rfl | false=>exact .inr (ht rfl).symm) fr0 fr w0 m a w S
theorem runsQ_call {f:FuncId} {fn:Func} {c:Code} {as:List AV} {hp:List Blk} {res:List RS} {r:Res} {ru:AV} {q:AV × List Blk} (h1:P.funcs[f]? = some fn) (h2:fn.body=some c) (h5:cres P fn.results.toList=some (res.map RS.rv)) (hs:RunsQ P fid fn.ntmps c ⟨bindParams 0 as,hp,hp.length,[]⟩ (·=r)) (hx:∀ id,r.1≠.exit id) (hres:results r.2.env r.2.hp res=some ru)
  (hf:fin hp.length (still r.2.hp (rsIds r.2.env r.2.hp res)) ru=some q):CallOk P fid f as hp q:=by
 refine fin_ok (hp':=still r.2.hp (rsIds r.2.env r.2.hp res)) (v:=ru) ?_ hf
 intro fr w0 m w args hP hcd H hC hsz
 refine callsIn_of_wp_marks h1 h2 trivial ?_
 have S:SInv P fid fr fr w0 fn.ntmps m ⟨bindParams 0 as,hp,hp.length,[]⟩ { tmps:=args++Array.replicate (fn.ntmps - args.size) undef,defers:=[] } w:=
  ⟨hP,hcd,H,env_params hC hsz _,by simp;omega,⟨fun _ h=>h,[],rfl,by simp,by simp⟩,Nat.le_refl _⟩
 refine wpIn_mono (hs fr fr w0 m _ w S) ?_
 rintro ex a' w' ⟨r',hr',he,fr',w1,m',hW,hF,hlo,S'⟩
 rw [hr'] at he hlo S'
 subst he
 obtain ⟨hsub,M,hM,hMn,hMm⟩:=S'.d
 have hMw:∀ r∈M,w'.heap[r]? = some (.deferred (some [])):=fun q hq=>by rw [(S'.h.fix q (hMm q hq).1).2];exact (hMm q hq).2.2
 have hb:LeavesInM Fence.wide 0 P fn a'.tmps (fun e w''=>∃ u m',e=.returned u∧Fwd fr hp.length m m'∧HInv fr w0 m' (still r.2.hp (rsIds r.2.env r.2.hp res)) w'' []∧R m' w'' ru u []) a'.defers .returning w':=by
  refine leaves_ok a'.defers M w' hM hMn hMw ?_
  intro w2 e1 e2 e3 e4 e5
  have H2:HInv fr w0 m' r.2.hp w2 []:=S'.h.narrow hW e1 e2 e3 e4 (fun g hne=>by
   have hgM:g∈M:=Classical.byContradiction fun h=>hne (e5 g h)
   exact ⟨(hMm g hgM).1,(hMm g hgM).2.1,fun o=>by simp [World.cell?,hMw g hgM]⟩)
  obtain ⟨v,hv1,hv2⟩:=results_ok (P:=P) H2 S'.e h5 hres
  obtain ⟨m3,E3,H3⟩:=H2.still (rsIds r.2.env r.2.hp res)
  have hl:hp.length≤m'.bl.length:=by
   have:=S'.l
   rw [hlo] at this
   rw [H2.len];exact this
  exact ⟨v,hv1,v,m3,rfl,hF.trans (E3.fwd hl),H3,R_mono E3.le (fun _ _=>rfl) hv2⟩
 cases hr:r.1 with
 |normal=>exact hb
 |ret=>exact hb
 |exit id=>exact absurd hr (hx id)
def cloneG (sz bytes:Nat) (as:List AV) (hps:List Blk):Option (AV × List Blk):=
 match as,hps with
 | [.sl s cs],[]=>if (s=sz∨cs=[])∧noinlL cs=true∧noidL cs=true∧cs.length / sz*bytes≤140737488355328∧cs.all AV.okc=true then some (.vec sz cs,[]) else none
 |_,_=>none
def cloneD (sz bytes:Nat) (z:List AV):Stmt:=.seq (.ops false [⟨some 2,.move (.val .nils),none⟩]) (.seq (.seq (.ops false [⟨some 3,.move (.tmp 0),none⟩,⟨some 4,.isnil false (.tmp 3),none⟩]) (.cond (.tmp 4) (.seq (.ops false [⟨some 2,.move (.val .nils),none⟩]) .ret) .skip)) (.seq (.ops false [⟨some 5,.lit false z sz 0 [],none⟩,⟨some 6,.move (.tmp 0),none⟩,⟨some 7,.append sz bytes (.tmp 5) (.tmp 6),none⟩,⟨some 2,.move (.tmp 7),none⟩]) .ret))
def cloneA (sz:Nat):Stmt:=.after (.after (.ops false [⟨some 2,.move (.val .nils),none⟩]) (.own sz 2)) (.push 0 [0,2])
def cloneC (sz:Nat):Stmt:=.seq (.ops false [⟨some 2,.move (.val .nils),none⟩]) (.ghost (.own sz 2) (.ghost (.norm 0) .ret))
def cloneE (sz bytes:Nat) (z:List AV):Stmt:=.seq (.ops false [⟨some 5,.lit true z sz 0 [],none⟩,⟨some 6,.move (.tmp 0),none⟩,⟨some 7,.append sz bytes (.tmp 5) (.tmp 6),none⟩,⟨some 2,.move (.tmp 7),none⟩]) (.ghost (.norm 0) .ret)
def noT:Nat→Option Entry:=fun _=>none
theorem run_of_Ev {s:Stmt} {st:St} {x:AX} {st':St} (h:Ev T s st (fun y s=>y=x∧s=st')):run T (.stmt s st)=some (x,st'):=by
 obtain ⟨⟨y,s⟩,h1,h2,h3⟩:=h
 simp only at h2 h3
 subst h2 h3
 exact h1
theorem codeS_like {nt:Nat} {c:Code} {s s':Stmt} (h:CodeS P fid nt c s) (he:erase s'=erase s) (hd:drawS c s'=drawS c s):CodeS P fid nt c s':=⟨by rw [he];exact h.1,by rw [hd];exact h.2.1,h.2.2⟩
theorem clone_ok {f:FuncId} {fn:Func} {c:Code} {sz bytes:Nat} {z:List AV} (h1:P.funcs[f]? = some fn) (h2:fn.body=some c) (h3:(fn.name == "runtime.NumGoroutine")=false) (h4:CodeS P fid fn.ntmps c (cloneD sz bytes z)) (h5:cres P fn.results.toList=some [.tmp 2]):EntryOk P fid f (.orc (cloneG sz bytes)):=by
 refine ⟨⟨fn,h1,by rw [h2];rfl,h3⟩,?_⟩
 intro as hps r hr
 unfold cloneG at hr
 split at hr
 ·rename_i s cs
  split at hr
  ·rename_i hc
   obtain ⟨hs,hni,hno,hby,hok⟩:=hc
   injection hr with hr;subst hr
   have G:Good P fid noT:=fun f k e _ h=>by cases h
   obtain ⟨ca,c1,rfl,hca,hc1⟩:=cc_seq h4
   obtain ⟨c2,cr,rfl,hc2,hcr⟩:=cc_seq hc1
   obtain ⟨co,c3,rfl,hco,hc3⟩:=cc_seq hc2
   obtain ⟨oo,cy,cz,rfl,hoo,hcy,hcz⟩:=cc_cond hc3
   have hidn:∀ n,allL (pidlt n) cs=true:=fun n=>idltL_noid cs hno
   have hren:∀ r,mapL (ren1 r) cs=cs:=fun r=>renL_noid cs hno
   have hids:idsL cs=[]:=noidL_ids cs hno
   let st1:St:=⟨[(0,.sl s cs),(2,.own sz 0)],[.row false []],0,[(0,1,[0,2],[(2,0)])]⟩
   let st2:St:=⟨(4,.maybe cs.isEmpty false)::(3,.sl s cs)::st1.env,[.row false []],0,[(0,1,[0,2],[(2,0)])]⟩
   let st3:St:=⟨[(0,.sl s cs),(2,.own sz 0)],[.row false cs],0,[(0,1,[0,2],[(2,0)])]⟩
   have rA:run noT (.stmt (cloneA sz) ⟨bindParams 0 [.sl s cs],[],0,[]⟩)=some (.normal,st1):=run_of_Ev (by
    simp (disch:=omega) only [go_sem,cloneA,st1])
   have rB:run noT (.stmt (.ops false [⟨some 3,.move (.tmp 0),none⟩,⟨some 4,.isnil false (.tmp 3),none⟩]) st1)=some (.normal,st2):=run_of_Ev (by
    simp (disch:=omega) only [go_sem,st1,st2])
   have rC:cs=[]→run noT (.stmt (cloneC sz) st2)=some (.ret,st3):=fun h=>run_of_Ev (by
    subst h
    simp (disch:=omega) only [go_sem,cloneC,st1,st2,st3,hidn,hren])
   have rE:run noT (.stmt (cloneE sz bytes z) st2)=some (.ret,st3):=run_of_Ev (by
    have hni':allL pnoinl cs=true:=hni
    simp (disch:=omega) only [go_sem,cloneE,st1,st2,st3,hs,hni',hby,Nat.zero_div,hidn,hren,slc])
   have e1:RunsQ P fid fn.ntmps (.seq ca (.seq (.seq co (.cond oo cy cz)) cr)) ⟨bindParams 0 [.sl s cs],[],0,[]⟩ (·=(.ret,st3)):=by
    refine runsQ_seq (runsQ_of (Q:=(·=(.normal,st1))) G (codeS_like hca (s':=cloneA sz) rfl (by obtain ⟨id,ops,rfl,_⟩:=cc_ops hca;rfl)) rA rfl) ?_
    rintro _ rfl
    refine ⟨fun _=>?_,fun h=>absurd rfl h⟩
    refine runsQ_seq (Q1:=fun r=>(cs=[]∧r=(.ret,st3))∨r=(.normal,st2)) ?_ ?_
    ·refine runsQ_seq (runsQ_of (Q:=(·=(.normal,st2))) G hco rB rfl) ?_
     rintro _ rfl
     refine ⟨fun _=>?_,fun h=>absurd rfl h⟩
     refine runsQ_cond hoo (e:=cs.isEmpty) (b:=false) rfl (fun h=>?_) (fun _=>?_)
     ·have h:cs=[]:=by simpa using h
      exact runsQ_of G (codeS_like hcy (s':=cloneC sz) rfl (by obtain ⟨x,y,rfl,hx,hy⟩:=cc_seq hcy;obtain rfl:=cc_ret hy;obtain ⟨id,ops,rfl,_⟩:=cc_ops hx;rfl)) (rC h) (.inl ⟨h,rfl⟩)
     ·exact runsQ_of G hcz (r:=(.normal,st2)) (run_of_Ev (by rw [Ev_skip];exact ⟨rfl,rfl⟩)) (.inr rfl)
    ·rintro _ (⟨_,rfl⟩ | rfl)
     ·exact ⟨fun h=>(by cases h),fun _=>rfl⟩
     ·refine ⟨fun _=>?_,fun h=>absurd rfl h⟩
      exact runsQ_of G (codeS_like hcr (s':=cloneE sz bytes z) rfl (by obtain ⟨x,y,rfl,hx,hy⟩:=cc_seq hcr;obtain rfl:=cc_ret hy;obtain ⟨id,ops,rfl,_⟩:=cc_ops hx;rfl)) rE rfl
   refine runsQ_call (res:=[⟨.tmp 2,[]⟩]) (ru:=.own sz 0) h1 h2 h5 e1 (by simp) rfl ?_
   have hno':allL pnoid cs=true:=hno
   have hni':allL pnoinl cs=true:=hni
   simp (disch:=omega) only [go_sem,st3,hidn,hren,hno']
  ·cases hr
 ·cases hr
end
end Go.Proofs.Ytfbfbennheeglaa
