import Derived.Test.YtfbfbennheeglaaKr
import Derived.RangeFuncRecord
import Derived.LoopNIn
import Derived.Scope
namespace Go.Proofs.Ytfbfbennheeglaa
set_option linter.unusedSimpArgs false
set_option linter.unusedVariables false
open Go.RowKit
theorem swp_swp (i j k:Nat):swp i j (swp i j k)=k:=by
 unfold swp
 by_cases h1:k=i
 ·subst h1;by_cases h2:j=k<;>simp [h2]
 ·by_cases h2:k=j
  ·subst h2;simp [h1]
  ·simp [h1,h2]
theorem swp_inj {i j k l:Nat} (h:swp i j k=swp i j l):k=l:=by rw [←swp_swp i j k,h,swp_swp]
theorem swapBl_get {α:Type} {i j:Nat} {l:List α} (hi:i<l.length) (hj:j<l.length) (k:Nat):(swapBl i j l)[swp i j k]? = l[k]?:=by
 have e1:l[i]? = some l[i]:=List.getElem?_eq_getElem hi
 have e2:l[j]? = some l[j]:=List.getElem?_eq_getElem hj
 unfold swapBl swp
 rw [e1,e2]
 simp only
 by_cases h1:k=i
 ·subst h1
  rw [if_pos rfl,List.getElem?_set_self (by simpa using hj)]
  exact e1.symm
 ·rw [if_neg h1]
  by_cases h2:k=j
  ·subst h2
   rw [if_pos rfl]
   by_cases h3:k=i
   ·exact absurd h3 h1
   ·rw [List.getElem?_set_ne h3,List.getElem?_set_self (by simpa using hi)]
    exact e2.symm
  ·rw [if_neg h2,List.getElem?_set_ne (fun e=>h2 e.symm),List.getElem?_set_ne (fun e=>h1 e.symm)]
theorem swapBl_length {α:Type} (i j:Nat) (l:List α):(swapBl i j l).length=l.length:=by
 unfold swapBl
 split<;>simp
def Blk.ids:Blk→List Nat
 | .dead=>[]
 | .row _ cs=>idsL cs
 | .mp ks vs=>idsL ks++idsL vs
 | .it mid _ _=>[mid]
 | .lp _ env _ _ _ _=>env.flatMap fun p=>p.2.ids
theorem lk_ren (r:Nat→Nat):∀ (env:List (Nat × AV)) (s:Nat),lk (renEnv r env) s=ren r (lk env s)
 | [],_=>rfl
 | (d,v)::l,s=>by
  simp only [renEnv,List.map_cons,lk]
  split
  ·rfl
  ·exact lk_ren r l s
theorem lk_mem:∀ (env:List (Nat × AV)) (s:Nat),lk env s=.unk∨∃ p∈env,p.2=lk env s
 | [],_=>.inl rfl
 | (d,v)::l,s=>by
  simp only [lk]
  split
  ·exact .inr ⟨(d,v),by simp,rfl⟩
  ·rcases lk_mem l s with h | ⟨p,h1,h2⟩
   ·exact .inl h
   ·exact .inr ⟨p,by simp [h1],h2⟩
theorem lk_ids {env:List (Nat × AV)} {s id:Nat} (h:id∈(lk env s).ids):id∈env.flatMap fun p=>p.2.ids:=by
 rcases lk_mem env s with h1 | ⟨p,h1,h2⟩
 ·rw [h1] at h;simp [AV.ids] at h
 ·exact List.mem_flatMap.2 ⟨p,h1,by rw [h2];exact h⟩
theorem EnvOk.sim {r:Nat→Nat} {m m':Mem} {env:List (Nat × AV)} {ts:Array Value} (h:EnvOk m env ts) (hs:Sim r (env.flatMap fun p=>p.2.ids) m m'):EnvOk m' (renEnv r env) ts:=by
 intro s
 rw [lk_ren]
 exact C_sim _ _ (hs.sub fun x hx=>lk_ids hx) (h s)
theorem BlkOk.sim {r:Nat→Nat} {m m':Mem} {w:World} {b:Blk} {e:Ent} {f:List Nat} (h:BlkOk m w b e f) (hs:Sim r b.ids m m'):BlkOk m' w (b.ren r) e f:=by
 cases b with
 |dead=>exact h
 |row fr cs=>
  obtain ⟨h1,h3,h4,h5,h6⟩:=h
  obtain ⟨⟨e1,e1'⟩,e2⟩:=CL_sim (r:=r) (m:=m) (m':=m') cs (fun _=>none) (fun _=>none) hs
  refine ⟨by show (mapL (ren1 r) cs).all AV.okc=true;rw [e2];exact h1,by show (mapL (ren1 r) cs).length=_;rw [e1];exact h3,fun hc=>h4 (e1' hc),h5,?_⟩
  rcases h6 with h6 | ⟨g,h7,h8,h9,h10⟩
  ·exact .inl h6
  ·refine .inr ⟨g,h7,h8,fun hf=>?_,fun hf=>?_⟩
   ·obtain ⟨cur,t,f',k1,k2,rfl,k4⟩:=h9 hf
    exact ⟨cur,t,f',k1,k2,rfl,RL_sim cs _ _ f' hs (fun _ _=>rfl) (fun _ _ h=>h) k4⟩
   ·obtain ⟨k1,k2⟩:=h10 hf
    exact ⟨k1,CL_sim2 cs _ _ hs (fun i u=>hs.im _ _ _) k2⟩
 |mp ks vs=>
  obtain ⟨g,es,f',q1,q2,q3,q4,q5,q6,q7,q8⟩:=h
  have hk:Sim r (idsL ks) m m':=hs.sub fun x hx=>by simp only [Blk.ids,List.mem_append];exact .inl hx
  have hv:Sim r (idsL vs) m m':=hs.sub fun x hx=>by simp only [Blk.ids,List.mem_append];exact .inr hx
  have ek:=(CL_sim (r:=r) (m:=m) (m':=m') ks (fun _=>none) (fun _=>none) hk).1.1
  have ev:=(CL_sim (r:=r) (m:=m) (m':=m') vs (fun _=>none) (fun _=>none) hv).1.1
  exact ⟨g,es,f',q1,q2,q3,by show (mapL (ren1 r) ks).length=_;rw [ek];exact q4,by show (mapL (ren1 r) vs).length=_;rw [ev];exact q5,CL_sim2 ks _ _ hk (fun _ _ h=>h) q6,RL_sim vs _ _ f' hv (fun _ _=>rfl) (fun _ _ h=>h) q7,q8⟩
 |it mid n seen=>
  obtain ⟨g,em,bm,q1,q2,q3,q4,q5⟩:=h
  exact ⟨g,em,bm,q1,q2,hs.bl mid (by simp [Blk.ids]) em q3,q4,q5⟩
 |lp st env ps asg body j=>
  obtain ⟨g,l,h2,h3,h4,h5,h6,h7,nt,h8,h9,h10,h11⟩:=h
  exact ⟨g,l,h2,h3,h4,h5,h6.sim hs,h7,nt,h8,h9,by rw [hs.P,hs.cd];exact h10,by rw [hs.P,hs.cd];exact h11⟩
theorem renEnv_id (env:List (Nat × AV)):renEnv id env=env:=by
 unfold renEnv
 induction env with
 |nil=>rfl
 |cons p l ih=>simp only [List.map_cons,ih];rw [ren_id]
theorem Blk.ren_id (b:Blk):b.ren id=b:=by
 cases b with
 |dead=>rfl
 |row fr cs=>simp only [Blk.ren,renL,renL_id]
 |mp ks vs=>simp only [Blk.ren,renL,renL_id]
 |it mid n seen=>rfl
 |lp st env ps asg body j=>simp only [Blk.ren,renEnv_id]
mutual
theorem idlt_ids {n:Nat}:∀ x:AV,x.allv (pidlt n)=true→∀ id∈x.ids,id<n
 | .sl _ cs,h | .ip cs,h | .vec _ cs,h | .box cs,h | .agg cs,h | .tup cs,h=>by
  simp only [AV.allv,Bool.and_eq_true] at h
  simpa only [AV.ids] using idltL_ids cs h.2
 | .mp a b,h | .clo _ a b,h=>by
  simp only [AV.allv,Bool.and_eq_true] at h
  intro id hi
  simp only [AV.ids,List.mem_append] at hi
  rcases hi with hi | hi
  ·exact idltL_ids a h.2.1 id hi
  ·exact idltL_ids b h.2.2 id hi
 | .ifc t v,h=>by
  simp only [AV.allv,Bool.and_eq_true] at h
  simpa only [AV.ids] using idlt_ids v h.2
 | .own _ _,h | .osl _ _ _ _,h | .ref _ _,h | .mref _,h | .yld _,h=>by
  simpa [AV.allv,pidlt,AV.ids] using h
 | .unk,_ | .any,_ | .maybe _ _,_ | .bool _,_ | .int _ _,_ | .str _,_ | .nils,_ | .nilp,_ | .nilf,_ | .nili,_ | .nilm,_=>by simp [AV.ids]
theorem idltL_ids {n:Nat}:∀ l:List AV,allL (pidlt n) l=true→∀ id∈idsL l,id<n
 | [],_=>by simp [idsL]
 |x::xs,h=>by
  simp only [allL,Bool.and_eq_true] at h
  intro id hi
  simp only [idsL,List.mem_append] at hi
  rcases hi with hi | hi
  ·exact idlt_ids x h.1 id hi
  ·exact idltL_ids xs h.2 id hi
end
theorem Blk.idltb {n:Nat} {b:Blk} (h:b.idlt n=true):∀ id∈b.ids,id<n:=by
 cases b with
 |dead=>simp [Blk.ids]
 |row fr cs=>exact idltL_ids cs h
 |mp ks vs=>
  simp only [Blk.idlt,Bool.and_eq_true] at h
  intro id hi
  simp only [Blk.ids,List.mem_append] at hi
  rcases hi with hi | hi
  ·exact idltL_ids ks h.1 id hi
  ·exact idltL_ids vs h.2 id hi
 |it mid n seen=>
  intro id hi
  simp only [Blk.ids,List.mem_singleton] at hi
  subst hi
  simpa [Blk.idlt] using h
 |lp st env ps asg body j=>
  simp only [Blk.idlt,List.all_eq_true] at h
  intro id hi
  simp only [Blk.ids,List.mem_flatMap] at hi
  obtain ⟨p,h1,h2⟩:=hi
  exact idlt_ids p.2 (h p h1) id h2
section
variable {P:Program} {fid:FuncId→Option Nat} {fr0 fr:Nat→Prop} {w0 w:World} {nt:Nat} {m:Mem} {st st':St} {a:Act} {hp hp':List Blk} {fl:List Nat}
theorem HInv.swap (H:HInv fr w0 m hp w fl) {i j:Nat} (hi:i<hp.length) (hj:j<hp.length):
  HInv fr w0 { m with bl:=swapBl i j m.bl,fp:=fun k=>m.fp (swp i j k) } ((swapBl i j hp).map (Blk.ren (swp i j))) w fl:=by
 have hlen:=H.len
 have hbl':∀ (k:Nat),(swapBl i j m.bl)[k]? = m.bl[swp i j k]?:=fun k=>by
  have:=swapBl_get (l:=m.bl) (i:=i) (j:=j) (by omega) (by omega) (swp i j k)
  rwa [swp_swp] at this
 have hhp':∀ (k:Nat),(swapBl i j hp)[k]? = hp[swp i j k]?:=fun k=>by
  have:=swapBl_get (l:=hp) hi hj (swp i j k)
  rwa [swp_swp] at this
 have hsim:∀ L,Sim (swp i j) L m { m with bl:=swapBl i j m.bl,fp:=fun k=>m.fp (swp i j k) }:=fun L=>⟨rfl,rfl,fun _ _ _ h=>h,fun id _ e he=>by
  show (swapBl i j m.bl)[_]? = _
  rw [hbl',swp_swp];exact he⟩
 refine ⟨H.os,H.tape,H.output,H.size,H.fix,by simp [swapBl_length,hlen],H.im,?_,fun id g hg=>H.own _ g hg,fun id=>H.nd _,fun a b g h1 h2=>swp_inj (H.dj _ _ g h1 h2),?_,H.fown,H.fnd,fun id g hg=>H.fdj _ g hg⟩
 ·intro k b e hb he
  rw [List.getElem?_map,hhp',omI] at hb
  obtain ⟨b0,hb0,rfl⟩:=hb
  change (swapBl i j m.bl)[k]? = some e at he
  rw [hbl'] at he
  exact (H.blk _ b0 e hb0 he).sim (hsim _)
 ·intro k hk
  simp only [List.length_map,swapBl_length] at hk
  refine H.fpz _ ?_
  unfold swp
  split
  ·omega
  ·split
   ·omega
   ·exact hk
theorem HInv.trim (H:HInv fr w0 m hp w fl) {n:Nat} (hn:n≤hp.length) (hh:((hp.take n).all fun b=>b.idlt n)=true):
  HInv fr w0 { m with bl:=m.bl.take n,fp:=fun k=>if k<n then m.fp k else [] } (hp.take n) w fl:=by
 have hlen:=H.len
 have hmem:∀ (k g:Nat),g∈(if k<n then m.fp k else [])→g∈m.fp k:=by
  intro k g h;split at h
  ·exact h
  ·cases h
 refine ⟨H.os,H.tape,H.output,H.size,H.fix,by simp [hlen],H.im,?_,fun id g hg=>H.own id g (hmem id g hg),fun id=>?_,fun a b g h1 h2=>H.dj a b g (hmem a g h1) (hmem b g h2),?_,H.fown,H.fnd,fun id g hg=>H.fdj id g (hmem id g hg)⟩
 ·intro k b e hb he
  have hk:k<n:=by have:=(List.getElem?_eq_some_iff.1 hb).1;simp at this;omega
  have hbt:=hb
  rw [List.getElem?_take,if_pos hk] at hb
  change (m.bl.take n)[k]? = some e at he
  rw [List.getElem?_take,if_pos hk] at he
  have hid:b.idlt n=true:=List.all_eq_true.1 hh b (List.mem_of_getElem? hbt)
  have:=(H.blk k b e hb he).sim (r:=id) (m':={ m with bl:=m.bl.take n,fp:=fun k=>if k<n then m.fp k else [] }) ⟨rfl,rfl,fun _ _ _ h=>h,fun i hi e he=>by
   show (m.bl.take n)[i]? = some e
   rw [List.getElem?_take,if_pos (Blk.idltb hid i hi)];exact he⟩
  rw [Blk.ren_id] at this
  show BlkOk _ w b e (if k<n then m.fp k else [])
  rw [if_pos hk];exact this
 ·show (if id<n then m.fp id else []).Nodup
  split
  ·exact H.nd id
  ·simp
 ·intro k hk
  show (if k<n then m.fp k else [])=[]
  rw [if_neg (by simp at hk;omega)]
theorem swap_ok {s h:Nat} (S:SInv P fid fr0 fr w0 nt m st a w) (hs:swapSt st s h=some st'):∃ m',Fwd fr st.lo m m'∧SInv P fid fr0 fr w0 nt m' st' a w∧st'.lo=st.lo:=by
 unfold swapSt at hs
 split at hs
 ·rename_i id hlk
  split at hs
  ·injection hs with hs;subst hs
   exact ⟨m,Fwd.refl _ _ m,S,rfl⟩
  ·split at hs
   ·rename_i hc
    obtain ⟨hi,hj,hlo1,hlo2⟩:=hc
    injection hs with hs;subst hs
    have hlen:=S.h.len
    have hbl':∀ (k:Nat),(swapBl id h m.bl)[k]? = m.bl[swp id h k]?:=fun k=>by
     have:=swapBl_get (l:=m.bl) (i:=id) (j:=h) (by omega) (by omega) (swp id h k)
     rwa [swp_swp] at this
    refine ⟨{ m with bl:=swapBl id h m.bl,fp:=fun k=>m.fp (swp id h k) },⟨rfl,rfl,fun _ _ _ q=>q,fun _ _ _=>rfl,fun k hk=>?_⟩,⟨S.P,S.cd,S.h.swap hi hj,?_,S.n,S.d,?_⟩,rfl⟩
    ·show (swapBl id h m.bl)[k]? = _
     rw [hbl',swp,if_neg (by omega),if_neg (by omega)]
    ·exact S.e.sim ⟨rfl,rfl,fun _ _ _ h=>h,fun i _ e he=>by
      show (swapBl id h m.bl)[_]? = _
      rw [hbl',swp_swp];exact he⟩
    ·show st.lo≤((swapBl id h st.hp).map _).length
     rw [List.length_map,swapBl_length];exact S.l
   ·cases hs
 ·injection hs with hs;subst hs
  exact ⟨m,Fwd.refl _ _ m,S,rfl⟩
theorem swapAll_ok:∀ (l:List (Nat × Nat)) {st st':St} {m:Mem},SInv P fid fr0 fr w0 nt m st a w→swapAll l st=some st'→∃ m',Fwd fr st.lo m m'∧SInv P fid fr0 fr w0 nt m' st' a w∧st'.lo=st.lo
 | [],st,st',m,S,h=>by simp only [swapAll] at h;injection h with h;subst h;exact ⟨m,Fwd.refl _ _ m,S,rfl⟩
 | (s,k)::l,st,st',m,S,h=>by
  simp only [swapAll,obI] at h
  obtain ⟨st1,h1,h2⟩:=h
  obtain ⟨m1,f1,S1,e1⟩:=swap_ok S h1
  obtain ⟨m2,f2,S2,e2⟩:=swapAll_ok l S1 h2
  exact ⟨m2,f1.trans (by rw [←e1];exact f2),S2,e2.trans e1⟩
theorem trim_ok {n:Nat} (S:SInv P fid fr0 fr w0 nt m st a w) (hs:trim n st=some st'):∃ m',Fwd fr st.lo m m'∧SInv P fid fr0 fr w0 nt m' st' a w∧st'.lo=st.lo:=by
 unfold trim at hs
 simp only [obI] at hs
 obtain ⟨hp1,ht,hs⟩:=hs
 split at hs
 ·rename_i hc
  obtain ⟨hlo,hn,he,hh⟩:=hc
  injection hs with hs;subst hs
  obtain ⟨m1,E1,_,hbl1,H1,hl1⟩:=tidy_ok n 0 ht S.h
  have hln:=H1.len
  refine ⟨{ m1 with bl:=m1.bl.take n,fp:=fun k=>if k<n then m1.fp k else [] },⟨E1.le.P,E1.le.cd,E1.le.im,E1.low,fun k hk=>?_⟩,⟨E1.le.P.trans S.P,E1.le.cd.trans S.cd,H1.trim hn hh,?_,S.n,S.d,?_⟩,rfl⟩
  ·show (m1.bl.take n)[k]? = _
   rw [List.getElem?_take,if_pos (by omega),hbl1]
  ·have:=(S.e.mono E1.le).sim (r:=id) (m':={ m1 with bl:=m1.bl.take n,fp:=fun k=>if k<n then m1.fp k else [] }) ⟨rfl,rfl,fun _ _ _ h=>h,fun i hi e hb=>by
    simp only [List.mem_flatMap] at hi
    obtain ⟨p,hp,hi⟩:=hi
    show (m1.bl.take n)[i]? = some e
    rw [List.getElem?_take,if_pos (idlt_ids p.2 (List.all_eq_true.1 he p hp) i hi)];exact hb⟩
   rw [renEnv_id] at this
   exact this
  ·show st.lo≤(hp1.take n).length
   rw [List.length_take];omega
 ·cases hs
theorem keep_ok {m:Mem} {env:List (Nat × AV)} {ts:Array Value} (h:EnvOk m env ts):∀ l,EnvOk m (keepEnv env l) ts
 | []=>fun s=>by simp [keepEnv,lk,C]
 |s::l=>(keep_ok h l).cons (h s)
theorem RL_nils {m:Mem} {w:World} {sz:Nat}:∀ (cs:List AV) (i:Nat) (g:Nat→Option Value) (f:List Nat),cs[i]? = some .nils→RL m w cs g f→RL m w (cs.set i (.vec sz [])) g f
 | [],i,g,f,h,_=>by simp at h
 |x::xs,0,g,f,h,k=>by
  simp only [List.getElem?_cons_zero,Option.some.injEq] at h
  subst h
  simp only [List.set_cons_zero,RL] at k ⊢
  obtain ⟨f1,f2,rfl,⟨u,h1,h2⟩,h3⟩:=k
  simp only [R,C] at h2
  refine ⟨f1,f2,rfl,⟨u,h1,?_⟩,h3⟩
  simp only [R]
  exact ⟨rfl,none,0,0,h2.2,by simp,fun _=>rfl,Nat.le_refl _,.inl ⟨rfl,h2.1⟩⟩
 |x::xs,i+1,g,f,h,k=>by
  simp only [List.set_cons_succ,RL] at k ⊢
  obtain ⟨f1,f2,rfl,h1,h3⟩:=k
  exact ⟨f1,f2,rfl,h1,RL_nils xs i _ f2 (by simpa using h) h3⟩
theorem okc_set {cs:List AV} {i:Nat} {x:AV} (h:cs.all AV.okc=true) (hx:x.okc=true):(cs.set i x).all AV.okc=true:=by
 simp only [List.all_eq_true] at h ⊢
 intro y hy
 rcases List.mem_or_eq_of_mem_set hy with h1 | rfl
 ·exact h y h1
 ·exact hx
theorem ghost_ok {g:SG} (S:SInv P fid fr0 fr w0 nt m st a w) (hs:ghost g st=some st'):∃ m',Fwd fr st.lo m m'∧SInv P fid fr0 fr w0 nt m' st' a w∧st'.lo=st.lo:=by
 have same:∀ {st':St},st'.hp=st.hp→st'.lo=st.lo→EnvOk m st'.env a.tmps→∃ m',Fwd fr st.lo m m'∧SInv P fid fr0 fr w0 nt m' st' a w∧st'.lo=st.lo:=by
  intro st' e1 e2 hE
  exact ⟨m,Fwd.refl _ _ m,⟨S.P,S.cd,by rw [e1];exact S.h,hE,S.n,S.d,by rw [e1,e2];exact S.l⟩,e2⟩
 cases g with
 |own sz s=>
  simp only [ghost] at hs
  split at hs
  ·rename_i hlk
   injection hs with hs;subst hs
   have hE:=S.e s
   rw [hlk] at hE
   simp only [C] at hE
   have H2:=HInv.adopt (f:=[]) (b:=.row false []) (x:=⟨none,none,0,0,sz⟩) (fl:=[]) (by simpa using S.h) ⟨rfl,by simp,fun _=>rfl,Nat.le_refl _,.inl ⟨rfl,rfl,rfl⟩⟩
   have hx:=ext_app (fr:=fr) (m:=m) [⟨none,none,0,0,sz⟩] (fun k=>if k=st.hp.length then [] else m.fp k)
   refine ⟨_,hx.fwd (by rw [S.h.len];exact S.l),⟨S.P,S.cd,H2,(S.e.mono hx.le).cons ?_,S.n,S.d,by simp;exact Nat.le_succ_of_le S.l⟩,rfl⟩
   simp only [C]
   exact ⟨⟨none,none,0,0,sz⟩,by rw [←S.h.len];exact get_new,hE,rfl⟩
  ·injection hs with hs;subst hs
   exact ⟨m,Fwd.refl _ _ m,S,rfl⟩
 |ownb sz s off=>
  simp only [ghost] at hs
  split at hs
  ·rename_i id o hlk
   split at hs
   ·rename_i cs hb
    split at hs
    ·rename_i hc
     injection hs with hs;subst hs
     obtain ⟨e,he,h1,h2,h3,h4,h5⟩:=S.h.at_ hb
     have hlen:(cs.set (o+off) (.vec sz [])).length=cs.length:=by simp
     have hok:(cs.set (o+off) (.vec sz [])).all AV.okc=true:=okc_set h1 rfl
     have hne:cs≠[]:=fun h=>by subst h;simp at hc
     have H2:=S.h.turn (i:=id) (f:=m.fp id) (g:=[]) (b:=.row false (cs.set (o+off) (.vec sz []))) he (fun q hq=>.inl (by simpa using hq)) (by simpa using S.h.nd id) ⟨hok,by rw [hlen];exact h2,fun h=>absurd (List.eq_nil_of_length_eq_zero (by rw [←hlen,h];rfl)) hne,h4,by
      rcases h5 with h5 | ⟨g,q1,q2,q3,_⟩
      ·exact .inl h5
      ·refine .inr ⟨g,q1,q2,fun _=>?_,fun hf=>by cases hf⟩
       obtain ⟨cur,t,f',r1,r2,r3,r4⟩:=q3 rfl
       exact ⟨cur,t,f',r1,r2,r3,RL_nils _ _ _ _ hc r4⟩⟩
     have hx:=ext_fp (fr:=fr) (m:=m) (fun k=>if k=id then m.fp id else m.fp k)
     exact ⟨_,hx.fwd (by rw [S.h.len];exact S.l),⟨S.P,S.cd,H2,S.e.mono hx.le,S.n,S.d,by simpa using S.l⟩,rfl⟩
    ·injection hs with hs;subst hs
     exact ⟨m,Fwd.refl _ _ m,S,rfl⟩
   ·injection hs with hs;subst hs
    exact ⟨m,Fwd.refl _ _ m,S,rfl⟩
  ·injection hs with hs;subst hs
   exact ⟨m,Fwd.refl _ _ m,S,rfl⟩
 |whole s=>
  simp only [ghost] at hs
  split at hs
  ·rename_i sz id o n hlk
   split at hs
   ·rename_i cs hb
    split at hs
    ·rename_i hc
     obtain ⟨rfl,hle⟩:=hc
     injection hs with hs;subst hs
     have hE:=S.e s
     rw [hlk] at hE
     simp only [C] at hE
     obtain ⟨e,he,hes,hs0,ad,c,hv,hnc,hco,hca⟩:=hE
     obtain ⟨e',he',h1,h2,h3,h4,h5⟩:=S.h.at_ hb
     rw [he] at he';injection he' with he';subst he'
     have hkill:=S.h.kill id
     simp only [List.append_nil] at hkill
     have hlent:(cs.take (n*sz)).length=n*sz:=by simp;omega
     have hnil:cs.take (n*sz)=[]→n=0:=fun h=>by
      rw [h] at hlent
      rcases Nat.mul_eq_zero.1 hlent.symm with h | h
      ·exact h
      ·omega
     have fin:∀ (f:List Nat) (x:Ent),(∀ g∈f,g∈m.fp id)→f.Nodup→x.a=ad→x.n=n→x.cap=c→x.sz=sz →
       BlkOk { m with fp:=fun k=>if k=id then [] else m.fp k } w (.row false (cs.take (n*sz))) x f→∃ m',Fwd fr st.lo m m'∧SInv P fid fr0 fr w0 nt m' ⟨(s,.own sz st.hp.length)::st.env,st.hp.set id .dead++[.row false (cs.take (n*sz))],st.lo,st.mks⟩ a w∧st.lo=st.lo:=by
      intro f x hf hnd e1 e2 e3 e4 hbk
      have H2:=(hkill.fsub (fl':=f) hf hnd)
      have H3:=HInv.adopt (f:=f) (fl:=[]) (by simpa using H2) hbk
      have hx1:=ext_fp (fr:=fr) (m:=m) (fun k=>if k=id then [] else m.fp k)
      have hx2:=ext_app (fr:=fr) (m:={ m with fp:=fun k=>if k=id then [] else m.fp k }) [x] (fun k=>if k=(st.hp.set id .dead).length then f else if k=id then [] else m.fp k)
      have hx:=hx1.trans hx2
      refine ⟨_,hx.fwd (by rw [S.h.len];exact S.l),⟨S.P,S.cd,H3,(S.e.mono hx.le).cons ?_,S.n,S.d,by simp;exact Nat.le_succ_of_le S.l⟩,rfl⟩
      simp only [C]
      refine ⟨x,by rw [←S.h.len];exact get_new,?_,e4⟩
      rw [hv,e1,e2,e3]
     rcases Nat.eq_zero_or_pos c with hc0 | hc0
     ·subst hc0
      have hn0:n=0:=by omega
      subst hn0
      refine fin [] ⟨ad,none,0,0,sz⟩ (by simp) (by simp) rfl rfl rfl rfl ⟨by simp,by simp,fun _=>rfl,Nat.le_refl _,.inl ⟨rfl,rfl,rfl⟩⟩
     ·obtain ⟨g,hg,had⟩:=hca.resolve_left (by omega)
      rcases h5 with ⟨q1,_⟩ | ⟨g',q1,q2,q3,_⟩
      ·rw [q1] at hg;cases hg
      ·rw [q1] at hg;injection hg with hg;subst hg
       obtain ⟨cur,t,f',r1,r2,r3,r4⟩:=q3 rfl
       rw [←List.take_append_drop (n*sz) cs,RL_append] at r4
       obtain ⟨f1,f2,rfl,r5,_⟩:=r4
       have hnd:=S.h.nd id
       rw [r3] at hnd
       refine fin (g'::f1) ⟨ad,some g',c,n,sz⟩ (fun q hq=>by rw [r3];simp at hq ⊢;rcases hq with h | h;exact .inl h;exact .inr (.inl h)) ?_ rfl rfl rfl rfl ?_
       ·rw [←List.cons_append] at hnd
        exact (List.nodup_append.1 hnd).1
       ·refine ⟨all_take h1 _,hlent,hnil,hnc,.inr ⟨g',rfl,by rw [had];simp,fun _=>⟨cur,t,f1,r1,?_,rfl,?_⟩,fun hf=>by cases hf⟩⟩
        ·rw [r2,hes,←hco];simp
        ·exact RL_mono (m:=m) (le_fp _) (fun _ _=>rfl) (fun _ _ h=>h) r5
    ·cases hs
   ·cases hs
  ·injection hs with hs;subst hs
   exact ⟨m,Fwd.refl _ _ m,S,rfl⟩
 |part s=>
  simp only [ghost] at hs
  split at hs
  ·rename_i sz id hlk
   split at hs
   ·rename_i fr' cs hb
    split at hs
    ·rename_i hs0
     injection hs with hs;subst hs
     have hE:=S.e s
     rw [hlk] at hE
     simp only [C] at hE
     obtain ⟨e,he,hv,hes⟩:=hE
     obtain ⟨e',he',h1,h2,h3,h4,h5⟩:=S.h.at_ hb
     rw [he] at he';injection he' with he';subst he'
     refine same rfl rfl (S.e.cons ?_)
     simp only [C]
     have hn:cs.length / sz=e.n:=by rw [h2,hes];exact Nat.mul_div_cancel _ hs0
     refine ⟨e,he,hes,hs0,e.a,e.cap,by rw [hv,hn],by rw [hn];exact h4,by omega,?_⟩
     rcases h5 with ⟨q1,q2,q3⟩ | ⟨g,q1,q2,_⟩
     ·left;omega
     ·by_cases hc:e.cap=0
      ·exact .inl hc
      ·exact .inr ⟨g,q1,by rw [q2];simp⟩
    ·cases hs
   ·cases hs
  ·injection hs with hs;subst hs
   exact ⟨m,Fwd.refl _ _ m,S,rfl⟩
 |keep l=>
  simp only [ghost] at hs
  injection hs with hs;subst hs
  exact same rfl rfl (keep_ok S.e l)
 |push lid l=>
  simp only [ghost] at hs
  injection hs with hs;subst hs
  exact same rfl rfl (keep_ok S.e l)
 |norm lid=>
  simp only [ghost,obI] at hs
  obtain ⟨r,_,st1,h1,h2⟩:=hs
  have S0:SInv P fid fr0 fr w0 nt m ⟨keepEnv st.env r.1.2.1,st.hp,st.lo,r.2⟩ a w:=⟨S.P,S.cd,S.h,keep_ok S.e _,S.n,S.d,S.l⟩
  obtain ⟨m1,f1,S1,e1⟩:=swapAll_ok _ S0 h1
  obtain ⟨m2,f2,S2,e2⟩:=trim_ok S1 h2
  exact ⟨m2,f1.trans (by rw [show st.lo=st1.lo from e1.symm];exact f2),S2,e2.trans e1⟩
 |opnA s t o=>
  simp only [ghost] at hs
  split at hs
  ·rename_i sz id id2 o2 hlk _
   split at hs
   ·rename_i cs k ix hb _
    split at hs
    ·rename_i hc
     obtain ⟨hix,hni⟩:=hc
     injection hs with hs;subst hs
     generalize hoff:ix.toNat=off at *
     have k1:=S.e s
     rw [hlk] at k1
     simp only [C] at k1
     obtain ⟨e,he,hu,hes⟩:=k1
     obtain ⟨hok,q2,q3,q4,q5⟩:=S.h.blk id _ e hb he
     rcases q5 with ⟨_,q,_⟩ | ⟨g,r1,r2,r3,_⟩
     ·rw [show e.n=0 by omega] at q2
      simp at q2
      rw [q2] at hix
      simp at hix
     ·obtain ⟨cur,t',f',s1,s2,s3,s4⟩:=r3 rfl
      obtain ⟨fa,f2,rfl,ha,h2⟩:=CL_get s4 off
      have hto:(cs.take off).length=off:=by simp;omega
      rw [hto] at h2
      obtain ⟨fb,fc,rfl,hbb,hcc⟩:=CL_get h2 1
      have htu:((cs.drop off).take 1).length=1:=by simp;omega
      rw [htu,List.drop_drop] at hcc
      have Hk:=S.h.kill id
      rw [s3,List.append_nil] at Hk
      have Hk2:=Hk.perm (fl':=(g::(fa++fc))++fb) (by
       simp only [List.cons_append]
       refine List.Perm.cons g ?_
       rw [List.append_assoc]
       exact List.Perm.append_left fa List.perm_append_comm)
      obtain ⟨m2,f3,E2,i2,p2,H2,R2,l2,o2',lx,hlx⟩:=unpk_ok (f0:=g::(fa++fc)) ((cs.drop off).take 1) Hk2 (RL_mono (le_fp _) (fun _ _=>rfl) (fun _ _ h=>h) hbb)
      have hokr:(unpk (st.hp.set id .dead) ((cs.drop off).take 1)).1.all AV.okc=true:=o2' (all_take (all_drop hok _) _)
      obtain ⟨hCr,hf3⟩:=CL_of_RL _ _ _ hni R2
      subst hf3
      have hx2:m2.bl[id]? = some e:=E2.le.bl id e he
      have hlr:off+(unpk (st.hp.set id .dead) ((cs.drop off).take 1)).1.length≤cs.length:=by rw [l2,htu];exact hix
      have Efull:Ext fr m m2:=(ext_fp _).trans E2
      have hR2:RL m2 w (setAll cs off (unpk (st.hp.set id .dead) ((cs.drop off).take 1)).1) (fun i=>cur[i]?) (fa++fc):=by
       rw [setAll_eq _ _ _ hlr,List.append_assoc,RL_append]
       refine ⟨fa,fc,rfl,RL_mono Efull.le (fun _ _=>rfl) (fun _ _ h=>h) ha,?_⟩
       rw [RL_append]
       refine ⟨[],fc,rfl,?_,?_⟩
       ·rw [hto];exact R2
       ·rw [hto,l2,htu];exact RL_mono Efull.le (fun _ _=>rfl) (fun _ _ h=>h) hcc
      have H3:=H2.turn (f:=g::(fa++fc)) (g:=[]) (i:=id) (b:=.row false (setAll cs off (unpk (st.hp.set id .dead) ((cs.drop off).take 1)).1)) hx2 (fun q hq=>.inr (by simpa using hq)) (by simpa using H2.fnd)
       ⟨setAll_okc _ _ _ hok hokr,by rw [setAll_length];exact q2,fun h=>q3 (List.eq_nil_of_length_eq_zero (by rw [←setAll_length _ cs off,h];rfl)),q4,.inr ⟨g,r1,r2,fun _=>⟨cur,t',fa++fc,s1,s2,rfl,hR2⟩,fun h=>by cases h⟩⟩
      have Eall:=Efull.trans (ext_fp (fun k=>if k=id then g::(fa++fc) else m2.fp k))
      exact ⟨_,Eall.fwd (by rw [S.h.len];exact S.l),⟨Eall.le.P.trans S.P,Eall.le.cd.trans S.cd,H3,S.e.mono Eall.le,S.n,S.d,by rw [hlx];simp;exact Nat.le_add_right_of_le S.l⟩,rfl⟩
    ·cases hs
   ·injection hs with hs;subst hs
    exact ⟨m,Fwd.refl _ _ m,S,rfl⟩
  ·injection hs with hs;subst hs
   exact ⟨m,Fwd.refl _ _ m,S,rfl⟩
 |opnM s t u=>
  simp only [ghost] at hs
  split at hs
  ·rename_i sz id k1' ix k2' im hlk _ _
   split at hs
   ·rename_i cs hb
    split at hs
    ·rename_i hc
     obtain ⟨hix,hni⟩:=hc
     injection hs with hs;subst hs
     generalize hoff:(ix % im).toNat=off at *
     have k1:=S.e s
     rw [hlk] at k1
     simp only [C] at k1
     obtain ⟨e,he,hu,hes⟩:=k1
     obtain ⟨hok,q2,q3,q4,q5⟩:=S.h.blk id _ e hb he
     rcases q5 with ⟨_,q,_⟩ | ⟨g,r1,r2,r3,_⟩
     ·rw [show e.n=0 by omega] at q2
      simp at q2
      rw [q2] at hix
      simp at hix
     ·obtain ⟨cur,t',f',s1,s2,s3,s4⟩:=r3 rfl
      obtain ⟨fa,f2,rfl,ha,h2⟩:=CL_get s4 off
      have hto:(cs.take off).length=off:=by simp;omega
      rw [hto] at h2
      obtain ⟨fb,fc,rfl,hbb,hcc⟩:=CL_get h2 1
      have htu:((cs.drop off).take 1).length=1:=by simp;omega
      rw [htu,List.drop_drop] at hcc
      have Hk:=S.h.kill id
      rw [s3,List.append_nil] at Hk
      have Hk2:=Hk.perm (fl':=(g::(fa++fc))++fb) (by
       simp only [List.cons_append]
       refine List.Perm.cons g ?_
       rw [List.append_assoc]
       exact List.Perm.append_left fa List.perm_append_comm)
      obtain ⟨m2,f3,E2,i2,p2,H2,R2,l2,o2',lx,hlx⟩:=unpk_ok (f0:=g::(fa++fc)) ((cs.drop off).take 1) Hk2 (RL_mono (le_fp _) (fun _ _=>rfl) (fun _ _ h=>h) hbb)
      have hokr:(unpk (st.hp.set id .dead) ((cs.drop off).take 1)).1.all AV.okc=true:=o2' (all_take (all_drop hok _) _)
      obtain ⟨hCr,hf3⟩:=CL_of_RL _ _ _ hni R2
      subst hf3
      have hx2:m2.bl[id]? = some e:=E2.le.bl id e he
      have hlr:off+(unpk (st.hp.set id .dead) ((cs.drop off).take 1)).1.length≤cs.length:=by rw [l2,htu];exact hix
      have Efull:Ext fr m m2:=(ext_fp _).trans E2
      have hR2:RL m2 w (setAll cs off (unpk (st.hp.set id .dead) ((cs.drop off).take 1)).1) (fun i=>cur[i]?) (fa++fc):=by
       rw [setAll_eq _ _ _ hlr,List.append_assoc,RL_append]
       refine ⟨fa,fc,rfl,RL_mono Efull.le (fun _ _=>rfl) (fun _ _ h=>h) ha,?_⟩
       rw [RL_append]
       refine ⟨[],fc,rfl,?_,?_⟩
       ·rw [hto];exact R2
       ·rw [hto,l2,htu];exact RL_mono Efull.le (fun _ _=>rfl) (fun _ _ h=>h) hcc
      have H3:=H2.turn (f:=g::(fa++fc)) (g:=[]) (i:=id) (b:=.row false (setAll cs off (unpk (st.hp.set id .dead) ((cs.drop off).take 1)).1)) hx2 (fun q hq=>.inr (by simpa using hq)) (by simpa using H2.fnd)
       ⟨setAll_okc _ _ _ hok hokr,by rw [setAll_length];exact q2,fun h=>q3 (List.eq_nil_of_length_eq_zero (by rw [←setAll_length _ cs off,h];rfl)),q4,.inr ⟨g,r1,r2,fun _=>⟨cur,t',fa++fc,s1,s2,rfl,hR2⟩,fun h=>by cases h⟩⟩
      have Eall:=Efull.trans (ext_fp (fun k=>if k=id then g::(fa++fc) else m2.fp k))
      exact ⟨_,Eall.fwd (by rw [S.h.len];exact S.l),⟨Eall.le.P.trans S.P,Eall.le.cd.trans S.cd,H3,S.e.mono Eall.le,S.n,S.d,by rw [hlx];simp;exact Nat.le_add_right_of_le S.l⟩,rfl⟩
    ·cases hs
   ·injection hs with hs;subst hs
    exact ⟨m,Fwd.refl _ _ m,S,rfl⟩
  ·injection hs with hs;subst hs
   exact ⟨m,Fwd.refl _ _ m,S,rfl⟩
 |opnF s o t=>
  simp only [ghost] at hs
  split at hs
  ·rename_i idp offp kk ix hlk _
   split at hs
   ·rename_i ds hbp
    split at hs
    ·rename_i z id hcell
     split at hs
     ·rename_i cs hb
      split at hs
      ·rename_i hc
       obtain ⟨hix,hni⟩:=hc
       injection hs with hs;subst hs
       generalize hoff:ix.toNat=off at *
       have k0:=S.e s
       rw [hlk] at k0
       simp only [C] at k0
       obtain ⟨e0,he0,g0,heg0,hu0⟩:=k0
       obtain ⟨_,_,_,_,q50⟩:=S.h.blk idp _ e0 hbp he0
       obtain ⟨e,he⟩:∃ e,m.bl[id]? = some e:=by
        rcases q50 with ⟨q,_⟩ | ⟨g',r1,r2,r3,_⟩
        ·rw [heg0] at q;cases q
        ·obtain ⟨cur,t',f',s1,s2,s3,s4⟩:=r3 rfl
         obtain ⟨fa,f2,_,_,h2⟩:=CL_get s4 (offp+o)
         obtain ⟨hlt,hcv⟩:=List.getElem?_eq_some_iff.1 hcell
         rw [List.drop_eq_getElem_cons hlt,hcv] at h2
         simp only [RL,R,C] at h2
         obtain ⟨f1,f3,_,⟨u,_,_,e,he,_⟩,_⟩:=h2
         exact ⟨e,he⟩
       obtain ⟨hok,q2,q3,q4,q5⟩:=S.h.blk id _ e hb he
       rcases q5 with ⟨_,q,_⟩ | ⟨g,r1,r2,r3,_⟩
       ·rw [show e.n=0 by omega] at q2
        simp at q2
        rw [q2] at hix
        simp at hix
       ·obtain ⟨cur,t',f',s1,s2,s3,s4⟩:=r3 rfl
        obtain ⟨fa,f2,rfl,ha,h2⟩:=CL_get s4 off
        have hto:(cs.take off).length=off:=by simp;omega
        rw [hto] at h2
        obtain ⟨fb,fc,rfl,hbb,hcc⟩:=CL_get h2 1
        have htu:((cs.drop off).take 1).length=1:=by simp;omega
        rw [htu,List.drop_drop] at hcc
        have Hk:=S.h.kill id
        rw [s3,List.append_nil] at Hk
        have Hk2:=Hk.perm (fl':=(g::(fa++fc))++fb) (by
         simp only [List.cons_append]
         refine List.Perm.cons g ?_
         rw [List.append_assoc]
         exact List.Perm.append_left fa List.perm_append_comm)
        obtain ⟨m2,f3,E2,i2,p2,H2,R2,l2,o2',lx,hlx⟩:=unpk_ok (f0:=g::(fa++fc)) ((cs.drop off).take 1) Hk2 (RL_mono (le_fp _) (fun _ _=>rfl) (fun _ _ h=>h) hbb)
        have hokr:(unpk (st.hp.set id .dead) ((cs.drop off).take 1)).1.all AV.okc=true:=o2' (all_take (all_drop hok _) _)
        obtain ⟨hCr,hf3⟩:=CL_of_RL _ _ _ hni R2
        subst hf3
        have hx2:m2.bl[id]? = some e:=E2.le.bl id e he
        have hlr:off+(unpk (st.hp.set id .dead) ((cs.drop off).take 1)).1.length≤cs.length:=by rw [l2,htu];exact hix
        have Efull:Ext fr m m2:=(ext_fp _).trans E2
        have hR2:RL m2 w (setAll cs off (unpk (st.hp.set id .dead) ((cs.drop off).take 1)).1) (fun i=>cur[i]?) (fa++fc):=by
         rw [setAll_eq _ _ _ hlr,List.append_assoc,RL_append]
         refine ⟨fa,fc,rfl,RL_mono Efull.le (fun _ _=>rfl) (fun _ _ h=>h) ha,?_⟩
         rw [RL_append]
         refine ⟨[],fc,rfl,?_,?_⟩
         ·rw [hto];exact R2
         ·rw [hto,l2,htu];exact RL_mono Efull.le (fun _ _=>rfl) (fun _ _ h=>h) hcc
        have H3:=H2.turn (f:=g::(fa++fc)) (g:=[]) (i:=id) (b:=.row false (setAll cs off (unpk (st.hp.set id .dead) ((cs.drop off).take 1)).1)) hx2 (fun q hq=>.inr (by simpa using hq)) (by simpa using H2.fnd)
         ⟨setAll_okc _ _ _ hok hokr,by rw [setAll_length];exact q2,fun h=>q3 (List.eq_nil_of_length_eq_zero (by rw [←setAll_length _ cs off,h];rfl)),q4,.inr ⟨g,r1,r2,fun _=>⟨cur,t',fa++fc,s1,s2,rfl,hR2⟩,fun h=>by cases h⟩⟩
        have Eall:=Efull.trans (ext_fp (fun k=>if k=id then g::(fa++fc) else m2.fp k))
        exact ⟨_,Eall.fwd (by rw [S.h.len];exact S.l),⟨Eall.le.P.trans S.P,Eall.le.cd.trans S.cd,H3,S.e.mono Eall.le,S.n,S.d,by rw [hlx];simp;exact Nat.le_add_right_of_le S.l⟩,rfl⟩
      ·cases hs
     ·injection hs with hs;subst hs
      exact ⟨m,Fwd.refl _ _ m,S,rfl⟩
    ·injection hs with hs;subst hs
     exact ⟨m,Fwd.refl _ _ m,S,rfl⟩
   ·injection hs with hs;subst hs
    exact ⟨m,Fwd.refl _ _ m,S,rfl⟩
  ·injection hs with hs;subst hs
   exact ⟨m,Fwd.refl _ _ m,S,rfl⟩
 |pkb s=>
  simp only [ghost] at hs
  split at hs
  ·simp only [omI] at hs
   obtain ⟨hp1,ht,rfl⟩:=hs
   obtain ⟨m1,E1,_,hbl1,H1,hl1⟩:=tidy_ok 1 _ ht S.h
   exact ⟨m1,E1.fwd (by rw [S.h.len];exact S.l),⟨E1.le.P.trans S.P,E1.le.cd.trans S.cd,H1,S.e.mono E1.le,S.n,S.d,by show st.lo≤hp1.length;rw [hl1];exact S.l⟩,rfl⟩
  ·injection hs with hs;subst hs
   exact ⟨m,Fwd.refl _ _ m,S,rfl⟩
 |opn s=>
  simp only [ghost] at hs
  split at hs
  ·rename_i id off hlk
   split at hs
   ·rename_i cs hb
    split at hs
    ·rename_i hni
     injection hs with hs;subst hs
     have k1:=S.e s
     rw [hlk] at k1
     simp only [C] at k1
     obtain ⟨e,he,g,heg,hu⟩:=k1
     obtain ⟨hok,q2,q3,q4,q5⟩:=S.h.blk id _ e hb he
     rcases q5 with ⟨q,_⟩ | ⟨g',r1,r2,r3,_⟩
     ·rw [heg] at q;cases q
     ·rw [heg] at r1;injection r1 with r1;subst r1
      obtain ⟨cur,t',f',s1,s2,s3,s4⟩:=r3 rfl
      have Hk:=S.h.kill id
      rw [s3,List.append_nil] at Hk
      obtain ⟨m2,f3,E2,i2,p2,H2,R2,l2,o2,lx,hlx⟩:=unpk_ok (f0:=[g]) cs (by simpa using Hk) (RL_mono (le_fp _) (fun _ _=>rfl) (fun _ _ h=>h) s4)
      obtain ⟨hCr,hf3⟩:=CL_of_RL _ _ _ hni R2
      subst hf3
      have hx2:m2.bl[id]? = some e:=E2.le.bl id e he
      have Efull:Ext fr m m2:=(ext_fp _).trans E2
      have H3:=H2.turn (f:=[g]) (g:=[]) (i:=id) (b:=.row false (unpk (st.hp.set id .dead) cs).1) hx2 (fun q hq=>.inr (by simpa using hq)) (by simp)
       ⟨o2 hok,by rw [l2];exact q2,fun h=>q3 (List.eq_nil_of_length_eq_zero (by rw [←l2,h];rfl)),q4,.inr ⟨g,heg,r2,fun _=>⟨cur,t',[],s1,s2,rfl,RL_mono (le_fp _) (fun _ _=>rfl) (fun _ _ h=>h) R2⟩,fun h=>by cases h⟩⟩
      have Eall:=Efull.trans (ext_fp (fun k=>if k=id then [g] else m2.fp k))
      exact ⟨_,Eall.fwd (by rw [S.h.len];exact S.l),⟨Eall.le.P.trans S.P,Eall.le.cd.trans S.cd,H3,S.e.mono Eall.le,S.n,S.d,by rw [hlx];simp;exact Nat.le_add_right_of_le S.l⟩,rfl⟩
    ·cases hs
   ·injection hs with hs;subst hs
    exact ⟨m,Fwd.refl _ _ m,S,rfl⟩
  ·injection hs with hs;subst hs
   exact ⟨m,Fwd.refl _ _ m,S,rfl⟩
 |frzm s=>
  simp only [ghost] at hs
  split at hs
  ·split at hs
   ·rename_i id hx ks vs hb
    split at hs
    ·injection hs with hs;subst hs
     obtain ⟨m1,E1,b1,H1⟩:=S.h.frzMap hb
     exact ⟨m1,E1.fwd (by rw [S.h.len];exact S.l),⟨E1.le.P.trans S.P,E1.le.cd.trans S.cd,H1,S.e.mono E1.le,S.n,S.d,by simpa using S.l⟩,rfl⟩
    ·cases hs
   ·injection hs with hs;subst hs
    exact ⟨m,Fwd.refl _ _ m,S,rfl⟩
  ·injection hs with hs;subst hs
   exact ⟨m,Fwd.refl _ _ m,S,rfl⟩
 |cut=>
  simp only [ghost] at hs
  have S0:SInv P fid fr0 fr w0 nt m ⟨[],st.hp,st.lo,[]⟩ a w:=⟨S.P,S.cd,S.h,fun s=>by simp [lk,C],S.n,S.d,S.l⟩
  obtain ⟨m2,f2,S2,e2⟩:=trim_ok S0 hs
  exact ⟨m2,f2,S2,e2⟩
theorem fin_ok {f:FuncId} {as:List AV} {hps hp':List Blk} {v:AV} {r:AV × List Blk} (h:RawOk P fid f as hps v hp') (hf:fin hps.length hp' v=some r):CallOk P fid f as hps r:=by
 intro fr w0 m w args hP hcd H hC hs
 refine (h fr w0 m w args hP hcd H hC hs).mono ?_
 rintro e w' ⟨u,m',rfl,F',H',hR⟩
 simp only [fin,obI] at hf
 obtain ⟨hp1,ht,q,hpk,hf⟩:=hf
 split at hf
 ·rename_i hc
  obtain ⟨hn,hid,hh⟩:=hc
  injection hf with hf;subst hf
  obtain ⟨m1,E1,_,hbl1,H1,hl1⟩:=tidy_ok _ 0 ht H'
  obtain ⟨m2,f',E2,_,hbl2,H2,hR2,hl2⟩:=pk_ok (f0:=[]) (f:=[]) v hpk (by simpa using H1) (R_mono E1.le (fun _ _=>rfl) hR)
  have H3:=HInv.trim (by simpa using H2) hn hh
  have hblm:m2.bl.take hps.length=m.bl:=by
   rw [hbl2,hbl1]
   apply List.ext_getElem?
   intro k
   rw [List.getElem?_take]
   split
   ·rename_i hk;exact F'.bl k hk
   ·rename_i hk;rw [List.getElem?_eq_none (by rw [H.len];omega)]
  have F2:=(F'.trans (E1.fwd (by rw [H'.len,←hl1,←hl2];exact hn))).trans (E2.fwd (by rw [H1.len,←hl2];exact hn))
  refine ⟨u,{ m2 with bl:=m2.bl.take hps.length,fp:=fun k=>if k<hps.length then m2.fp k else [] },f',rfl,⟨⟨F2.P,F2.cd,F2.im,fun id e he=>by rw [←hblm] at he;exact he⟩,F2.low⟩,hblm,H3,?_⟩
  have:=R_sim (r:=id) (m:=m2) (m':={ m2 with bl:=m2.bl.take hps.length,fp:=fun k=>if k<hps.length then m2.fp k else [] }) (w:=w') (w':=w') q.1 u f' ⟨rfl,rfl,fun _ _ _ h=>h,fun i hi e he=>by
   show (m2.bl.take hps.length)[i]? = some e
   rw [List.getElem?_take,if_pos (idlt_ids _ hid i hi)];exact he⟩ (fun _ _=>rfl) hR2
  rwa [ren_id] at this
 ·cases hf
end
section
variable {P:Program} {fid:FuncId→Option Nat} {nt:Nat} {c:Code}
theorem csops_get {ops:Array Oper}:∀ (l:List Oper) (r:List SOp),csops P fid nt ops l=some r→r.length=l.length∧∀ (k:Nat) (so:SOp),r[k]? = some so→∃ o,l[k]? = some o∧csop P fid nt ops o=some so
 | [],r,h=>by simp only [csops] at h;injection h with h;subst h;exact ⟨rfl,fun k so hk=>by simp at hk⟩
 |o::l,r,h=>by
  simp only [csops,obI,omI] at h
  obtain ⟨so,h1,q,h2,rfl⟩:=h
  obtain ⟨k1,k2⟩:=csops_get l q h2
  refine ⟨by simp [k1],fun k s hk=>?_⟩
  cases k with
  |zero=>simp at hk;subst hk;exact ⟨o,rfl,h1⟩
  |succ k=>exact k2 k s (by simpa using hk)
theorem cc_skip (h:CodeS P fid nt c .skip):c=.skip∨∃ l,c=.label l:=by
 have h:=h.1
 cases c with
 |skip=>exact .inl rfl
 |label l=>exact .inr ⟨l,rfl⟩
 |_=>simp [ccode,erase,obI,omI] at h
theorem cc_ops {d:Bool} {l:List SOp} (h:CodeS P fid nt c (.ops d l)):∃ id ops,c=.region id ops d∧l.length=ops.size∧(∀ (k:Nat) (so:SOp),l[k]? = some so→∃ o,ops[k]? = some o∧csop P fid nt ops o=some so.base)∧(d=true→(drawOk [] ops l || drawM ops l)=true∧P.follows .mixedOrders=true):=by
 obtain ⟨h,hd,hm⟩:=h
 cases c with
 |region id ops draw=>
  simp only [ccode,erase,omI,Stmt.ops.injEq] at h
  obtain ⟨q,hq,rfl,hl⟩:=h
  obtain ⟨k1,k2⟩:=csops_get _ _ hq
  refine ⟨id,ops,rfl,?_,?_,?_⟩
  ·have:=congrArg List.length hl
   simp at this
   rw [←this,k1];simp
  ·intro k so hk
   have:q[k]? = some so.base:=by rw [hl];simp [hk]
   obtain ⟨o,h1,h2⟩:=k2 k _ this
   exact ⟨o,by simpa using h1,h2⟩
  ·intro hdr
   subst hdr
   simp only [drawS,Bool.and_eq_true,Bool.or_eq_true] at hd
   exact ⟨by simpa [Bool.or_eq_true] using hd.2,hm rfl⟩
 |_=>simp [ccode,erase,obI,omI] at h
theorem cc_opsC {chk:List (Nat × Nat)} {l:List SOp} (h:CodeS P fid nt c (.opsC chk l)):∃ id ops,c=.region id ops true∧l.length=ops.size∧(∀ (k:Nat) (so:SOp),l[k]? = some so→∃ o,ops[k]? = some o∧csop P fid nt ops o=some so.base)∧drawOk chk ops l=true∧P.follows .mixedOrders=true:=by
 obtain ⟨h,hd,hm⟩:=h
 cases c with
 |region id ops draw=>
  simp only [ccode,erase,omI,Stmt.ops.injEq] at h
  obtain ⟨q,hq,rfl,hl⟩:=h
  obtain ⟨k1,k2⟩:=csops_get _ _ hq
  refine ⟨id,ops,rfl,?_,?_,?_,hm rfl⟩
  ·have:=congrArg List.length hl
   simp at this
   rw [←this,k1];simp
  ·intro k so hk
   have:q[k]? = some so.base:=by rw [hl];simp [hk]
   obtain ⟨o,h1,h2⟩:=k2 k _ this
   exact ⟨o,by simpa using h1,h2⟩
  ·simp only [drawS,Bool.and_eq_true] at hd
   exact hd.2
 |_=>simp [ccode,erase,obI,omI] at h
theorem cc_seq {x y:Stmt} (h:CodeS P fid nt c (.seq x y)):∃ a b,c=.seq a b∧CodeS P fid nt a x∧CodeS P fid nt b y:=by
 obtain ⟨h,hd,hm⟩:=h
 cases c with
 |seq a b=>
  simp only [ccode,erase,obI,omI,Stmt.seq.injEq] at h
  obtain ⟨p,h1,q,h2,rfl,rfl⟩:=h
  simp only [drawS,Bool.and_eq_true] at hd
  simp only [drawn,Bool.or_eq_true] at hm
  exact ⟨a,b,rfl,⟨h1,hd.1,fun h=>hm (.inl h)⟩,⟨h2,hd.2,fun h=>hm (.inr h)⟩⟩
 |_=>simp [ccode,erase,obI,omI] at h
theorem cc_cond {q:SX} {x y:Stmt} (h:CodeS P fid nt c (.cond q x y)):∃ o a b,c=.cond o a b∧opd fid o=some q∧CodeS P fid nt a x∧CodeS P fid nt b y:=by
 obtain ⟨h,hd,hm⟩:=h
 cases c with
 |cond o a b=>
  simp only [ccode,erase,obI,omI,Stmt.cond.injEq] at h
  obtain ⟨q',h0,p,h1,r,h2,rfl,rfl,rfl⟩:=h
  simp only [drawS,Bool.and_eq_true] at hd
  simp only [drawn,Bool.or_eq_true] at hm
  exact ⟨o,a,b,rfl,h0,⟨h1,hd.1,fun h=>hm (.inl h)⟩,⟨h2,hd.2,fun h=>hm (.inr h)⟩⟩
 |_=>simp [ccode,erase,obI,omI] at h
theorem cc_block {id:Nat} {x:Stmt} (h:CodeS P fid nt c (.block id x)):∃ a,c=.block id a∧CodeS P fid nt a x:=by
 obtain ⟨h,hd,hm⟩:=h
 cases c with
 |block id' a=>
  simp only [ccode,erase,omI,Stmt.block.injEq] at h
  obtain ⟨p,h1,rfl,rfl⟩:=h
  exact ⟨a,rfl,h1,hd,hm⟩
 |_=>simp [ccode,erase,obI,omI] at h
theorem cc_loop {x:Stmt} (h:CodeS P fid nt c (.loop x)):∃ a,c=.loop a∧CodeS P fid nt a x:=by
 obtain ⟨h,hd,hm⟩:=h
 cases c with
 |loop a=>
  simp only [ccode,erase,omI,Stmt.loop.injEq] at h
  obtain ⟨p,h1,rfl⟩:=h
  exact ⟨a,rfl,h1,hd,hm⟩
 |_=>simp [ccode,erase,obI,omI] at h
theorem cc_scope {x:Stmt} (h:CodeS P fid nt c (.scope x)):∃ a,c=.scope a∧CodeS P fid nt a x:=by
 obtain ⟨h,hd,hm⟩:=h
 cases c with
 |scope a=>
  simp only [ccode,erase,omI,Stmt.scope.injEq] at h
  obtain ⟨p,h1,rfl⟩:=h
  exact ⟨a,rfl,h1,hd,hm⟩
 |_=>simp [ccode,erase,obI,omI] at h
theorem cc_exit {id:Nat} (h:CodeS P fid nt c (.exit id)):c=.exit id:=by
 have h:=h.1
 cases c with
 |exit id'=>simp only [ccode,erase] at h;injection h with h;injection h with h;rw [h]
 |_=>simp [ccode,erase,obI,omI] at h
theorem cc_ret (h:CodeS P fid nt c .ret):c=.ret:=by
 have h:=h.1
 cases c with
 |ret=>rfl
 |_=>simp [ccode,erase,obI,omI] at h
theorem cc_rangef {q:SX} {ps:List Nat} {x y:Stmt} (h:CodeS P fid nt c (.rangef q ps x y)):∃ o ps' a b,c=.rangeFunc o ps' a b∧ps'.toList=ps∧(∀ t∈ps,t<nt)∧rangeless a=true∧rangeless b=true∧opd fid o=some q∧CodeS P fid nt a x∧CodeS P fid nt b y:=by
 obtain ⟨h,hd,hm⟩:=h
 cases c with
 |rangeFunc o ps' a b=>
  simp only [ccode,erase] at h
  split at h
  ·rename_i hc
   simp only [Bool.and_eq_true,List.all_eq_true,decide_eq_true_eq] at hc
   simp only [obI,omI,Stmt.rangef.injEq] at h
   obtain ⟨q',h0,p,h1,r,h2,rfl,rfl,rfl,rfl⟩:=h
   simp only [drawS,Bool.and_eq_true] at hd
   simp only [drawn,Bool.or_eq_true] at hm
   exact ⟨o,ps',a,b,rfl,rfl,hc.1.1,hc.1.2,hc.2,h0,⟨h1,hd.1,fun h=>hm (.inl h)⟩,⟨h2,hd.2,fun h=>hm (.inr h)⟩⟩
  ·cases h
 |_=>simp [ccode,erase,obI,omI] at h
theorem cc_ghost {g:SG} {s:Stmt} (h:CodeS P fid nt c (.ghost g s)):CodeS P fid nt c s:=by
 obtain ⟨h,hd,hm⟩:=h
 exact ⟨h,by cases c<;>exact hd,hm⟩
theorem cc_after {g:SG} {s:Stmt} (h:CodeS P fid nt c (.after s g)):CodeS P fid nt c s:=by
 obtain ⟨h,hd,hm⟩:=h
 exact ⟨h,by cases c<;>exact hd,hm⟩
end
def AX.toExit:AX→Exit
 | .normal=>.normal
 | .exit id=>.exit id
 | .ret=>.ret
section
variable {F:Fence} {n:Nat} {P:Program} {b:Frame} {a:Act} {k:List Item} {cs:List Frame} {w:World} {Q:Exit→Act→World→Prop}
theorem stepR_scope {c:Code}:step P (lone (b.atR a (.code (.scope c)::k)) cs w)=.next (lone (b.atR a (.code c::.inScope c::k)) cs w):=
 step_lone_go (by simp [stepG,stepG.exec,Frame.atR])
theorem stepR_inScope {c:Code}:step P (lone (b.atR a (.inScope c::k)) cs w)=.next (lone (b.atR a k) cs w):=
 step_lone_go (by simp [stepG,stepG.exec,Frame.atR])
theorem wpIn_scope {c:Code} (h:c.wpIn F n P (Exit.noGoto Q) a w):(Code.scope c).wpIn F n P Q a w:=by
 intro b k cs hro hb hr
 have h0:(lone (b.atR a (.code (.scope c)::k)) cs w).fenced P F:=fenced_calm hb hr rfl
 obtain ⟨e,a₁,w₁,hq,harr⟩:=h b (.inScope c::k) cs hro hb hr
 cases e with
 |normal=>exact ⟨.normal,a₁,w₁,hq,.head h0 stepR_scope (StepsIn.trans harr (.one (fenced_calm hb hr rfl) stepR_inScope))⟩
 |exit id=>
  have hx:exitTo id (.inScope c::k)=exitTo id k:=by simp [exitTo]
  exact ⟨.exit id,a₁,w₁,hq,fun k' hk=>.head h0 stepR_scope (harr.1 k' (by rw [hx];exact hk)),
    fun hr' hk=>let ⟨k₁,h1,h2⟩:=harr.2 hr' (by rw [hx];exact hk);⟨k₁,h1,.head h0 stepR_scope h2⟩⟩
 |goto l=>exact hq.elim
 |ret=>exact ⟨_,a₁,w₁,hq,.of_steps (.one h0 stepR_scope) harr⟩
 |panic ch=>exact ⟨_,a₁,w₁,hq,.of_steps (.one h0 stepR_scope) harr⟩
 |outgrown=>exact ⟨_,a₁,w₁,hq,.of_steps (.one h0 stepR_scope) harr⟩
end
structure Wid (fr:Nat→Prop) (w0:World) (fr':Nat→Prop) (w1:World):Prop where
 sub:∀ g,fr g→fr' g
 os:w1.os=w0.os
 tape:w1.tape=w0.tape
 output:w1.output=w0.output
 size:w0.heap.size≤w1.heap.size
 fix:∀ g,fr g→w1.heap[g]? = w0.heap[g]?
section
variable {fr fr' fr2:Nat→Prop} {w0 w1 w2 w w':World} {m:Mem} {hp:List Blk} {fl:List Nat}
theorem Wid.refl (fr:Nat→Prop) (w0:World):Wid fr w0 fr w0:=⟨fun _ h=>h,rfl,rfl,rfl,Nat.le_refl _,fun _ _=>rfl⟩
theorem Wid.trans (h:Wid fr w0 fr' w1) (k:Wid fr' w1 fr2 w2):Wid fr w0 fr2 w2:=
 ⟨fun g q=>k.sub g (h.sub g q),k.os.trans h.os,k.tape.trans h.tape,k.output.trans h.output,Nat.le_trans h.size k.size,fun g q=>(k.fix g (h.sub g q)).trans (h.fix g q)⟩
theorem HInv.narrow (H:HInv fr' w1 m hp w fl) (h:Wid fr w0 fr' w1) (h1:w'.os=w.os) (h2:w'.tape=w.tape) (h3:w'.output=w.output) (hs:w'.heap.size=w.heap.size)
  (hb:∀ g,w'.heap[g]?≠w.heap[g]?→fr' g∧¬ fr g∧∀ o,w.cell? ⟨g,o,none⟩=none):HInv fr w0 m hp w' fl:=by
 have hsame:∀ g,¬ fr' g→w'.heap[g]? = w.heap[g]?:=fun g hg=>Classical.byContradiction fun h=>hg (hb g h).1
 have hfr:∀ g,fr g→w'.heap[g]? = w.heap[g]?:=fun g hg=>Classical.byContradiction fun h=>(hb g h).2.1 hg
 refine ⟨h1.trans (H.os.trans h.os),h2.trans (H.tape.trans h.tape),h3.trans (H.output.trans h.output),by rw [hs];exact Nat.le_trans h.size H.size,fun g hg=>⟨by rw [hs];exact (H.fix g (h.sub g hg)).1,(hfr g hg).trans ((H.fix g (h.sub g hg)).2.trans (h.fix g hg))⟩,H.len,?_,?_,?_,H.nd,H.dj,H.fpz,?_,H.fnd,H.fdj⟩
 ·intro b o u hu
  have hc:=H.im b o u hu
  have:w'.heap[b]? = w.heap[b]?:=Classical.byContradiction fun hne=>by
   obtain ⟨_,_,q⟩:=hb b hne
   rw [q o] at hc;cases hc
  rw [World.cell?_of_block (w:=w) (a:=⟨b,o,none⟩) this];exact hc
 ·intro id b e hbk he
  exact (H.blk id b e hbk he).mono (Mem.le.refl m) (fun g hg=>hsame g (H.own id g hg).1)
 ·intro id g hg
  exact ⟨fun q=>(H.own id g hg).1 (h.sub g q),by rw [hs];exact (H.own id g hg).2.1,(H.own id g hg).2.2⟩
 ·intro g hg
  exact ⟨fun q=>(H.fown g hg).1 (h.sub g q),by rw [hs];exact (H.fown g hg).2.1,(H.fown g hg).2.2⟩
theorem HInv.less (H:HInv fr' w1 m hp w fl) (h:Wid fr w0 fr' w1):HInv fr w0 m hp w fl:=
 ⟨H.os.trans h.os,H.tape.trans h.tape,H.output.trans h.output,Nat.le_trans h.size H.size,fun g hg=>⟨(H.fix g (h.sub g hg)).1,(H.fix g (h.sub g hg)).2.trans (h.fix g hg)⟩,H.len,H.im,H.blk,
  fun id g hg=>⟨fun q=>(H.own id g hg).1 (h.sub g q),(H.own id g hg).2⟩,H.nd,H.dj,H.fpz,fun g hg=>⟨fun q=>(H.fown g hg).1 (h.sub g q),(H.fown g hg).2⟩,H.fnd,H.fdj⟩
theorem HInv.rebase (H:HInv fr w0 m hp w fl):HInv fr w m hp w fl:=
 ⟨rfl,rfl,rfl,Nat.le_refl _,fun g hg=>⟨(H.fix g hg).1,rfl⟩,H.len,H.im,H.blk,H.own,H.nd,H.dj,H.fpz,H.fown,H.fnd,H.fdj⟩
theorem HInv.frame {r:Nat} (H:HInv fr w m hp w (r::fl)):HInv (fun g=>fr g∨g=r) w m hp w fl:=by
 have hn:=List.nodup_cons.1 H.fnd
 refine ⟨rfl,rfl,rfl,Nat.le_refl _,fun g hg=>⟨?_,rfl⟩,H.len,H.im,H.blk,fun id g hg=>⟨?_,(H.own id g hg).2⟩,H.nd,H.dj,H.fpz,fun g hg=>⟨?_,(H.fown g (by simp [hg])).2⟩,hn.2,fun id g h1 h2=>H.fdj id g h1 (by simp [h2])⟩
 ·rcases hg with hg | hg
  ·exact (H.fix g hg).1
  ·subst hg;exact (H.fown g (by simp)).2.1
 ·rintro (h | h)
  ·exact (H.own id g hg).1 h
  ·subst h;exact H.fdj id g hg (by simp)
 ·rintro (h | h)
  ·exact (H.fown g (by simp [hg])).1 h
  ·subst h;exact hn.1 hg
theorem HInv.putLoop (H:HInv fr w0 m hp w []) {id g:Nat} {e:Ent} {b:Blk} {o:Obj} (he:m.bl[id]? = some e) (hf:m.fp id=[g]) (hb:BlkOk m (w.putObj g o) b e [g]):
  HInv fr w0 { m with fp:=fun k=>if k=id then [g] else m.fp k } (hp.set id b) (w.putObj g o) []:=by
 have H1:=(H.kill id)
 rw [hf] at H1
 have H2:=H1.putFloat (g:=g) (by simp) o
 have H3:=H2.turn (f:=[g]) (g:=[]) (i:=id) (b:=b) (x:=e) he (fun q hq=>.inr (by simpa using hq)) (by simp) (hb.mono (le_fp _) (fun _ _=>rfl))
 rw [List.set_set] at H3
 have:(fun k=>if k=id then [g] else (fun k=>if k=id then [] else m.fp k) k)=fun k=>if k=id then [g] else m.fp k:=fp_set m.fp id [g] []
 simp only at H3
 rw [show ({ P:=m.P,cd:=m.cd,im:=m.im,bl:=m.bl,fp:=fun k=>if k=id then [g] else if k=id then [] else m.fp k }:Mem)={ m with fp:=fun k=>if k=id then [g] else m.fp k } by congr 1] at H3
 exact H3
end
end Go.Proofs.Ytfbfbennheeglaa
