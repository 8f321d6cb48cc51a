import Derived.Test.YtfbfbennheeglaaKe
namespace Go.Proofs.Ytfbfbennheeglaa
set_option linter.unusedSimpArgs false
set_option linter.unusedVariables false
open Go.RowKit
structure Ext (fr:Nat→Prop) (m m':Mem):Prop where
 le:m.le m'
 low:∀ b,fr b→∀ o,m'.im b o=m.im b o
theorem Ext.refl (fr:Nat→Prop) (m:Mem):Ext fr m m:=⟨Mem.le.refl m,fun _ _ _=>rfl⟩
theorem Ext.trans {fr:Nat→Prop} {a b c:Mem} (h:Ext fr a b) (k:Ext fr b c):Ext fr a c:=⟨h.le.trans k.le,fun x y z=>(k.low x y z).trans (h.low x y z)⟩
theorem ext_fp {fr:Nat→Prop} {m:Mem} (F:Nat→List Nat):Ext fr m { m with fp:=F }:=⟨le_fp F,fun _ _ _=>rfl⟩
theorem ext_app {fr:Nat→Prop} {m:Mem} (l:List Ent) (F:Nat→List Nat):Ext fr m { m with bl:=m.bl++l,fp:=F }:=⟨le_app l F,fun _ _ _=>rfl⟩
theorem mod_get (hp:List Blk) (f:Blk→Blk) (id k:Nat):(hp.modify id f)[k]? = if id=k then (hp[k]?).map f else hp[k]?:=by
 rw [List.getElem?_modify]
 split<;>simp
section
variable {fr:Nat→Prop} {w0 w:World} {m:Mem} {hp:List Blk} {fl fl':List Nat}
theorem HInv.still1 (H:HInv fr w0 m hp w fl) (id:Nat):∃ m',Ext fr m m'∧HInv fr w0 m' (hp.modify id Blk.still) w fl:=by
 have hle:m.le { m with im:=fun b o=>if b∈m.fp id then w.cell? ⟨b,o,none⟩ else m.im b o }:=
  ⟨rfl,rfl,fun b o u h=>by
   show (if _ then _ else _)=_
   split
   ·exact H.im b o u h
   ·exact h,fun _ _ h=>h⟩
 cases hb:hp[id]? with
 |none=>
  refine ⟨m,Ext.refl fr m,?_⟩
  have e:hp.modify id Blk.still=hp:=by
   apply List.ext_getElem?
   intro k
   rw [mod_get]
   split
   ·rename_i h;subst h;rw [hb];rfl
   ·rfl
  rw [e];exact H
 |some b=>
  have hset:hp.modify id Blk.still=hp.set id b.still:=by
   apply List.ext_getElem?
   intro k
   rw [mod_get]
   by_cases h:id=k
   ·subst h
    rw [if_pos rfl,hb,List.getElem?_set_self (List.getElem?_eq_some_iff.1 hb).1];rfl
   ·rw [if_neg h,List.getElem?_set_ne h]
  rw [hset]
  obtain ⟨e,he,hB⟩:=H.at_ hb
  have hsame:hp.set id b=hp:=by
   apply List.ext_getElem?
   intro k
   by_cases h:id=k
   ·subst h
    rw [List.getElem?_set_self (List.getElem?_eq_some_iff.1 hb).1,hb]
   ·rw [List.getElem?_set_ne h]
  by_cases hrow:∃ fr' cs,b=.row fr' cs
  ·obtain ⟨fr',cs,rfl⟩:=hrow
   have H1:HInv fr w0 { m with im:=fun b o=>if b∈m.fp id then w.cell? ⟨b,o,none⟩ else m.im b o,fp:=fun k=>if k=id then [] else m.fp k } (hp.set id (.row true (frzL cs))) w fl:=by
    have Hk:=H.turn (f:=[]) (g:=fl) (i:=id) (b:=.dead) he (fun q hq=>.inr (by simpa using hq)) (by simpa using H.fnd) rfl
    have hle2:Mem.le { m with fp:=fun k=>if k=id then [] else m.fp k } { m with im:=fun b o=>if b∈m.fp id then w.cell? ⟨b,o,none⟩ else m.im b o,fp:=fun k=>if k=id then [] else m.fp k }:=⟨rfl,rfl,hle.im,fun _ _ h=>h⟩
    refine ⟨Hk.os,Hk.tape,Hk.output,Hk.size,Hk.fix,by simpa using Hk.len,?_,?_,?_,Hk.nd,Hk.dj,fun k hk=>Hk.fpz k (by simpa using hk),?_,Hk.fnd,Hk.fdj⟩
    ·intro b o u h
     change (if _ then _ else _)=_ at h
     split at h
     ·exact h
     ·exact H.im b o u h
    ·intro k b' e' h he'
     by_cases hk:id=k
     ·subst hk
      rw [List.getElem?_set_self (List.getElem?_eq_some_iff.1 hb).1] at h
      injection h with h;subst h
      change m.bl[id]? = some e' at he'
      rw [he] at he';injection he' with he';subst he'
      obtain ⟨h1,h2,h3,h4,h5⟩:=hB
      obtain ⟨l1,l2,l3⟩:=frzL_len cs
      refine ⟨by rw [frzL,l3];exact h1,by rw [frzL,l1];exact h2,fun h=>h3 (l2 h),h4,?_⟩
      rcases h5 with ⟨k1,k2,k3⟩ | ⟨g,k1,k2,k3,k4⟩
      ·exact .inl ⟨k1,k2,by simp⟩
      ·refine .inr ⟨g,k1,k2,fun h=>(by cases h),fun _=>⟨by simp,?_⟩⟩
       cases fr' with
       |true=>
        obtain ⟨_,q2⟩:=k4 rfl
        exact frzC_ok cs _ (CL_mono (hle.trans (le_fp _)) _ _ _ (fun i u h=>hle.im _ _ _ h) q2)
       |false=>
        obtain ⟨cur,t,f',q1,q2,q3,q4⟩:=k3 rfl
        refine CL_ext (fun i u hu=>?_) (frzL_ok (hle.trans (le_fp _)) cs _ f' q4 (fun q hq o=>?_))
        ·show (if _ then _ else _)=_
         rw [if_pos (by rw [q3];simp)]
         simpa [World.cell?,q1] using hu
        ·show (if _ then _ else _)=_
         rw [if_pos (by rw [q3];simp [hq])]
     ·rw [List.getElem?_set_ne hk] at h
      exact (Hk.blk k b' e' (by rw [List.getElem?_set_ne hk];exact h) he').mono hle2 (fun _ _=>rfl)
    ·intro k g hg
     obtain ⟨q1,q2,q3⟩:=Hk.own k g hg
     refine ⟨q1,q2,fun o=>?_⟩
     show (if _ then _ else _)=_
     rw [if_neg]
     ·exact q3 o
     ·intro hgi
      change g∈(if k=id then [] else m.fp k) at hg
      split at hg
      ·cases hg
      ·rename_i hne;exact hne (H.dj k id g hg hgi)
    ·intro g hg
     obtain ⟨q1,q2,q3⟩:=H.fown g hg
     refine ⟨q1,q2,fun o=>?_⟩
     show (if _ then _ else _)=_
     rw [if_neg]
     ·exact q3 o
     ·intro hgi;exact H.fdj id g hgi hg
   refine ⟨_,⟨hle.trans (le_fp _),fun b hb o=>?_⟩,H1⟩
   show (if _ then _ else _)=_
   rw [if_neg]
   intro h;exact (H.own id b h).1 hb
  ·have e2:b.still=b:=by
    cases b with
    |row a cs=>exact absurd ⟨a,cs,rfl⟩ hrow
    |_=>rfl
   rw [e2,hsame]
   exact ⟨m,Ext.refl fr m,H⟩
theorem still_length (l:List Nat) (hp:List Blk):(still hp l).length=hp.length:=by
 induction l generalizing hp with
 |nil=>rfl
 |cons k l ih=>simp only [still];rw [ih];simp
theorem HInv.still (H:HInv fr w0 m hp w fl) (l:List Nat):∃ m',Ext fr m m'∧HInv fr w0 m' (still hp l) w fl:=by
 induction l generalizing hp m with
 |nil=>exact ⟨m,Ext.refl fr m,H⟩
 |cons k l ih=>
  obtain ⟨m1,e1,H1⟩:=H.still1 k
  obtain ⟨m2,e2,H2⟩:=ih H1
  exact ⟨m2,e1.trans e2,H2⟩
theorem CL_get {m:Mem} {w:World} {cs:List AV} {g:Nat→Option Value} {f:List Nat} (h:RL m w cs g f) (k:Nat):∃ f1 f2,f=f1++f2∧RL m w (cs.take k) g f1∧RL m w (cs.drop k) (fun i=>g ((cs.take k).length+i)) f2:=by
 have:=(RL_append (m:=m) (w:=w) (cs.take k) (cs.drop k) g f).1 (by rw [List.take_append_drop];exact h)
 exact this
theorem all_take {p:AV→Bool} {cs:List AV} (h:cs.all p=true) (k:Nat):(cs.take k).all p=true:=by
 rw [List.all_eq_true] at h ⊢;exact fun x hx=>h x (List.mem_of_mem_take hx)
theorem all_drop {p:AV→Bool} {cs:List AV} (h:cs.all p=true) (k:Nat):(cs.drop k).all p=true:=by
 rw [List.all_eq_true] at h ⊢;exact fun x hx=>h x (List.mem_of_mem_drop hx)
theorem CL_drop {m:Mem} {cs:List AV} {g:Nat→Option Value} (h:CL m cs g) (k:Nat):CL m (cs.drop k) (fun i=>g (k+i)):=by
 rw [CL_iff] at h ⊢
 intro i x hx
 exact h (k+i) x (by rwa [List.getElem?_drop] at hx)
theorem CL_take {m:Mem} {cs:List AV} {g:Nat→Option Value} (h:CL m cs g) (k:Nat):CL m (cs.take k) g:=by
 rw [CL_iff] at h ⊢
 intro i x hx
 rw [List.getElem?_take] at hx
 split at hx
 ·exact h i x hx
 ·cases hx
theorem pk_okc {n:Nat} {hp hp':List Blk} {x x':AV} (h:pk n hp x=some (x',hp')) (k:x.okc=true):x'.okc=true:=by
 cases x<;>simp only [pk] at h
 case own=>(repeat' split at h)<;>simp at h<;>obtain ⟨rfl,_⟩:=h<;>rfl
 case osl=>
  split at h
  ·simp at h;obtain ⟨rfl,_⟩:=h;rfl
  ·split at h
   ·split at h<;>simp at h;obtain ⟨rfl,_⟩:=h;rfl
   ·simp only [obI] at h
    obtain ⟨_,_,h⟩:=h
    split at h<;>simp at h;obtain ⟨rfl,_⟩:=h;rfl
   ·cases h
 case ref=>(repeat' split at h)<;>simp at h<;>obtain ⟨rfl,_⟩:=h<;>rfl
 case mref=>split at h<;>simp at h;obtain ⟨rfl,_⟩:=h;rfl
 case yld=>split at h<;>simp at h;obtain ⟨rfl,_⟩:=h;rfl
 case agg=>simp [AV.okc] at k
 case tup=>simp [AV.okc] at k
 case clo=>
  simp only [obI,omI] at h
  obtain ⟨a,_,b,_,h⟩:=h
  injection h with h1 h2;subst h1;rfl
 case ifc=>
  simp only [omI] at h
  obtain ⟨a,_,h⟩:=h
  injection h with h1 h2;subst h1;rfl
 case unk=>cases h
 all_goals (injection h with h;injection h with h1 h2;subst h1;exact k)
theorem pkL_okc {n:Nat}:∀ (xs:List AV) {hp:List Blk} {r:List AV × List Blk},pkL n hp xs=some r→xs.all AV.okc=true→r.1.all AV.okc=true
 | [],hp,r,h,_=>by simp only [pkL] at h;injection h with h;subst h;rfl
 |x::xs,hp,r,h,k=>by
  simp only [pkL,obI,omI] at h
  obtain ⟨a,ha,b,hb,rfl⟩:=h
  simp only [List.all_cons,Bool.and_eq_true] at k ⊢
  exact ⟨pk_okc (show pk n hp x=some (a.1,a.2) from ha) k.1,pkL_okc xs hb k.2⟩
mutual
theorem pk_ok {n:Nat}:∀ (x:AV) {hp hp':List Blk} {x':AV} {m:Mem} {v:Value} {f f0:List Nat},pk n hp x=some (x',hp')→HInv fr w0 m hp w (f0++f)→R m w x v f →
  ∃ m' f',Ext fr m m'∧m'.im=m.im∧m'.bl=m.bl∧HInv fr w0 m' hp' w (f0++f')∧R m' w x' v f'∧hp'.length=hp.length
 | .own sz id,hp,hp',x',m,v,f,f0,h,H,k=>by
  simp only [R] at k
  obtain ⟨rfl,k⟩:=k
  simp only [pk] at h
  split at h
  ·injection h with h;injection h with h1 h2;subst h1;subst h2
   exact ⟨m,[],Ext.refl fr m,rfl,rfl,H,R_of_C _ _ k,rfl⟩
  ·simp only [C] at k
   obtain ⟨e,he,rfl,hsz⟩:=k
   split at h
   ·rename_i cs hb
    split at h
    ·injection h with h;injection h with h1 h2;subst h1;subst h2
     obtain ⟨h1,h2,h3,h4,h5⟩:=H.blk id _ e hb he
     have Hk:=(H.kill id).perm (fl':=f0++m.fp id) (by simpa using List.perm_append_comm)
     refine ⟨_,m.fp id,ext_fp (fun k=>if k=id then [] else m.fp k),rfl,rfl,Hk,?_,by simp⟩
     simp only [R]
     refine ⟨h1,e.a,e.n,e.cap,rfl,by rw [←hsz];exact h2,h3,h4,?_⟩
     rcases h5 with ⟨q1,q2,q3⟩ | ⟨g,q1,q2,q3,_⟩
     ·exact .inl ⟨q2,q3⟩
     ·obtain ⟨cur,t,f',r1,r2,r3,r4⟩:=q3 rfl
      exact .inr ⟨g,cur,t,f',q2,r1,by rw [←hsz];exact r2,r3,RL_mono (le_fp _) (fun _ _=>rfl) (fun _ _ h=>h) r4⟩
    ·cases h
   ·rename_i cs hb
    split at h
    ·injection h with h;injection h with h1 h2;subst h1;subst h2
     obtain ⟨h1,h2,h3,h4,h5⟩:=H.blk id _ e hb he
     refine ⟨m,[],Ext.refl fr m,rfl,rfl,H,?_,rfl⟩
     simp only [R,C]
     refine ⟨trivial,h1,e.a,e.n,e.cap,rfl,by rw [←hsz];exact h2,h3,h4,fun hne=>?_⟩
     rcases h5 with ⟨q1,q2,q3⟩ | ⟨g,q1,q2,_,q4⟩
     ·exfalso
      have:e.n=0:=by omega
      rw [this] at h2
      exact hne (List.eq_nil_of_length_eq_zero (by simpa using h2))
     ·exact ⟨g,0,q2,by simpa using (q4 rfl).2⟩
    ·cases h
   ·cases h
 | .osl sz id o n',hp,hp',x',m,v,f,f0,h,H,k=>by
  simp only [R] at k
  obtain ⟨rfl,k⟩:=k
  simp only [pk] at h
  split at h
  ·injection h with h;injection h with h1 h2;subst h1;subst h2
   exact ⟨m,[],Ext.refl fr m,rfl,rfl,H,R_of_C _ _ k,rfl⟩
  ·simp only [C] at k
   obtain ⟨e,he,hsz,hsz0,a,c,rfl,hnc,hco,hca⟩:=k
   split at h
   ·rename_i cs hb
    split at h
    ·rename_i hc
     obtain ⟨_,rfl,hlen⟩:=hc
     injection h with h;injection h with h1 h2;subst h1;subst h2
     obtain ⟨h1,h2,h3,h4,h5⟩:=H.blk id _ e hb he
     have hlt:(cs.take (n'*sz)).length=n'*sz:=by simp;omega
     rcases h5 with ⟨q1,q2,q3⟩ | ⟨g,q1,q2,q3,_⟩
     ·have Hk:=((H.kill id).perm (fl':=f0++m.fp id) (by simpa using List.perm_append_comm))
      rw [q3] at Hk
      refine ⟨_,[],ext_fp (fun k=>if k=id then [] else m.fp k),rfl,rfl,Hk,?_,by simp⟩
      simp only [R]
      exact ⟨all_take h1 _,a,n',c,rfl,hlt,fun h=>by omega,hnc,.inl ⟨by omega,trivial⟩⟩
     ·obtain ⟨cur,t,f',r1,r2,r3,r4⟩:=q3 rfl
      obtain ⟨fa,fb,hfab,ra,rb⟩:=CL_get r4 (n'*sz)
      rcases hca with hc0 | ⟨g',hg',rfl⟩
      ·have Hk:=((H.kill id).fsub (fl':=f0++[]) (fun q hq=>by simp at hq;simp [hq]) (by simpa using (List.nodup_append.1 H.fnd).1))
       refine ⟨_,[],ext_fp (fun k=>if k=id then [] else m.fp k),rfl,rfl,Hk,?_,by simp⟩
       simp only [R]
       exact ⟨all_take h1 _,a,n',c,rfl,hlt,fun h=>by omega,hnc,.inl ⟨hc0,trivial⟩⟩
      ·rw [q1] at hg';injection hg' with hg';subst hg'
       have hnd:=H.nd id
       rw [r3,hfab] at hnd
       have hsubl:∀ q∈g::fa,q∈m.fp id:=fun q hq=>by rw [r3,hfab];simp at hq ⊢;rcases hq with h | h;exact .inl h;exact .inr (.inl h)
       have Hk:=((H.kill id).fsub (fl':=f0++(g::fa)) (fun q hq=>by
        rcases List.mem_append.1 hq with h | h
        ·simp [h]
        ·exact List.mem_append_left _ (hsubl q h)) (by
        rw [List.nodup_append]
        refine ⟨(List.nodup_append.1 H.fnd).1,?_,fun x hx y hy e=>H.fdj id y (hsubl y hy) (by rw [←e];simp [hx])⟩
        rw [List.nodup_cons] at hnd ⊢
        exact ⟨fun h=>hnd.1 (by simp [h]),(List.nodup_append.1 hnd.2).1⟩))
       refine ⟨_,g::fa,ext_fp (fun k=>if k=id then [] else m.fp k),rfl,rfl,Hk,?_,by simp⟩
       simp only [R]
       refine ⟨all_take h1 _,_,n',c,rfl,hlt,fun h=>?_,hnc,.inr ⟨g,cur,t,fa,by simp,r1,by rw [r2,←hco,hsz];simp,rfl,RL_mono (le_fp _) (fun _ _=>rfl) (fun _ _ h=>h) ra⟩⟩
       rcases Nat.eq_zero_or_pos n' with h0 | h0
       ·exact h0
       ·have:=Nat.mul_pos h0 hsz0
        rw [h] at hlt;simp only [List.length_nil] at hlt;omega
    ·cases h
   ·rename_i cs hb
    simp only [obI] at h
    obtain ⟨cs',hp1,h⟩:=h
    split at h
    ·injection h with h;injection h with h1 h2;subst h1;subst h2
     obtain ⟨h1,h2,h3,h4,h5⟩:=H.blk id _ e hb he
     simp only [part] at hp1
     split at hp1
     ·rename_i hle
      injection hp1 with hp1
      subst hp1
      have hlt:((cs.drop (o*sz)).take (n'*sz)).length=n'*sz:=by simp;rw [Nat.add_mul] at hle;omega
      refine ⟨m,[],Ext.refl fr m,rfl,rfl,H,?_,rfl⟩
      simp only [R,C]
      refine ⟨trivial,all_take (all_drop h1 _) _,a,n',c,rfl,hlt,fun h=>?_,hnc,fun hne=>?_⟩
      ·rcases Nat.eq_zero_or_pos n' with h0 | h0
       ·exact h0
       ·have:=Nat.mul_pos h0 hsz0
        rw [h] at hlt;simp only [List.length_nil] at hlt;omega
      ·rcases hca with hc0 | ⟨g',hg',rfl⟩
       ·exfalso
        have:n'=0:=by omega
        subst this
        simp at hne
       ·rcases h5 with ⟨q1,q2,q3⟩ | ⟨g,q1,q2,_,q4⟩
        ·rw [q1] at hg';cases hg'
        ·rw [q1] at hg';injection hg' with hg';subst hg'
         exact ⟨g,o*sz,rfl,CL_take (CL_drop (q4 rfl).2 _) _⟩
     ·cases hp1
    ·cases h
   ·cases h
 | .ref id off,hp,hp',x',m,v,f,f0,h,H,k=>by
  simp only [R] at k
  obtain ⟨rfl,k⟩:=k
  simp only [pk] at h
  split at h
  ·injection h with h;injection h with h1 h2;subst h1;subst h2
   exact ⟨m,[],Ext.refl fr m,rfl,rfl,H,R_of_C _ _ k,rfl⟩
  ·simp only [C] at k
   obtain ⟨e,he,g,hg,rfl⟩:=k
   split at h
   ·rename_i cs hb
    split at h
    ·rename_i hc
     obtain ⟨_,rfl⟩:=hc
     injection h with h;injection h with h1 h2;subst h1;subst h2
     obtain ⟨h1,h2,h3,h4,h5⟩:=H.blk id _ e hb he
     rcases h5 with ⟨q1,_⟩ | ⟨g',q1,q2,q3,_⟩
     ·rw [hg] at q1;cases q1
     ·rw [hg] at q1;injection q1 with q1;subst q1
      obtain ⟨cur,t,f',r1,r2,r3,r4⟩:=q3 rfl
      have Hk:=(H.kill id).perm (fl':=f0++m.fp id) (by simpa using List.perm_append_comm)
      refine ⟨_,m.fp id,ext_fp (fun k=>if k=id then [] else m.fp k),rfl,rfl,Hk,?_,by simp⟩
      simp only [R]
      exact ⟨h1,g,cur,t,f',rfl,r1,r3,RL_mono (le_fp _) (fun _ _=>rfl) (fun _ _ h=>h) r4⟩
    ·cases h
   ·rename_i cs hb
    split at h
    ·injection h with h;injection h with h1 h2;subst h1;subst h2
     obtain ⟨h1,h2,h3,h4,h5⟩:=H.blk id _ e hb he
     refine ⟨m,[],Ext.refl fr m,rfl,rfl,H,?_,rfl⟩
     simp only [R,C]
     rcases h5 with ⟨q1,_⟩ | ⟨g',q1,q2,_,q4⟩
     ·rw [hg] at q1;cases q1
     ·rw [hg] at q1;injection q1 with q1;subst q1
      exact ⟨trivial,all_drop h1 _,g,off,rfl,CL_drop (q4 rfl).2 off⟩
    ·cases h
   ·cases h
 | .mref id,hp,hp',x',m,v,f,f0,h,H,k | .yld id,hp,hp',x',m,v,f,f0,h,H,k=>by
  simp only [pk] at h
  split at h
  ·injection h with h;injection h with h1 h2;subst h1;subst h2
   exact ⟨m,f,Ext.refl fr m,rfl,rfl,H,k,rfl⟩
  ·cases h
 | .agg cs,hp,hp',x',m,v,f,f0,h,H,k=>by
  simp only [pk,omI] at h
  obtain ⟨r,hr,h⟩:=h
  injection h with h1 h2;subst h1;subst h2
  simp only [R] at k
  obtain ⟨k1,vs,rfl,k3,k4⟩:=k
  obtain ⟨m',f',hE,e1,e2,HH,hR,hl,hlen,_⟩:=pkL_ok cs hr H k4
  refine ⟨m',f',hE,e1,e2,HH,?_,hl⟩
  simp only [R]
  exact ⟨pkL_okc cs hr k1,vs,rfl,by rw [hlen];exact k3,hR⟩
 | .tup cs,hp,hp',x',m,v,f,f0,h,H,k=>by
  simp only [pk,omI] at h
  obtain ⟨r,hr,h⟩:=h
  injection h with h1 h2;subst h1;subst h2
  simp only [R] at k
  obtain ⟨vs,rfl,k3,k4⟩:=k
  obtain ⟨m',f',hE,e1,e2,HH,hR,hl,hlen,_⟩:=pkL_ok cs hr H k4
  refine ⟨m',f',hE,e1,e2,HH,?_,hl⟩
  simp only [R]
  exact ⟨vs,rfl,by rw [hlen];exact k3,hR⟩
 | .clo q fs cs,hp,hp',x',m,v,f,f0,h,H,k=>by
  simp only [pk,obI,omI] at h
  obtain ⟨a,ha,b,hb,h⟩:=h
  injection h with h1 h2;subst h1;subst h2
  simp only [R] at k
  obtain ⟨fn,fs',cs',f1,f2,rfl,k2,k3,k4,rfl,k6,k7⟩:=k
  have H0:HInv fr w0 m hp w ((f0++f2)++f1):=H.perm (by simpa using List.Perm.append_left f0 List.perm_append_comm)
  obtain ⟨m1,g1,hE1,e1,e2,H1,hR1,hl1,hlen1,_⟩:=pkL_ok (f0:=f0++f2) fs ha H0 k6
  have H1':HInv fr w0 m1 a.2 w ((f0++g1)++f2):=H1.perm (by simpa using List.Perm.append_left f0 List.perm_append_comm)
  obtain ⟨m2,g2,hE2,e3,e4,H2,hR2,hl2,hlen2,_⟩:=pkL_ok (f0:=f0++g1) cs hb H1' (RL_mono hE1.le (fun _ _=>rfl) (fun _ _ h=>h) k7)
  refine ⟨m2,g1++g2,hE1.trans hE2,by rw [e3,e1],by rw [e4,e2],by rw [←List.append_assoc];exact H2,?_,by omega⟩
  simp only [R]
  exact ⟨fn,fs',cs',g1,g2,rfl,by rw [(hE1.trans hE2).le.cd];exact k2,by omega,by omega,rfl,RL_mono hE2.le (fun _ _=>rfl) (fun _ _ h=>h) hR1,hR2⟩
 | .ifc t x,hp,hp',x',m,v,f,f0,h,H,k=>by
  simp only [pk,omI] at h
  obtain ⟨r,hr,h⟩:=h
  injection h with h1 h2;subst h1;subst h2
  simp only [R] at k
  obtain ⟨u,rfl,k2⟩:=k
  obtain ⟨m',f',hE,e1,e2,HH,hR,hl⟩:=pk_ok x hr H k2
  refine ⟨m',f',hE,e1,e2,HH,?_,hl⟩
  simp only [R]
  exact ⟨u,rfl,hR⟩
 | .unk,hp,hp',x',m,v,f,f0,h,H,k=>by simp [pk] at h
 | .any,hp,hp',x',m,v,f,f0,h,H,k | .maybe _ _,hp,hp',x',m,v,f,f0,h,H,k | .bool _,hp,hp',x',m,v,f,f0,h,H,k | .int _ _,hp,hp',x',m,v,f,f0,h,H,k | .str _,hp,hp',x',m,v,f,f0,h,H,k | .nils,hp,hp',x',m,v,f,f0,h,H,k | .nilp,hp,hp',x',m,v,f,f0,h,H,k | .nilf,hp,hp',x',m,v,f,f0,h,H,k | .nili,hp,hp',x',m,v,f,f0,h,H,k | .nilm,hp,hp',x',m,v,f,f0,h,H,k
 | .sl _ _,hp,hp',x',m,v,f,f0,h,H,k | .ip _,hp,hp',x',m,v,f,f0,h,H,k | .vec _ _,hp,hp',x',m,v,f,f0,h,H,k | .box _,hp,hp',x',m,v,f,f0,h,H,k | .mp _ _,hp,hp',x',m,v,f,f0,h,H,k=>by
  simp only [pk] at h
  injection h with h;injection h with h1 h2;subst h1;subst h2
  exact ⟨m,f,Ext.refl fr m,rfl,rfl,H,k,rfl⟩
theorem pkL_ok {n:Nat}:∀ (xs:List AV) {hp:List Blk} {r:List AV × List Blk} {m:Mem} {g:Nat→Option Value} {f f0:List Nat},pkL n hp xs=some r→HInv fr w0 m hp w (f0++f)→RL m w xs g f →
  ∃ m' f',Ext fr m m'∧m'.im=m.im∧m'.bl=m.bl∧HInv fr w0 m' r.2 w (f0++f')∧RL m' w r.1 g f'∧r.2.length=hp.length∧r.1.length=xs.length∧True
 | [],hp,r,m,g,f,f0,h,H,k=>by
  simp only [pkL] at h
  injection h with h;subst h
  simp only [RL] at k
  subst k
  exact ⟨m,[],Ext.refl fr m,rfl,rfl,H,by simp [RL],rfl,rfl,trivial⟩
 |x::xs,hp,r,m,g,f,f0,h,H,k=>by
  simp only [pkL,obI,omI] at h
  obtain ⟨a,ha,b,hb,rfl⟩:=h
  simp only [RL] at k
  obtain ⟨f1,f2,rfl,⟨u,hu,k1⟩,k2⟩:=k
  have H0:HInv fr w0 m hp w ((f0++f2)++f1):=H.perm (by simpa using List.Perm.append_left f0 List.perm_append_comm)
  obtain ⟨m1,g1,hE1,e1,e2,H1,hR1,hl1⟩:=pk_ok (f0:=f0++f2) x (show pk n hp x=some (a.1,a.2) from ha) H0 k1
  have H1':HInv fr w0 m1 a.2 w ((f0++g1)++f2):=H1.perm (by simpa using List.Perm.append_left f0 List.perm_append_comm)
  obtain ⟨m2,g2,hE2,e3,e4,H2,hR2,hl2,hlen2,_⟩:=pkL_ok (f0:=f0++g1) xs hb H1' (RL_mono hE1.le (fun _ _=>rfl) (fun _ _ h=>h) k2)
  refine ⟨m2,g1++g2,hE1.trans hE2,by rw [e3,e1],by rw [e4,e2],by rw [←List.append_assoc];exact H2,?_,by show b.2.length=hp.length;omega,by simp [hlen2],trivial⟩
  simp only [RL]
  exact ⟨g1,g2,rfl,⟨u,hu,R_mono hE2.le (fun _ _=>rfl) hR1⟩,hR2⟩
end
theorem pks_ok {hp hp':List Blk} {x x':AV} {m:Mem} {v:Value} {f f0:List Nat} (h:pks hp x=some (x',hp')) (H:HInv fr w0 m hp w (f0++f)) (k:R m w x v f):
  ∃ m' f',Ext fr m m'∧m'.im=m.im∧m'.bl=m.bl∧HInv fr w0 m' hp' w (f0++f')∧R m' w x' v f'∧hp'.length=hp.length:=by
 have same:∀ {y},x=y→some (y,hp)=some (x',hp')→∃ m' f',Ext fr m m'∧m'.im=m.im∧m'.bl=m.bl∧HInv fr w0 m' hp' w (f0++f')∧R m' w x' v f'∧hp'.length=hp.length:=by
  intro y hy h
  injection h with h;injection h with h1 h2;subst h1;subst h2;subst hy
  exact ⟨m,f,Ext.refl fr m,rfl,rfl,H,k,rfl⟩
 cases x
 case unk=>simp [pks] at h
 case ref=>exact same rfl h
 case mref=>exact same rfl h
 case yld=>exact same rfl h
 case clo=>exact same rfl h
 all_goals exact pk_ok _ h H k
theorem pksL_ok:∀ (xs:List AV) {hp:List Blk} {r:List AV × List Blk} {m:Mem} {g:Nat→Option Value} {f f0:List Nat},pksL hp xs=some r→HInv fr w0 m hp w (f0++f)→RL m w xs g f →
  ∃ m' f',Ext fr m m'∧m'.im=m.im∧m'.bl=m.bl∧HInv fr w0 m' r.2 w (f0++f')∧RL m' w r.1 g f'∧r.2.length=hp.length∧r.1.length=xs.length
 | [],hp,r,m,g,f,f0,h,H,k=>by
  simp only [pksL] at h
  injection h with h;subst h
  simp only [RL] at k
  subst k
  exact ⟨m,[],Ext.refl fr m,rfl,rfl,H,by simp [RL],rfl,rfl⟩
 |x::xs,hp,r,m,g,f,f0,h,H,k=>by
  simp only [pksL,obI,omI] at h
  obtain ⟨a,ha,b,hb,rfl⟩:=h
  simp only [RL] at k
  obtain ⟨f1,f2,rfl,⟨u,hu,k1⟩,k2⟩:=k
  have H0:HInv fr w0 m hp w ((f0++f2)++f1):=H.perm (by simpa using List.Perm.append_left f0 List.perm_append_comm)
  obtain ⟨m1,g1,hE1,e1,e2,H1,hR1,hl1⟩:=pks_ok (f0:=f0++f2) (show pks hp x=some (a.1,a.2) from ha) H0 k1
  have H1':HInv fr w0 m1 a.2 w ((f0++g1)++f2):=H1.perm (by simpa using List.Perm.append_left f0 List.perm_append_comm)
  obtain ⟨m2,g2,hE2,e3,e4,H2,hR2,hl2,hlen2⟩:=pksL_ok (f0:=f0++g1) xs hb H1' (RL_mono hE1.le (fun _ _=>rfl) (fun _ _ h=>h) k2)
  refine ⟨m2,g1++g2,hE1.trans hE2,by rw [e3,e1],by rw [e4,e2],by rw [←List.append_assoc];exact H2,?_,by show b.2.length=hp.length;omega,by simp [hlen2]⟩
  simp only [RL]
  exact ⟨g1,g2,rfl,⟨u,hu,R_mono hE2.le (fun _ _=>rfl) hR1⟩,hR2⟩
theorem pks_okc {hp hp':List Blk} {x x':AV} (h:pks hp x=some (x',hp')) (k:x.okc=true):x'.okc=true:=by
 cases x
 case unk=>simp [pks] at h
 case ref=>injection h with h;injection h with h1 h2;subst h1;rfl
 case mref=>injection h with h;injection h with h1 h2;subst h1;rfl
 case yld=>injection h with h;injection h with h1 h2;subst h1;rfl
 case clo=>injection h with h;injection h with h1 h2;subst h1;rfl
 all_goals exact pk_okc h k
theorem unpk_ok:∀ (xs:List AV) {hp:List Blk} {m:Mem} {g:Nat→Option Value} {f f0:List Nat},HInv fr w0 m hp w (f0++f)→RL m w xs g f →
  ∃ m' f',Ext fr m m'∧m'.im=m.im∧(∀ k,k<hp.length→m'.fp k=m.fp k)∧HInv fr w0 m' (unpk hp xs).2 w (f0++f')∧RL m' w (unpk hp xs).1 g f'∧(unpk hp xs).1.length=xs.length∧(xs.all AV.okc=true→(unpk hp xs).1.all AV.okc=true)∧∃ l,(unpk hp xs).2=hp++l
 | [],hp,m,g,f,f0,H,k=>by
  simp only [RL] at k
  subst k
  exact ⟨m,[],Ext.refl fr m,rfl,fun _ _=>rfl,H,by simp [unpk,RL],rfl,fun _=>rfl,[],by simp [unpk]⟩
 |x::xs,hp,m,g,f,f0,H,k=>by
  simp only [RL] at k
  obtain ⟨f1,f2,rfl,⟨u,hu,k1⟩,k2⟩:=k
  have take:∀ (y:AV) (cs:List AV) (e:Ent),BlkOk m w (.row false cs) e f1→(∀ m':Mem,m'.bl[hp.length]? = some e→C m' y u)→y.okc=true→(unpk hp (x::xs)).1=y::(unpk (hp++[.row false cs]) xs).1→(unpk hp (x::xs)).2=(unpk (hp++[.row false cs]) xs).2 →
    ∃ m' f',Ext fr m m'∧m'.im=m.im∧(∀ k,k<hp.length→m'.fp k=m.fp k)∧HInv fr w0 m' (unpk hp (x::xs)).2 w (f0++f')∧RL m' w (unpk hp (x::xs)).1 g f'∧(unpk hp (x::xs)).1.length=(x::xs).length∧((x::xs).all AV.okc=true→(unpk hp (x::xs)).1.all AV.okc=true)∧∃ l,(unpk hp (x::xs)).2=hp++l:=by
   intro y cs e hB hC hy e1 e2
   have H0:HInv fr w0 m hp w (f1++(f0++f2)):=H.perm (by
    rw [←List.append_assoc,←List.append_assoc]
    exact List.Perm.append_right _ List.perm_append_comm)
   have H1:=H0.adopt hB
   obtain ⟨m2,g2,hE2,i2,p2,H2,hR2,hl2,hk2,l,hl⟩:=unpk_ok (f0:=f0) xs H1 (RL_mono (le_app _ _) (fun _ _=>rfl) (fun _ _ h=>h) k2)
   refine ⟨m2,g2,(ext_app (fr:=fr) (m:=m) [e] _).trans hE2,i2,fun k hk=>?_,by rw [e2];exact H2,?_,by rw [e1];simp [hl2],fun ha=>?_,.row false cs::l,by rw [e2,hl];simp⟩
   ·rw [p2 k (by simp;omega)]
    show (if _ then _ else _)=_
    rw [if_neg (by omega)]
   ·rw [e1]
    simp only [RL]
    exact ⟨[],g2,rfl,⟨u,hu,R_of_C _ _ (hC m2 (hE2.le.bl _ _ (by show (m.bl++[e])[hp.length]? = _;rw [←H.len];exact get_new)))⟩,hR2⟩
   ·simp only [List.all_cons,Bool.and_eq_true] at ha
    rw [e1]
    simp only [List.all_cons,Bool.and_eq_true]
    exact ⟨hy,hk2 ha.2⟩
  by_cases hv:∃ sz cs,x=.vec sz cs
  ·obtain ⟨sz,cs,rfl⟩:=hv
   simp only [R] at k1
   obtain ⟨h1,a,n,c,rfl,h3,h4,h5,h6⟩:=k1
   rcases h6 with ⟨rfl,rfl⟩ | ⟨g1,cur,t,f',rfl,h8,h9,rfl,h10⟩
   ·refine take (.own sz hp.length) cs ⟨a,none,0,n,sz⟩ ⟨h1,h3,h4,h5,.inl ⟨rfl,rfl,rfl⟩⟩ (fun m' hb=>?_) rfl rfl rfl
    simp only [C]
    exact ⟨_,hb,rfl,rfl⟩
   ·refine take (.own sz hp.length) cs ⟨some ⟨g1,0,none⟩,some g1,c,n,sz⟩ ⟨h1,h3,h4,h5,.inr ⟨g1,rfl,rfl,fun _=>⟨cur,t,f',h8,h9,rfl,h10⟩,fun h=>by cases h⟩⟩ (fun m' hb=>?_) rfl rfl rfl
    simp only [C]
    exact ⟨_,hb,rfl,rfl⟩
  ·by_cases hb:∃ cs,x=.box cs
   ·obtain ⟨cs,rfl⟩:=hb
    simp only [R] at k1
    obtain ⟨h1,g1,cur,t,f',rfl,h8,rfl,h10⟩:=k1
    refine take (.ref hp.length 0) cs ⟨some ⟨g1,0,none⟩,some g1,cur.size,cs.length,1⟩ ⟨h1,by simp,fun h=>by simp [h],RL_length h10,.inr ⟨g1,rfl,rfl,fun _=>⟨cur,t,f',h8,by simp,rfl,h10⟩,fun h=>by cases h⟩⟩ (fun m' hb=>?_) rfl rfl rfl
    simp only [C]
    exact ⟨_,hb,g1,rfl,rfl⟩
   ·have e1:(unpk hp (x::xs))=(x::(unpk hp xs).1,(unpk hp xs).2):=by
     cases x<;>first | rfl | exact absurd ⟨_,_,rfl⟩ hv | exact absurd ⟨_,rfl⟩ hb
    have H0:HInv fr w0 m hp w ((f0++f1)++f2):=by rw [List.append_assoc];exact H
    obtain ⟨m2,g2,hE2,i2,p2,H2,hR2,hl2,hk2,l,hl⟩:=unpk_ok (f0:=f0++f1) xs H0 k2
    rw [e1]
    refine ⟨m2,f1++g2,hE2,i2,p2,by rw [←List.append_assoc];exact H2,?_,by simp [hl2],fun ha=>?_,l,hl⟩
    ·simp only [RL]
     exact ⟨f1,g2,rfl,⟨u,hu,R_mono hE2.le (fun _ _=>rfl) k1⟩,hR2⟩
    ·simp only [List.all_cons,Bool.and_eq_true] at ha ⊢
     exact ⟨ha.1,hk2 ha.2⟩
mutual
theorem thaw_ok:∀ (x:AV) {hp:List Blk} {m:Mem} {v:Value} {f f0:List Nat},HInv fr w0 m hp w (f0++f)→R m w x v f →
  ∃ m' f',Ext fr m m'∧m'.im=m.im∧HInv fr w0 m' (thaw hp x).2 w (f0++f')∧R m' w (thaw hp x).1 v f'∧(thaw hp x).1.okc=x.okc
 | .vec sz cs,hp,m,v,f,f0,H,k=>by
  have hR:RL m w [.vec sz cs] (fun i=>if i=0 then some v else none) f:=by
   simp only [RL];exact ⟨f,[],by simp,⟨v,rfl,k⟩,rfl⟩
  obtain ⟨m2,g2,hE2,i2,p2,H2,hR2,hl2,hk2,_⟩:=unpk_ok (f0:=f0) [.vec sz cs] H hR
  simp only [unpk,RL] at hR2
  obtain ⟨f1,f2,rfl,⟨u,hu,hRu⟩,rfl⟩:=hR2
  simp at hu;subst hu
  simp only [unpk] at H2
  exact ⟨m2,f1,hE2,i2,by simpa [thaw] using H2,by simpa [thaw] using hRu,rfl⟩
 | .box cs,hp,m,v,f,f0,H,k=>by
  have hR:RL m w [.box cs] (fun i=>if i=0 then some v else none) f:=by
   simp only [RL];exact ⟨f,[],by simp,⟨v,rfl,k⟩,rfl⟩
  obtain ⟨m2,g2,hE2,i2,p2,H2,hR2,hl2,hk2,_⟩:=unpk_ok (f0:=f0) [.box cs] H hR
  simp only [unpk,RL] at hR2
  obtain ⟨f1,f2,rfl,⟨u,hu,hRu⟩,rfl⟩:=hR2
  simp at hu;subst hu
  simp only [unpk] at H2
  exact ⟨m2,f1,hE2,i2,by simpa [thaw] using H2,by simpa [thaw] using hRu,rfl⟩
 | .agg cs,hp,m,v,f,f0,H,k=>by
  simp only [R] at k
  obtain ⟨k1,vs,rfl,k3,k4⟩:=k
  obtain ⟨m',f',hE,e1,HH,hR,hlen,hok⟩:=thawL_ok cs H k4
  refine ⟨m',f',hE,e1,by simpa [thaw] using HH,?_,rfl⟩
  simp only [thaw,R]
  exact ⟨by rw [hok];exact k1,vs,rfl,by rw [hlen];exact k3,hR⟩
 | .tup cs,hp,m,v,f,f0,H,k=>by
  simp only [R] at k
  obtain ⟨vs,rfl,k3,k4⟩:=k
  obtain ⟨m',f',hE,e1,HH,hR,hlen,hok⟩:=thawL_ok cs H k4
  refine ⟨m',f',hE,e1,by simpa [thaw] using HH,?_,rfl⟩
  simp only [thaw,R]
  exact ⟨vs,rfl,by rw [hlen];exact k3,hR⟩
 | .clo q fs cs,hp,m,v,f,f0,H,k=>by
  simp only [R] at k
  obtain ⟨fn,fs',cs',f1,f2,rfl,k2,k3,k4,rfl,k6,k7⟩:=k
  have H0:HInv fr w0 m hp w ((f0++f2)++f1):=H.perm (by simpa using List.Perm.append_left f0 List.perm_append_comm)
  obtain ⟨m1,g1,hE1,e1,H1,hR1,hlen1,_⟩:=thawL_ok (f0:=f0++f2) fs H0 k6
  have H1':HInv fr w0 m1 (thawL hp fs).2 w ((f0++g1)++f2):=H1.perm (by simpa using List.Perm.append_left f0 List.perm_append_comm)
  obtain ⟨m2,g2,hE2,e3,H2,hR2,hlen2,_⟩:=thawL_ok (f0:=f0++g1) cs H1' (RL_mono hE1.le (fun _ _=>rfl) (fun _ _ h=>h) k7)
  refine ⟨m2,g1++g2,hE1.trans hE2,by rw [e3,e1],by rw [←List.append_assoc];exact H2,?_,rfl⟩
  simp only [thaw,R]
  exact ⟨fn,fs',cs',g1,g2,rfl,by rw [(hE1.trans hE2).le.cd];exact k2,by omega,by omega,rfl,RL_mono hE2.le (fun _ _=>rfl) (fun _ _ h=>h) hR1,hR2⟩
 | .ifc t x,hp,m,v,f,f0,H,k=>by
  simp only [R] at k
  obtain ⟨u,rfl,k2⟩:=k
  obtain ⟨m',f',hE,e1,HH,hR,_⟩:=thaw_ok x H k2
  refine ⟨m',f',hE,e1,by simpa [thaw] using HH,?_,rfl⟩
  simp only [thaw,R]
  exact ⟨u,rfl,hR⟩
 | .mp _ _,hp,m,v,f,f0,H,k=>by simp only [R] at k
 | .unk,hp,m,v,f,f0,H,k | .any,hp,m,v,f,f0,H,k | .maybe _ _,hp,m,v,f,f0,H,k | .bool _,hp,m,v,f,f0,H,k | .int _ _,hp,m,v,f,f0,H,k | .str _,hp,m,v,f,f0,H,k | .nils,hp,m,v,f,f0,H,k | .nilp,hp,m,v,f,f0,H,k | .nilf,hp,m,v,f,f0,H,k | .nili,hp,m,v,f,f0,H,k | .nilm,hp,m,v,f,f0,H,k
 | .sl _ _,hp,m,v,f,f0,H,k | .ip _,hp,m,v,f,f0,H,k | .own _ _,hp,m,v,f,f0,H,k | .osl _ _ _ _,hp,m,v,f,f0,H,k | .ref _ _,hp,m,v,f,f0,H,k | .mref _,hp,m,v,f,f0,H,k | .yld _,hp,m,v,f,f0,H,k=>by
  exact ⟨m,f,Ext.refl fr m,rfl,H,k,rfl⟩
theorem thawL_ok:∀ (xs:List AV) {hp:List Blk} {m:Mem} {g:Nat→Option Value} {f f0:List Nat},HInv fr w0 m hp w (f0++f)→RL m w xs g f →
  ∃ m' f',Ext fr m m'∧m'.im=m.im∧HInv fr w0 m' (thawL hp xs).2 w (f0++f')∧RL m' w (thawL hp xs).1 g f'∧(thawL hp xs).1.length=xs.length∧(thawL hp xs).1.all AV.okc=xs.all AV.okc
 | [],hp,m,g,f,f0,H,k=>by
  simp only [RL] at k
  subst k
  exact ⟨m,[],Ext.refl fr m,rfl,H,by simp [thawL,RL],rfl,rfl⟩
 |x::xs,hp,m,g,f,f0,H,k=>by
  simp only [RL] at k
  obtain ⟨f1,f2,rfl,⟨u,hu,k1⟩,k2⟩:=k
  have H0:HInv fr w0 m hp w ((f0++f2)++f1):=H.perm (by simpa using List.Perm.append_left f0 List.perm_append_comm)
  obtain ⟨m1,g1,hE1,e1,H1,hR1,ho1⟩:=thaw_ok (f0:=f0++f2) x H0 k1
  have H1':HInv fr w0 m1 (thaw hp x).2 w ((f0++g1)++f2):=H1.perm (by simpa using List.Perm.append_left f0 List.perm_append_comm)
  obtain ⟨m2,g2,hE2,e3,H2,hR2,hl2,ho2⟩:=thawL_ok (f0:=f0++g1) xs H1' (RL_mono hE1.le (fun _ _=>rfl) (fun _ _ h=>h) k2)
  refine ⟨m2,g1++g2,hE1.trans hE2,by rw [e3,e1],by rw [←List.append_assoc];exact H2,?_,by simp [thawL,hl2],by simp [thawL,ho1,ho2]⟩
  simp only [thawL,RL]
  exact ⟨g1,g2,rfl,⟨u,hu,R_mono hE2.le (fun _ _=>rfl) hR1⟩,hR2⟩
end
end
end Go.Proofs.Ytfbfbennheeglaa
