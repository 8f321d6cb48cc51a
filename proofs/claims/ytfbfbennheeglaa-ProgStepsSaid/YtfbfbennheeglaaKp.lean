import Derived.Test.YtfbfbennheeglaaKm
import Derived.OrdersIn
import Derived.RangeFuncIn
import Derived.RangeFuncLeaves
import Derived.RangeFuncCalls
namespace Go.Proofs.Ytfbfbennheeglaa
set_option linter.unusedSimpArgs false
set_option linter.unusedVariables false
open Go.RowKit
structure Fwd (fr:Nat→Prop) (lo:Nat) (m m':Mem):Prop where
 P:m'.P=m.P
 cd:m'.cd=m.cd
 im:∀ b o u,m.im b o=some u→m'.im b o=some u
 low:∀ b,fr b→∀ o,m'.im b o=m.im b o
 bl:∀ id:Nat,id<lo→m'.bl[id]? = m.bl[id]?
theorem Fwd.refl (fr:Nat→Prop) (lo:Nat) (m:Mem):Fwd fr lo m m:=⟨rfl,rfl,fun _ _ _ h=>h,fun _ _ _=>rfl,fun _ _=>rfl⟩
theorem Fwd.trans {fr:Nat→Prop} {lo:Nat} {a b c:Mem} (h:Fwd fr lo a b) (k:Fwd fr lo b c):Fwd fr lo a c:=
 ⟨k.P.trans h.P,k.cd.trans h.cd,fun x y z q=>k.im _ _ _ (h.im _ _ _ q),fun x q y=>(k.low x q y).trans (h.low x q y),fun x q=>(k.bl x q).trans (h.bl x q)⟩
theorem Fwd.sub {fr fr':Nat→Prop} {lo lo':Nat} {a b:Mem} (h:Fwd fr lo a b) (hf:∀ g,fr' g→fr g) (hl:lo'≤lo):Fwd fr' lo' a b:=
 ⟨h.P,h.cd,h.im,fun b hb=>h.low b (hf b hb),fun id hid=>h.bl id (by omega)⟩
theorem Ext.fwd {fr:Nat→Prop} {lo:Nat} {m m':Mem} (h:Ext fr m m') (hl:lo≤m.bl.length):Fwd fr lo m m':=
 ⟨h.le.P,h.le.cd,h.le.im,h.low,fun id hid=>by
  have:m.bl[id]? = some (m.bl[id]'(by omega)):=List.getElem?_eq_getElem (by omega)
  rw [this];exact h.le.bl id _ this⟩
theorem Fwd.ext {fr:Nat→Prop} {lo:Nat} {m m':Mem} (h:Fwd fr lo m m') (hl:m.bl.length≤lo):Ext fr m m':=
 ⟨⟨h.P,h.cd,h.im,fun id e he=>by rw [h.bl id (Nat.lt_of_lt_of_le (List.getElem?_eq_some_iff.1 he).1 hl)];exact he⟩,h.low⟩
def FnThere (P:Program) (f:FuncId):Prop:=∃ fn,P.funcs[f]? = some fn∧fn.body.isSome=true∧(fn.name == "runtime.NumGoroutine")=false
def RawOk (P:Program) (fid:FuncId→Option Nat) (f:FuncId) (as:List AV) (hp:List Blk) (v:AV) (hp':List Blk):Prop:=
 ∀ (fr:Nat→Prop) w0 m w (args:Array Value),m.P=P→m.cd=fid→HInv fr w0 m hp w []→CL m as (fun i=>args[i]?)→args.size=as.length →
  CallsIn Fence.wide 0 P f args w fun e w'=>∃ u m',e=.returned u∧Fwd fr hp.length m m'∧HInv fr w0 m' hp' w' []∧R m' w' v u []
def CallOk (P:Program) (fid:FuncId→Option Nat) (f:FuncId) (as:List AV) (hps:List Blk) (r:AV × List Blk):Prop:=
 ∀ (fr:Nat→Prop) w0 m w (args:Array Value),m.P=P→m.cd=fid→HInv fr w0 m hps w []→CL m as (fun i=>args[i]?)→args.size=as.length →
  CallsIn Fence.wide 0 P f args w fun e w'=>∃ u m' fl,e=.returned u∧Ext fr m m'∧m'.bl=m.bl∧HInv fr w0 m' r.2 w' fl∧R m' w' r.1 u fl
def CallOkE (E:Ending→Value→Prop) (P:Program) (fid:FuncId→Option Nat) (f:FuncId) (as:List AV) (hps:List Blk) (r:AV × List Blk):Prop:=
 ∀ (fr:Nat→Prop) w0 m w (args:Array Value),m.P=P→m.cd=fid→HInv fr w0 m hps w []→CL m as (fun i=>args[i]?)→args.size=as.length →
  CallsIn Fence.wide 0 P f args w fun e w'=>∃ u m' fl,E e u∧Ext fr m m'∧m'.bl=m.bl∧HInv fr w0 m' r.2 w' fl∧R m' w' r.1 u fl
def Good1 (P:Program) (fid:FuncId→Option Nat) (k:Nat) (as:List AV) (hps:List Blk) (r:AV × List Blk):Prop:=∀ f,fid f=some k→FnThere P f∧CallOk P fid f as hps r
def Good2 (P:Program) (fid:FuncId→Option Nat) (k:Nat) (as:List AV) (hp:List Blk) (v:AV) (hp':List Blk):Prop:=∀ f,fid f=some k→FnThere P f∧RawOk P fid f as hp v hp'
inductive CStep (P:Program) (fid:FuncId→Option Nat) (dr:Bool) (k:Nat) (vs:List AV) (hp:List Blk):Md→AV→List Blk→Prop
 |plain {ps r} (hf:fzL hp vs=some ps) (hr:Good1 P fid k ps [] r) (hd:(!dr || ((noimm r.1 || (idsL vs).isEmpty) && noid r.1))=true):CStep P fid dr k vs hp .plain (thaw (if noimm r.1 then hp else still hp (idsL vs)) r.1).1 (thaw (if noimm r.1 then hp else still hp (idsL vs)) r.1).2
 |quiet {ps r} (hf:fzL hp vs=some ps) (hr:Good1 P fid k ps [] r) (h1:noinl r.1=true) (h2:noimm r.1=true∨idsL vs=[]):CStep P fid dr k vs hp .quiet r.1 hp
 |mem {hps r} (hs:subHp hp (dedup (idsL vs) [])=some hps) (hr:Good1 P fid k (renL (idxOf (dedup (idsL vs) [])) vs) hps r) (hl:r.2.length=(dedup (idsL vs) []).length) (hn:r.2.all Blk.noidb=true):
   CStep P fid dr k vs hp .mem (thaw (putHp hp (dedup (idsL vs) []) r.2) (ren (fun i=>(dedup (idsL vs) []).getD i 0) r.1)).1 (thaw (putHp hp (dedup (idsL vs) []) r.2) (ren (fun i=>(dedup (idsL vs) []).getD i 0) r.1)).2
 |memp {hp1 hps r} (hk:packs hp (dedup (idsL vs) [])=some hp1) (hs:subHp hp1 (dedup (idsL vs) [])=some hps) (hr:Good1 P fid k (renL (idxOf (dedup (idsL vs) [])) vs) hps r) (hl:r.2.length=(dedup (idsL vs) []).length) (hn:r.2.all Blk.noidb=true):
   CStep P fid dr k vs hp .memp (thaw (putHp hp1 (dedup (idsL vs) []) r.2) (ren (fun i=>(dedup (idsL vs) []).getD i 0) r.1)).1 (thaw (putHp hp1 (dedup (idsL vs) []) r.2) (ren (fun i=>(dedup (idsL vs) []).getD i 0) r.1)).2
 |all {v hp'} (hr:Good2 P fid k vs hp v hp'):CStep P fid dr k vs hp .all (thaw hp' v).1 (thaw hp' v).2
 |allk {v hp'} (hr:Good2 P fid k vs hp v hp') (hk:keepOk hp hp' vs=true):CStep P fid dr k vs hp .allk (thaw hp' v).1 (thaw hp' v).2
def Shared (P:Program) (fid:FuncId→Option Nat) (f:FuncId) (as:List AV) (hp:List Blk) (v:AV) (hp':List Blk):Prop:=
 ∀ (fr:Nat→Prop) w0 m w (args:Array Value),m.P=P→m.cd=fid→HInv fr w0 m hp w []→CL m as (fun i=>args[i]?)→args.size=as.length →
  CallsIn Fence.wide 0 P f args w fun e w'=>∃ u m',e=.returned u∧Ext fr m m'∧HInv fr w0 m' hp' w' []∧C m' v u
mutual
theorem frz_frz:∀ x:AV,(x.mapv frz1).mapv frz1=x.mapv frz1
 | .sl _ cs | .ip cs | .vec _ cs | .box cs | .agg cs | .tup cs=>by simp only [AV.mapv,frz1,frzL_frzL cs]
 | .mp a b | .clo _ a b=>by simp only [AV.mapv,frz1,frzL_frzL a,frzL_frzL b]
 | .ifc t v=>by simp only [AV.mapv,frz1,AV.ifc.injEq,true_and];exact frz_frz v
 | .unk | .any | .maybe _ _ | .bool _ | .int _ _ | .str _ | .nils | .nilp | .nilf | .nili | .nilm | .own _ _ | .osl _ _ _ _ | .ref _ _ | .mref _ | .yld _=>by simp [AV.mapv,frz1]
theorem frzL_frzL:∀ l:List AV,mapL frz1 (mapL frz1 l)=mapL frz1 l
 | []=>rfl
 |x::xs=>by simp only [mapL,frzL_frzL xs,List.cons.injEq,and_true];exact frz_frz x
end
theorem still_still (b:Blk):b.still.still=b.still:=by
 cases b<;>simp only [Blk.still]
 rename_i cs
 simp only [frzL,frzL_frzL]
theorem still_get:∀ (l:List Nat) (hp:List Blk) (id:Nat),(still hp l)[id]? = (hp[id]?).map fun b=>if id∈l then b.still else b
 | [],hp,id=>by simp [still]
 |k::l,hp,id=>by
  simp only [still]
  rw [still_get l,mod_get]
  cases hp[id]? with
  |none=>simp
  |some b=>
   by_cases hk:k=id
   ·subst hk
    simp only [if_true,Option.map_some,List.mem_cons,true_or]
    split
    ·rw [still_still]
    ·rfl
   ·rw [if_neg hk]
    simp only [Option.map_some,List.mem_cons]
    have:(id=k∨id∈l)↔id∈l:=⟨fun h=>h.resolve_left (fun e=>hk e.symm),.inr⟩
    simp only [this]
mutual
theorem noid_ids:∀ x:AV,x.allv pnoid=true→x.ids=[]
 | .sl _ cs,h | .ip cs,h | .vec _ cs,h | .box cs,h | .agg cs,h | .tup cs,h=>by
  simp only [AV.allv,Bool.and_eq_true] at h
  simp only [AV.ids];exact noidL_ids cs h.2
 | .mp a b,h | .clo _ a b,h=>by
  simp only [AV.allv,Bool.and_eq_true] at h
  simp only [AV.ids,noidL_ids a h.2.1,noidL_ids b h.2.2,List.append_nil]
 | .ifc t v,h=>by
  simp only [AV.allv,Bool.and_eq_true] at h
  simp only [AV.ids];exact noid_ids v h.2
 | .own _ _,h | .osl _ _ _ _,h | .ref _ _,h | .mref _,h | .yld _,h=>by simp [AV.allv,pnoid] at h
 | .unk,_ | .any,_ | .maybe _ _,_ | .bool _,_ | .int _ _,_ | .str _,_ | .nils,_ | .nilp,_ | .nilf,_ | .nili,_ | .nilm,_=>by simp [AV.ids]
theorem noidL_ids:∀ l:List AV,allL pnoid l=true→idsL l=[]
 | [],_=>rfl
 |x::xs,h=>by
  simp only [allL,Bool.and_eq_true] at h
  simp only [idsL,noid_ids x h.1,noidL_ids xs h.2,List.append_nil]
end
mutual
theorem frz_noid:∀ x:AV,(x.mapv frz1).allv pnoid=x.allv pnoid
 | .sl _ cs | .ip cs | .vec _ cs | .box cs | .agg cs | .tup cs=>by simp only [AV.mapv,frz1,AV.allv,pnoid,frzL_noid cs]
 | .mp a b | .clo _ a b=>by simp only [AV.mapv,frz1,AV.allv,pnoid,frzL_noid a,frzL_noid b]
 | .ifc t v=>by simp only [AV.mapv,frz1,AV.allv,pnoid];rw [frz_noid v]
 | .unk | .any | .maybe _ _ | .bool _ | .int _ _ | .str _ | .nils | .nilp | .nilf | .nili | .nilm | .own _ _ | .osl _ _ _ _ | .ref _ _ | .mref _ | .yld _=>by simp [AV.mapv,frz1,AV.allv]
theorem frzL_noid:∀ l:List AV,allL pnoid (mapL frz1 l)=allL pnoid l
 | []=>rfl
 |x::xs=>by simp only [mapL,allL];rw [frz_noid x,frzL_noid xs]
end
theorem allL_all {p:AV→Bool}:∀ {l:List AV},allL p l=true↔∀ x∈l,x.allv p=true
 | []=>by simp [allL]
 |x::xs=>by simp only [allL,Bool.and_eq_true,List.mem_cons,forall_eq_or_imp,allL_all (l:=xs)]
theorem allL_drop {p:AV→Bool} {l:List AV} (h:allL p l=true) (n:Nat):allL p (l.drop n)=true:=allL_all.2 fun x hx=>allL_all.1 h x (List.mem_of_mem_drop hx)
theorem CL_noid {m m':Mem} (hP:m'.P=m.P) (hcd:m'.cd=m.cd) (him:∀ b o u,m.im b o=some u→m'.im b o=some u) {xs:List AV} {g:Nat→Option Value} (hx:allL pnoid xs=true) (h:CL m xs g):CL m' xs g:=by
 have:=CL_sim2 (r:=id) xs g g (m':=m') ⟨hP,hcd,him,fun i hi=>by rw [noidL_ids xs hx] at hi;cases hi⟩ (fun _ _ h=>h) h
 rwa [renL_id] at this
theorem RL_noid {m m':Mem} {w w':World} (hP:m'.P=m.P) (hcd:m'.cd=m.cd) (him:∀ b o u,m.im b o=some u→m'.im b o=some u) {xs:List AV} {g:Nat→Option Value} {f:List Nat} (hx:allL pnoid xs=true) (hw:∀ g∈f,w'.heap[g]? = w.heap[g]?) (h:RL m w xs g f):RL m' w' xs g f:=by
 have:=RL_sim (r:=id) xs g g f (m':=m') (w':=w') ⟨hP,hcd,him,fun i hi=>by rw [noidL_ids xs hx] at hi;cases hi⟩ hw (fun _ _ h=>h) h
 rwa [renL_id] at this
mutual
theorem C_noinl {m:Mem}:∀ (x:AV) (v:Value),C m x v→x.allv pnoinl=true
 | .sl _ cs,v,h=>by
  simp only [C] at h
  obtain ⟨_,a,n,c,_,_,_,_,h⟩:=h
  simp only [AV.allv,pnoinl,Bool.true_and]
  by_cases hc:cs=[]
  ·subst hc;rfl
  ·obtain ⟨b,o,_,h⟩:=h hc
   exact CL_noinl cs _ h
 | .ip cs,v,h=>by
  simp only [C] at h
  obtain ⟨_,b,o,_,h⟩:=h
  simp only [AV.allv,pnoinl,Bool.true_and]
  exact CL_noinl cs _ h
 | .agg cs,v,h=>by
  simp only [C] at h
  obtain ⟨_,vs,_,_,h⟩:=h
  simp only [AV.allv,pnoinl,Bool.true_and]
  exact CL_noinl cs _ h
 | .tup cs,v,h=>by
  simp only [C] at h
  obtain ⟨vs,_,_,h⟩:=h
  simp only [AV.allv,pnoinl,Bool.true_and]
  exact CL_noinl cs _ h
 | .clo _ a b,v,h=>by
  simp only [C] at h
  obtain ⟨_,_,_,_,_,_,_,h1,h2⟩:=h
  simp only [AV.allv,pnoinl,Bool.true_and,Bool.and_eq_true]
  exact ⟨CL_noinl a _ h1,CL_noinl b _ h2⟩
 | .ifc t x,v,h=>by
  simp only [C] at h
  obtain ⟨u,_,h⟩:=h
  simp only [AV.allv,pnoinl,Bool.true_and]
  exact C_noinl x u h
 | .vec _ _,v,h | .box _,v,h | .mp _ _,v,h=>by simp only [C] at h
 | .unk,_,_ | .any,_,_ | .maybe _ _,_,_ | .bool _,_,_ | .int _ _,_,_ | .str _,_,_ | .nils,_,_ | .nilp,_,_ | .nilf,_,_ | .nili,_,_ | .nilm,_,_ | .own _ _,_,_ | .osl _ _ _ _,_,_ | .ref _ _,_,_ | .mref _,_,_ | .yld _,_,_=>by simp [AV.allv,pnoinl]
theorem CL_noinl {m:Mem}:∀ (l:List AV) (g:Nat→Option Value),CL m l g→allL pnoinl l=true
 | [],_,_=>rfl
 |x::xs,g,h=>by
  simp only [CL] at h
  obtain ⟨⟨u,_,h1⟩,h2⟩:=h
  simp only [allL,Bool.and_eq_true]
  exact ⟨C_noinl x u h1,CL_noinl xs _ h2⟩
end
mutual
theorem thaw_noinl {m:Mem} {w:World}:∀ (x:AV) (v:Value) (f:List Nat) (hp:List Blk),R m w x v f→(thaw hp x).1.allv pnoinl=true
 | .vec _ _,_,_,_,_ | .box _,_,_,_,_=>by simp [thaw,AV.allv,pnoinl]
 | .mp _ _,v,f,hp,h=>by simp only [R] at h
 | .agg cs,v,f,hp,h=>by
  simp only [R] at h
  obtain ⟨_,vs,_,_,h⟩:=h
  simp only [thaw,AV.allv,pnoinl,Bool.true_and]
  exact thawL_noinl cs _ f hp h
 | .tup cs,v,f,hp,h=>by
  simp only [R] at h
  obtain ⟨vs,_,_,h⟩:=h
  simp only [thaw,AV.allv,pnoinl,Bool.true_and]
  exact thawL_noinl cs _ f hp h
 | .clo _ a b,v,f,hp,h=>by
  simp only [R] at h
  obtain ⟨_,_,_,f1,f2,_,_,_,_,_,h1,h2⟩:=h
  simp only [thaw,AV.allv,pnoinl,Bool.true_and,Bool.and_eq_true]
  exact ⟨thawL_noinl a _ f1 hp h1,thawL_noinl b _ f2 _ h2⟩
 | .ifc t x,v,f,hp,h=>by
  simp only [R] at h
  obtain ⟨u,_,h⟩:=h
  simp only [thaw,AV.allv,pnoinl,Bool.true_and]
  exact thaw_noinl x u f hp h
 | .sl _ _,v,f,hp,h | .ip _,v,f,hp,h=>by
  simp only [R] at h
  simp only [thaw]
  exact C_noinl _ v h.2
 | .unk,_,_,_,_ | .any,_,_,_,_ | .maybe _ _,_,_,_,_ | .bool _,_,_,_,_ | .int _ _,_,_,_,_ | .str _,_,_,_,_ | .nils,_,_,_,_ | .nilp,_,_,_,_ | .nilf,_,_,_,_ | .nili,_,_,_,_ | .nilm,_,_,_,_ | .own _ _,_,_,_,_ | .osl _ _ _ _,_,_,_,_ | .ref _ _,_,_,_,_ | .mref _,_,_,_,_ | .yld _,_,_,_,_=>by simp [thaw,AV.allv,pnoinl]
theorem thawL_noinl {m:Mem} {w:World}:∀ (l:List AV) (g:Nat→Option Value) (f:List Nat) (hp:List Blk),RL m w l g f→allL pnoinl (thawL hp l).1=true
 | [],_,_,_,_=>rfl
 |x::xs,g,f,hp,h=>by
  simp only [RL] at h
  obtain ⟨f1,f2,_,⟨u,_,h1⟩,h2⟩:=h
  simp only [thawL,allL,Bool.and_eq_true]
  exact ⟨thaw_noinl x u f1 hp h1,thawL_noinl xs _ f2 _ h2⟩
end
mutual
theorem R_noimm {m m':Mem} {w:World} (hb:m.bl=[]) (hP:m'.P=m.P) (hcd:m'.cd=m.cd):∀ (x:AV) (v:Value) (f:List Nat),x.allv pnoimm=true→R m w x v f→R m' w x v f
 | .vec sz cs,v,f,hx,h=>by
  simp only [AV.allv,Bool.and_eq_true] at hx
  simp only [R] at h ⊢
  obtain ⟨h1,a,n,c,h2,h3,h4,h5,h6⟩:=h
  refine ⟨h1,a,n,c,h2,h3,h4,h5,?_⟩
  rcases h6 with h6 | ⟨g,cur,t,f',h7,h8,h9,h10,h11⟩
  ·exact .inl h6
  ·exact .inr ⟨g,cur,t,f',h7,h8,h9,h10,RL_noimm hb hP hcd cs _ f' hx.2 h11⟩
 | .box cs,v,f,hx,h=>by
  simp only [AV.allv,Bool.and_eq_true] at hx
  simp only [R] at h ⊢
  obtain ⟨h1,g,cur,t,f',h7,h8,h10,h11⟩:=h
  exact ⟨h1,g,cur,t,f',h7,h8,h10,RL_noimm hb hP hcd cs _ f' hx.2 h11⟩
 | .mp _ _,v,f,hx,h=>by simp only [R] at h
 | .agg cs,v,f,hx,h=>by
  simp only [AV.allv,Bool.and_eq_true] at hx
  simp only [R] at h ⊢
  obtain ⟨h1,vs,h2,h3,h4⟩:=h
  exact ⟨h1,vs,h2,h3,RL_noimm hb hP hcd cs _ f hx.2 h4⟩
 | .tup cs,v,f,hx,h=>by
  simp only [AV.allv,Bool.and_eq_true] at hx
  simp only [R] at h ⊢
  obtain ⟨vs,h2,h3,h4⟩:=h
  exact ⟨vs,h2,h3,RL_noimm hb hP hcd cs _ f hx.2 h4⟩
 | .clo _ a b,v,f,hx,h=>by
  simp only [AV.allv,Bool.and_eq_true] at hx
  simp only [R] at h ⊢
  obtain ⟨fn,fs',cs',f1,f2,h1,h2,h3,h4,h5,h6,h7⟩:=h
  exact ⟨fn,fs',cs',f1,f2,h1,by rw [hcd];exact h2,h3,h4,h5,RL_noimm hb hP hcd a _ f1 hx.2.1 h6,RL_noimm hb hP hcd b _ f2 hx.2.2 h7⟩
 | .ifc t x,v,f,hx,h=>by
  simp only [AV.allv,Bool.and_eq_true] at hx
  simp only [R] at h ⊢
  obtain ⟨u,h1,h2⟩:=h
  exact ⟨u,h1,R_noimm hb hP hcd x u f hx.2 h2⟩
 | .sl _ _,_,_,hx,_ | .ip _,_,_,hx,_=>by simp [AV.allv,pnoimm] at hx
 | .own _ _,v,f,hx,h | .osl _ _ _ _,v,f,hx,h | .ref _ _,v,f,hx,h | .mref _,v,f,hx,h | .yld _,v,f,hx,h=>by
  simp only [R,C,hb] at h
  obtain ⟨_,e,h,_⟩:=h
  simp at h
 | .unk,v,f,hx,h | .any,v,f,hx,h | .maybe _ _,v,f,hx,h | .bool _,v,f,hx,h | .int _ _,v,f,hx,h | .str _,v,f,hx,h | .nils,v,f,hx,h | .nilp,v,f,hx,h | .nilf,v,f,hx,h | .nili,v,f,hx,h | .nilm,v,f,hx,h=>by
  simpa only [R,C] using h
theorem RL_noimm {m m':Mem} {w:World} (hb:m.bl=[]) (hP:m'.P=m.P) (hcd:m'.cd=m.cd):∀ (l:List AV) (g:Nat→Option Value) (f:List Nat),allL pnoimm l=true→RL m w l g f→RL m' w l g f
 | [],_,_,_,h=>by simpa only [RL] using h
 |x::xs,g,f,hx,h=>by
  simp only [allL,Bool.and_eq_true] at hx
  simp only [RL] at h ⊢
  obtain ⟨f1,f2,h0,⟨u,h1,h2⟩,h3⟩:=h
  exact ⟨f1,f2,h0,⟨u,h1,R_noimm hb hP hcd x u f1 hx.1 h2⟩,RL_noimm hb hP hcd xs _ f2 hx.2 h3⟩
end
section
variable {P:Program} {fid:FuncId→Option Nat} {fr:Nat→Prop} {w0 w w':World} {m:Mem} {hp hp':List Blk} {fl:List Nat}
theorem frozen_at {l:List Nat} (H:HInv fr w0 m (still hp l) w fl) {id:Nat} {cs:List AV} (hid:id∈l) (hb:rowc hp id=some cs):
  ∃ e,m.bl[id]? = some e∧cs.all AV.okc=true∧cs.length=e.n*e.sz∧(cs=[]→e.n=0)∧e.n≤e.cap∧((e.b=none∧e.cap=0)∨∃ g,e.b=some g∧e.a=some ⟨g,0,none⟩∧CL m (frzL cs) (fun i=>m.im g i)):=by
 simp only [rowc,obI] at hb
 obtain ⟨b,hb,hc⟩:=hb
 cases b<;>simp only [Blk.cells,reduceCtorEq,Option.some.injEq] at hc
 subst hc
 rename_i q cs
 have hg:(still hp l)[id]? = some (.row true (frzL cs)):=by
  rw [still_get,hb];simp [hid,Blk.still]
 obtain ⟨e,he,h1,h2,h3,h4,h5⟩:=H.at_ hg
 obtain ⟨k1,k2,k3⟩:=frzL_len cs
 refine ⟨e,he,by rw [←k3];exact h1,by rw [←k1];exact h2,fun hc=>h3 (by subst hc;rfl),h4,?_⟩
 rcases h5 with ⟨q1,q2,_⟩ | ⟨g,q1,q2,_,q4⟩
 ·exact .inl ⟨q1,q2⟩
 ·exact .inr ⟨g,q1,q2,(q4 rfl).2⟩
theorem frzL_drop (cs:List AV) (n:Nat):frzL (cs.drop n)=(frzL cs).drop n:=by
 unfold frzL
 induction cs generalizing n with
 |nil=>simp [mapL]
 |cons x xs ih=>cases n with
  |zero=>rfl
  |succ n=>simpa [mapL] using ih n
theorem frzL_take (cs:List AV) (n:Nat):frzL (cs.take n)=(frzL cs).take n:=by
 unfold frzL
 induction cs generalizing n with
 |nil=>simp [mapL]
 |cons x xs ih=>cases n with
  |zero=>rfl
  |succ n=>simpa [mapL] using ih n
mutual
theorem fz_ok {l:List Nat} (H:HInv fr w0 m (still hp l) w fl):∀ (x y:AV) (v:Value),(∀ id∈x.ids,id∈l)→C m x v→fz hp x=some y→C m y v∧y.allv pnoid=true∧y.okc=x.okc
 | .nils,y,v,_,hC,hf=>by
  simp only [fz] at hf;injection hf with hf;subst hf
  simp only [C] at hC ⊢
  exact ⟨⟨rfl,none,0,0,hC,rfl,fun _=>rfl,Nat.le_refl _,fun h=>absurd rfl h⟩,rfl,rfl⟩
 | .own sz id,y,v,hi,hC,hf=>by
  simp only [fz,obI] at hf
  obtain ⟨cs,hcs,hf⟩:=hf
  split at hf
  ·rename_i hn
   injection hf with hf;subst hf
   obtain ⟨e,he,h1,h2,h3,h4,h5⟩:=frozen_at H (hi id (by simp [AV.ids])) hcs
   obtain ⟨k1,k2,k3⟩:=frzL_len cs
   simp only [C] at hC ⊢
   obtain ⟨e',he',rfl,hes⟩:=hC
   rw [he] at he';injection he' with he';subst he'
   refine ⟨⟨by rw [frzL,k3];exact h1,e.a,e.n,e.cap,rfl,by rw [frzL,k1,h2,hes],fun hc=>h3 (k2 hc),h4,fun hne=>?_⟩,?_,rfl⟩
   ·rcases h5 with ⟨q1,q2⟩ | ⟨g,q1,q2,q3⟩
    ·exfalso;apply hne
     exact List.eq_nil_of_length_eq_zero (by rw [frzL,k1,h2,show e.n=0 by omega];simp)
    ·exact ⟨g,0,q2,by simpa using q3⟩
   ·simp only [AV.allv,pnoid,Bool.true_and]
    rw [frzL,frzL_noid];exact hn
  ·cases hf
 | .osl sz id o n,y,v,hi,hC,hf=>by
  simp only [fz,obI] at hf
  obtain ⟨cs0,hcs,cs,hpt,hf⟩:=hf
  split at hf
  ·rename_i hn
   injection hf with hf;subst hf
   obtain ⟨e,he,h1,h2,h3,h4,h5⟩:=frozen_at H (hi id (by simp [AV.ids])) hcs
   simp only [part] at hpt
   split at hpt
   ·rename_i hle
    injection hpt with hpt
    have hok:cs.all AV.okc=true:=by rw [←hpt];exact all_take (all_drop h1 _) _
    have hlen:cs.length=n*sz:=by rw [←hpt];simp;rw [Nat.add_mul] at hle;omega
    obtain ⟨k1,k2,k3⟩:=frzL_len cs
    simp only [C] at hC ⊢
    obtain ⟨e',he',hes,hs0,ad,c,rfl,hnc,hco,hca⟩:=hC
    rw [he] at he';injection he' with he';subst he'
    refine ⟨⟨by rw [frzL,k3];exact hok,ad,n,c,rfl,by rw [frzL,k1,hlen],fun hc=>?_,hnc,fun hne=>?_⟩,?_,rfl⟩
    ·have:=k2 hc
     rw [this,List.length_nil] at hlen
     rcases Nat.mul_eq_zero.1 hlen.symm with h | h
     ·exact h
     ·omega
    ·have hn0:n≠0:=by
      intro h0;subst h0
      apply hne
      exact List.eq_nil_of_length_eq_zero (by rw [frzL,k1,hlen];simp)
     rcases hca with hc0 | ⟨g',hg',rfl⟩
     ·omega
     ·rcases h5 with ⟨q1,_⟩ | ⟨g,q1,q2,q3⟩
      ·rw [q1] at hg';cases hg'
      ·rw [q1] at hg';injection hg' with hg';subst hg'
       refine ⟨g,o*sz,rfl,?_⟩
       rw [←hpt,frzL_take,frzL_drop,CL_iff]
       intro i x hx
       rw [List.getElem?_take] at hx
       split at hx
       ·rw [List.getElem?_drop] at hx
        exact CL_iff.1 q3 _ x hx
       ·cases hx
    ·simp only [AV.allv,pnoid,Bool.true_and]
     rw [frzL,frzL_noid];exact hn
   ·cases hpt
  ·cases hf
 | .ref id off,y,v,hi,hC,hf=>by
  simp only [fz,obI] at hf
  obtain ⟨cs,hcs,hf⟩:=hf
  split at hf
  ·rename_i hn
   injection hf with hf;subst hf
   obtain ⟨e,he,h1,h2,h3,h4,h5⟩:=frozen_at H (hi id (by simp [AV.ids])) hcs
   obtain ⟨k1,k2,k3⟩:=frzL_len (cs.drop off)
   simp only [C] at hC ⊢
   obtain ⟨e',he',g',hg',rfl⟩:=hC
   rw [he] at he';injection he' with he';subst he'
   rcases h5 with ⟨q1,_⟩ | ⟨g,q1,q2,q3⟩
   ·rw [q1] at hg';cases hg'
   ·rw [q1] at hg';injection hg' with hg';subst hg'
    refine ⟨⟨by rw [frzL,k3];exact all_drop h1 _,g,off,rfl,?_⟩,?_,rfl⟩
    ·rw [frzL_drop,CL_iff]
     intro i x hx
     rw [List.getElem?_drop] at hx
     exact CL_iff.1 q3 _ x hx
    ·simp only [AV.allv,pnoid,Bool.true_and]
     rw [frzL,frzL_noid];exact allL_drop hn.1 _
  ·cases hf
 | .sl sz cs,y,v,hi,hC,hf=>by
  simp only [fz] at hf
  split at hf
  ·rename_i hn
   injection hf with hf;subst hf
   exact ⟨hC,by simp only [AV.allv,pnoid,Bool.true_and];exact hn,rfl⟩
  ·cases hf
 | .ip cs,y,v,hi,hC,hf=>by
  simp only [fz] at hf
  split at hf
  ·rename_i hn
   injection hf with hf;subst hf
   exact ⟨hC,by simp only [AV.allv,pnoid,Bool.true_and];exact hn,rfl⟩
  ·cases hf
 | .agg cs,y,v,hi,hC,hf=>by
  simp only [fz,omI] at hf
  obtain ⟨ys,hys,rfl⟩:=hf
  simp only [C] at hC ⊢
  obtain ⟨h1,vs,h2,h3,h4⟩:=hC
  obtain ⟨k1,k2,k3,k4⟩:=fzL_ok H cs ys _ (by simpa only [AV.ids] using hi) h4 hys
  exact ⟨⟨by rw [k4];exact h1,vs,h2,by rw [k3];exact h3,k1⟩,by simp only [AV.allv,pnoid,Bool.true_and];exact k2,rfl⟩
 | .tup cs,y,v,hi,hC,hf=>by
  simp only [fz,omI] at hf
  obtain ⟨ys,hys,rfl⟩:=hf
  simp only [C] at hC ⊢
  obtain ⟨vs,h2,h3,h4⟩:=hC
  obtain ⟨k1,k2,k3,k4⟩:=fzL_ok H cs ys _ (by simpa only [AV.ids] using hi) h4 hys
  exact ⟨⟨vs,h2,by rw [k3];exact h3,k1⟩,by simp only [AV.allv,pnoid,Bool.true_and];exact k2,rfl⟩
 | .clo q fs cs,y,v,hi,hC,hf=>by
  simp only [fz,obI,omI] at hf
  obtain ⟨ys,hys,zs,hzs,rfl⟩:=hf
  simp only [C] at hC ⊢
  obtain ⟨fn,fs',cs',h1,h2,h3,h4,h5,h6⟩:=hC
  obtain ⟨k1,k2,k3,k4⟩:=fzL_ok H fs ys _ (fun i h=>hi i (by simp [AV.ids,h])) h5 hys
  obtain ⟨j1,j2,j3,j4⟩:=fzL_ok H cs zs _ (fun i h=>hi i (by simp [AV.ids,h])) h6 hzs
  exact ⟨⟨fn,fs',cs',h1,h2,by rw [k3];exact h3,by rw [j3];exact h4,k1,j1⟩,by simp only [AV.allv,pnoid,Bool.true_and,Bool.and_eq_true];exact ⟨k2,j2⟩,rfl⟩
 | .ifc t x,y,v,hi,hC,hf=>by
  simp only [fz,omI] at hf
  obtain ⟨z,hz,rfl⟩:=hf
  simp only [C] at hC ⊢
  obtain ⟨u,h1,h2⟩:=hC
  obtain ⟨k1,k2,_⟩:=fz_ok H x z u (by simpa only [AV.ids] using hi) h2 hz
  exact ⟨⟨u,h1,k1⟩,by simp only [AV.allv,pnoid,Bool.true_and];exact k2,rfl⟩
 | .unk,y,v,_,_,hf | .mref _,y,v,_,_,hf | .yld _,y,v,_,_,hf | .vec _ _,y,v,_,_,hf | .box _,y,v,_,_,hf | .mp _ _,y,v,_,_,hf=>by simp [fz] at hf
 | .any,y,v,_,hC,hf | .maybe _ _,y,v,_,hC,hf | .bool _,y,v,_,hC,hf | .int _ _,y,v,_,hC,hf | .str _,y,v,_,hC,hf | .nilp,y,v,_,hC,hf | .nilf,y,v,_,hC,hf | .nili,y,v,_,hC,hf | .nilm,y,v,_,hC,hf=>by
  simp only [fz] at hf;injection hf with hf;subst hf
  exact ⟨hC,by simp [AV.allv,pnoid],rfl⟩
theorem fzL_ok {l:List Nat} (H:HInv fr w0 m (still hp l) w fl):∀ (xs ys:List AV) (g:Nat→Option Value),(∀ id∈idsL xs,id∈l)→CL m xs g→fzL hp xs=some ys→CL m ys g∧allL pnoid ys=true∧ys.length=xs.length∧ys.all AV.okc=xs.all AV.okc
 | [],ys,g,_,hC,hf=>by
  simp only [fzL] at hf;injection hf with hf;subst hf
  exact ⟨by simp [CL],rfl,rfl,rfl⟩
 |x::xs,ys,g,hi,hC,hf=>by
  simp only [fzL,obI,omI] at hf
  obtain ⟨y,hy,zs,hzs,rfl⟩:=hf
  simp only [CL] at hC ⊢
  obtain ⟨⟨u,hu,h1⟩,h2⟩:=hC
  obtain ⟨k1,k2,k3⟩:=fz_ok H x y u (fun i h=>hi i (by simp [idsL,h])) h1 hy
  obtain ⟨j1,j2,j3,j4⟩:=fzL_ok H xs zs _ (fun i h=>hi i (by simp [idsL,h])) h2 hzs
  exact ⟨⟨⟨u,hu,k1⟩,j1⟩,by simp only [allL,Bool.and_eq_true];exact ⟨k2,j2⟩,by simp [j3],by simp only [List.all_cons,k3,j4]⟩
end
theorem HInv.floats (H:HInv fr w0 m hp w []) (hf:∀ g∈fl,¬ fr g∧g<w.heap.size∧∀ o,m.im g o=none) (hn:fl.Nodup) (hd:∀ id g,g∈m.fp id→g ∉ fl):HInv fr w0 m hp w fl:=
 ⟨H.os,H.tape,H.output,H.size,H.fix,H.len,H.im,H.blk,H.own,H.nd,H.dj,H.fpz,hf,hn,hd⟩
theorem HInv.imle (H:HInv fr w0 m hp w fl) {im':Nat→Nat→Option Value} (h1:∀ b o u,m.im b o=some u→im' b o=some u) (h2:∀ b o u,im' b o=some u→w.cell? ⟨b,o,none⟩=some u)
  (h3:∀ id g,g∈m.fp id→∀ o,im' g o=none) (h4:∀ g∈fl,∀ o,im' g o=none):HInv fr w0 { m with im:=im' } hp w fl:=
 ⟨H.os,H.tape,H.output,H.size,H.fix,H.len,h2,fun id b e hb he=>(H.blk id b e hb he).mono ⟨rfl,rfl,h1,fun _ _ h=>h⟩ (fun _ _=>rfl),
  fun id g hg=>⟨(H.own id g hg).1,(H.own id g hg).2.1,h3 id g hg⟩,H.nd,H.dj,H.fpz,fun g hg=>⟨(H.fown g hg).1,(H.fown g hg).2.1,h4 g hg⟩,H.fnd,H.fdj⟩
theorem thawed (H:HInv fr w0 m hp w fl) {x:AV} {v:Value} (k:R m w x v fl):∃ m',Ext fr m m'∧HInv fr w0 m' (thaw hp x).2 w []∧C m' (thaw hp x).1 v:=by
 obtain ⟨m',f',hE,_,H',hR,_⟩:=thaw_ok (f0:=[]) x (by simpa using H) k
 obtain ⟨hC,rfl⟩:=C_of_R _ _ _ (thaw_noinl x v fl hp k) hR
 exact ⟨m',hE,by simpa using H',hC⟩
theorem still_nil (hp:List Blk):still hp []=hp:=rfl
theorem plain_ok {f:FuncId} {vs ps:List AV} {r:AV × List Blk} {args:Array Value} (hP:m.P=P) (hcd:m.cd=fid) (H:HInv fr w0 m hp w []) (hC:CL m vs (fun i=>args[i]?)) (hs:args.size=vs.length) (hf:fzL hp vs=some ps) (hr:CallOk P fid f ps [] r):
  CallsIn Fence.wide 0 P f args w fun e w'=>∃ u fl,e=.returned u ∧
   (noimm r.1=true→HInv fr w0 m hp w' fl∧R m w' r.1 u fl) ∧
   ∃ m',Ext fr m m'∧HInv fr w0 m' (still hp (idsL vs)) w' fl∧R m' w' r.1 u fl:=by
 obtain ⟨m1,E1,H1⟩:=H.still (idsL vs)
 obtain ⟨d1,d2,d3,_⟩:=fzL_ok H1 vs ps _ (fun _ h=>h) (CL_mono E1.le _ _ _ (fun _ _ h=>h) hC) hf
 have Hc:HInv (fun g=>g<w.heap.size) w { m1 with bl:=[],fp:=fun _=>[] } [] w []:=
  ⟨rfl,rfl,rfl,Nat.le_refl _,fun g hg=>⟨hg,rfl⟩,rfl,H1.im,fun id b e hb _=>by simp at hb,fun id g hg=>by simp at hg,fun id=>by simp,fun i j g hg=>by simp at hg,fun _ _=>rfl,fun g hg=>by simp at hg,by simp,fun id g hg=>by simp at hg⟩
 refine (hr _ w _ w args (by rw [←hP];exact E1.le.P) (by rw [←hcd];exact E1.le.cd) Hc (CL_noid (m:=m1) (m':={ m1 with bl:=[],fp:=fun _=>[] }) rfl rfl (fun _ _ _ h=>h) d2 d1) (by rw [hs,d3])).mono ?_
 rintro e w' ⟨u,m',fl,rfl,E',hbl,H',hR⟩
 have hbl':m'.bl=[]:=hbl
 have hheap:∀ g,g<w.heap.size→w'.heap[g]? = w.heap[g]?:=fun g hg=>(H'.fix g hg).2
 have hsize:=H'.size
 have G1:HInv fr w0 m1 (still hp (idsL vs)) w' []:=H1.world H'.os H'.tape H'.output hsize hheap
 have hfl:∀ g∈fl,¬ g<w.heap.size:=fun g hg=>(H'.fown g hg).1
 refine ⟨u,fl,rfl,fun hi=>⟨?_,R_noimm hbl' (by rw [E'.le.P];exact E1.le.P.symm) (by rw [E'.le.cd];exact E1.le.cd.symm) _ _ _ hi hR⟩,?_⟩
 ·have G0:HInv fr w0 m hp w' []:=H.world H'.os H'.tape H'.output hsize hheap
  refine G0.floats (fun g hg=>⟨fun h=>hfl g hg (H.fix g h).1,(H'.fown g hg).2.1,fun o=>?_⟩) H'.fnd (fun id g h1 h2=>hfl g h2 (H.own id g h1).2.1)
  cases hq:m.im g o with
  |none=>rfl
  |some u'=>have:=H.imlt hq;exact absurd this (hfl g hg)
 ·have hl:∀ g,g<w.heap.size→∀ o,m'.im g o=m1.im g o:=fun g hg o=>E'.low g hg o
  have G2:=G1.imle (im':=m'.im) (fun b o u h=>E'.le.im b o u h) H'.im (fun id g hg o=>by rw [hl g (H1.own id g hg).2.1 o];exact (H1.own id g hg).2.2 o) (fun g hg=>by simp at hg)
  refine ⟨{ m1 with im:=m'.im },⟨⟨E1.le.P,E1.le.cd,fun b o u h=>E'.le.im b o u (E1.le.im b o u h),E1.le.bl⟩,fun b hb o=>(hl b (H.fix b hb).1 o).trans (E1.low b hb o)⟩,G2.floats (fun g hg=>⟨fun h=>hfl g hg (H.fix g h).1,(H'.fown g hg).2.1,(H'.fown g hg).2.2⟩) H'.fnd (fun id g h1 h2=>hfl g h2 (H1.own id g h1).2.1),?_⟩
  exact R_mono (m:=m') (m':={ m1 with im:=m'.im }) ⟨E'.le.P.symm,E'.le.cd.symm,fun _ _ _ h=>h,fun id e h=>by rw [hbl'] at h;simp at h⟩ (fun _ _=>rfl) hR
end
theorem dedup_mem:∀ (l acc:List Nat) (x:Nat),x∈dedup l acc↔x∈l∨x∈acc
 | [],acc,x=>by simp [dedup]
 |y::l,acc,x=>by
  simp only [dedup]
  rw [dedup_mem l]
  split
  ·rename_i h
   have:y∈acc:=by simpa using h
   simp only [List.mem_cons]
   constructor
   ·rintro (h | h)
    ·exact .inl (.inr h)
    ·exact .inr h
   ·rintro ((rfl | h) | h)
    ·exact .inr this
    ·exact .inl h
    ·exact .inr h
  ·simp only [List.mem_cons]
   constructor
   ·rintro (h | h | h)
    ·exact .inl (.inr h)
    ·exact .inl (.inl h)
    ·exact .inr h
   ·rintro ((h | h) | h)
    ·exact .inr (.inl h)
    ·exact .inl h
    ·exact .inr (.inr h)
theorem dedup_nodup:∀ (l acc:List Nat),acc.Nodup→(dedup l acc).Nodup
 | [],acc,h=>by simp only [dedup];exact List.pairwise_reverse.2 (h.imp fun hne e=>hne e.symm)
 |y::l,acc,h=>by
  simp only [dedup]
  refine dedup_nodup l _ ?_
  split
  ·exact h
  ·rename_i hn
   have:y ∉ acc:=by simpa using hn
   exact List.nodup_cons.2 ⟨this,h⟩
theorem idxOf_get:∀ (l:List Nat) (x:Nat),x∈l→l[idxOf l x]? = some x
 | [],x,h=>by cases h
 |y::l,x,h=>by
  simp only [idxOf]
  split
  ·rename_i e;subst e;rfl
  ·rename_i e
   have:x∈l:=by rcases List.mem_cons.1 h with h | h;exact absurd h.symm e;exact h
   simpa using idxOf_get l x this
theorem idxOf_at {l:List Nat} (hn:l.Nodup) {k x:Nat} (h:l[k]? = some x):idxOf l x=k:=by
 have hm:x∈l:=List.mem_of_getElem? h
 have h2:=idxOf_get l x hm
 exact (List.getElem?_inj (List.getElem?_eq_some_iff.1 h2).1 hn).1 (h2.trans h.symm)
theorem subHp_get:∀ {l:List Nat} {hp hps:List Blk},subHp hp l=some hps→hps.length=l.length∧∀ (k id:Nat),l[k]? = some id→∃ b,hp[id]? = some b∧b.noidb=true∧hps[k]? = some b∧((∃ cs,b=.row false cs)∨∃ ks vs,b=.mp ks vs)
 | [],hp,hps,h=>by
  simp only [subHp] at h;injection h with h;subst h
  exact ⟨rfl,fun k id hk=>by simp at hk⟩
 |i::l,hp,hps,h=>by
  simp only [subHp] at h
  split at h
  ·rename_i cs hb
   split at h
   ·rename_i hn
    simp only [omI] at h
    obtain ⟨q,hq,rfl⟩:=h
    obtain ⟨k1,k2⟩:=subHp_get hq
    refine ⟨by simp [k1],fun k id hk=>?_⟩
    cases k with
    |zero=>simp at hk;subst hk;exact ⟨_,hb,hn,by simp,.inl ⟨_,rfl⟩⟩
    |succ k=>simpa using k2 k id (by simpa using hk)
   ·cases h
  ·rename_i ks vs hb
   split at h
   ·rename_i hn
    simp only [omI] at h
    obtain ⟨q,hq,rfl⟩:=h
    obtain ⟨k1,k2⟩:=subHp_get hq
    refine ⟨by simp [k1],fun k id hk=>?_⟩
    cases k with
    |zero=>simp at hk;subst hk;exact ⟨_,hb,hn,by simp,.inr ⟨_,_,rfl⟩⟩
    |succ k=>simpa using k2 k id (by simpa using hk)
   ·cases h
  ·cases h
theorem putHp_length:∀ (l:List Nat) (bs hp:List Blk),(putHp hp l bs).length=hp.length
 | [],bs,hp=>by simp [putHp]
 |_::_,[],hp=>by simp [putHp]
 |i::l,b::bs,hp=>by simp only [putHp];rw [putHp_length l bs];simp
theorem putHp_get:∀ (l:List Nat) (bs hp:List Blk),l.Nodup→bs.length=l.length→(∀ i∈l,i<hp.length)→∀ id,(putHp hp l bs)[id]? = if id∈l then bs[idxOf l id]? else hp[id]?
 | [],bs,hp,_,_,_,id=>by simp [putHp]
 |i::l,[],hp,_,h,_,id=>by simp at h
 |i::l,b::bs,hp,hn,h,hlt,id=>by
  obtain ⟨h1,h2⟩:=List.nodup_cons.1 hn
  simp only [putHp]
  rw [putHp_get l bs (hp.set i b) h2 (by simpa using h) (fun k hk=>by simpa using hlt k (by simp [hk]))]
  by_cases hid:id=i
  ·subst hid
   rw [if_neg h1,if_pos (by simp)]
   simp only [idxOf,if_true]
   rw [List.getElem?_set_self (by simpa using hlt id (by simp))]
   simp
  ·by_cases hm:id∈l
   ·rw [if_pos hm,if_pos (by simp [hm])]
    simp only [idxOf]
    rw [if_neg (fun e=>hid e.symm)]
    simp
   ·rw [if_neg hm,if_neg (by simp [hm,hid]),List.getElem?_set_ne (fun e=>hid e.symm)]
section
variable {P:Program} {fid:FuncId→Option Nat} {fr:Nat→Prop} {w0 w w':World} {m:Mem} {hp hp':List Blk} {fl:List Nat}
theorem mem_okE {E:Ending→Value→Prop} {f:FuncId} {vs:List AV} {hps:List Blk} {r:AV × List Blk} {args:Array Value} {L:List Nat} (hL:∀ id∈idsL vs,id∈L) (hnd:L.Nodup) (hP:m.P=P) (hcd:m.cd=fid) (H:HInv fr w0 m hp w []) (hC:CL m vs (fun i=>args[i]?)) (hs:args.size=vs.length)
  (hsub:subHp hp L=some hps) (hr:CallOkE E P fid f (renL (idxOf L) vs) hps r) (hl:r.2.length=L.length) (hno:r.2.all Blk.noidb=true):
  CallsIn Fence.wide 0 P f args w fun e w'=>∃ u fl m',E e u∧Ext fr m m'∧HInv fr w0 m' (putHp hp L r.2) w' fl∧R m' w' (ren (fun i=>L.getD i 0) r.1) u fl:=by
 obtain ⟨s1,s2⟩:=subHp_get hsub
 have hlt:∀ i∈L,i<hp.length:=by
  intro i hi
  obtain ⟨k,hk⟩:=List.getElem?_of_mem hi
  obtain ⟨cs,hb,_⟩:=s2 k i hk
  exact (List.getElem?_eq_some_iff.1 hb).1
 have hlt':∀ i∈L,i<m.bl.length:=fun i hi=>by rw [H.len];exact hlt i hi
 let F:Nat→List Nat:=fun k=>match L[k]? with | some i=>m.fp i | none=>[]
 have hF:∀ (k i:Nat),L[k]? = some i→F k=m.fp i:=fun k i h=>by show (match L[k]? with | some i=>m.fp i | none=>[])=_;rw [h]
 have hF0:∀ (k:Nat),L[k]? = none→F k=[]:=fun k h=>by show (match L[k]? with | some i=>m.fp i | none=>[])=_;rw [h]
 let mc:Mem:={ m with bl:=L.map fun i=>m.bl.getD i ⟨none,none,0,0,0⟩,fp:=F }
 have hbl:∀ (k i:Nat),L[k]? = some i→mc.bl[k]? = m.bl[i]?:=by
  intro k i hk
  show (L.map _)[k]? = _
  rw [List.getElem?_map,hk]
  have:m.bl[i]? = some (m.bl[i]'(hlt' i (List.mem_of_getElem? hk))):=List.getElem?_eq_getElem (hlt' i (List.mem_of_getElem? hk))
  simp [this]
 have hblL:∀ (k:Nat) e,mc.bl[k]? = some e→∃ i,L[k]? = some i∧m.bl[i]? = some e:=by
  intro k e he
  have hk:k<L.length:=by have:=(List.getElem?_eq_some_iff.1 he).1;simpa [mc] using this
  refine ⟨L[k],List.getElem?_eq_getElem hk,?_⟩
  rw [←hbl k _ (List.getElem?_eq_getElem hk)];exact he
 let fr':Nat→Prop:=fun g=>g<w.heap.size∧∀ i∈L,g ∉ m.fp i
 have Hc:HInv fr' w mc hps w []:=by
  refine ⟨rfl,rfl,rfl,Nat.le_refl _,fun g hg=>⟨hg.1,rfl⟩,by simp [mc,s1],H.im,?_,?_,?_,?_,?_,fun g hg=>by simp at hg,by simp,fun id g hg=>by simp⟩
  ·intro k b e hb he
   obtain ⟨i,hi,he'⟩:=hblL k e he
   obtain ⟨b1,hb1,hn,hb2,hform⟩:=s2 k i hi
   rw [hb] at hb2;injection hb2 with hb2;subst hb2
   have:=H.blk i _ e hb1 he'
   show BlkOk mc w _ e (F k)
   rw [hF k i hi]
   rcases hform with ⟨cs,rfl⟩ | ⟨ks,vs2,rfl⟩
   ·obtain ⟨h1,h3,h4,h5,h6⟩:=this
    refine ⟨h1,h3,h4,h5,?_⟩
    rcases h6 with h6 | ⟨g,h7,h8,h9,h10⟩
    ·exact .inl h6
    ·refine .inr ⟨g,h7,h8,fun hf=>?_,fun hf=>by cases hf⟩
     obtain ⟨cur,t,f',q1,q2,q3,q4⟩:=h9 hf
     exact ⟨cur,t,f',q1,q2,q3,RL_noid (m:=m) (m':=mc) rfl rfl (fun _ _ _ h=>h) hn (fun _ _=>rfl) q4⟩
   ·obtain ⟨g,es,f',q1,q2,q3,q4,q5,q6,q7,q8⟩:=this
    simp only [Blk.noidb,Bool.and_eq_true] at hn
    exact ⟨g,es,f',q1,q2,q3,q4,q5,CL_noid (m:=m) (m':=mc) rfl rfl (fun _ _ _ h=>h) hn.1 q6,RL_noid (m:=m) (m':=mc) rfl rfl (fun _ _ _ h=>h) hn.2 (fun _ _=>rfl) q7,q8⟩
  ·intro k g hg
   change g∈F k at hg
   cases hk:L[k]? with
   |none=>rw [hF0 k hk] at hg;cases hg
   |some i=>
    rw [hF k i hk] at hg
    exact ⟨fun h=>h.2 i (List.mem_of_getElem? hk) hg,(H.own i g hg).2⟩
  ·intro k
   show (F k).Nodup
   cases hk:L[k]? with
   |none=>rw [hF0 k hk];simp
   |some i=>rw [hF k i hk];exact H.nd i
  ·intro i j g hi hj
   change g∈F i at hi
   change g∈F j at hj
   cases hki:L[i]? with
   |none=>rw [hF0 i hki] at hi;cases hi
   |some a=>
    cases hkj:L[j]? with
    |none=>rw [hF0 j hkj] at hj;cases hj
    |some b=>
     rw [hF i a hki] at hi
     rw [hF j b hkj] at hj
     have:=H.dj a b g hi hj
     subst this
     rw [←idxOf_at hnd hki,←idxOf_at hnd hkj]
  ·intro k hk
   rw [s1] at hk
   show F k=[]
   exact hF0 k (List.getElem?_eq_none hk)
 have hCc:CL mc (renL (idxOf L) vs) (fun i=>args[i]?):=CL_sim2 (r:=idxOf L) (m:=m) (m':=mc) vs _ _ ⟨rfl,rfl,fun _ _ _ h=>h,fun id hid e he=>by
  rw [hbl (idxOf L id) id (idxOf_get L id (hL id hid))];exact he⟩ (fun _ _ h=>h) hC
 have hlen:(renL (idxOf L) vs).length=vs.length:=by
  have:∀ (l:List AV),(mapL (ren1 (idxOf L)) l).length=l.length:=fun l=>by
   induction l with
   |nil=>rfl
   |cons x xs ih=>simp [mapL,ih]
  exact this vs
 refine (hr fr' w mc w args hP hcd Hc hCc (by rw [hs,hlen])).mono ?_
 rintro e w' ⟨u,m',fl,hend,E',hbl',H',hR⟩
 have hframe:∀ g,fr' g→w'.heap[g]? = w.heap[g]?:=fun g hg=>(H'.fix g hg).2
 have hfrfr:∀ g,fr g→fr' g:=fun g hg=>⟨(H.fix g hg).1,fun i _ h=>(H.own i g h).1 hg⟩
 have hother:∀ id,id ∉ L→∀ g∈m.fp id,fr' g:=fun id hid g hg=>⟨(H.own id g hg).2.1,fun i hi h=>hid (by rw [H.dj id i g hg h];exact hi)⟩
 let m2:Mem:={ m with im:=m'.im,fp:=fun id=>if id∈L then m'.fp (idxOf L id) else m.fp id }
 have hle:m.le m2:=⟨rfl,rfl,fun b o u h=>E'.le.im b o u h,fun _ _ h=>h⟩
 have hE:Ext fr m m2:=⟨hle,fun b hb o=>E'.low b (hfrfr b hb) o⟩
 have hfp1:∀ id,id∈L→m2.fp id=m'.fp (idxOf L id):=fun id h=>by show (if _ then _ else _)=_;rw [if_pos h]
 have hfp2:∀ id,id ∉ L→m2.fp id=m.fp id:=fun id h=>by show (if _ then _ else _)=_;rw [if_neg h]
 have hput:=putHp_get L r.2 hp hnd hl hlt
 have hnofr:∀ g,¬ fr' g→¬ fr g:=fun g h k=>h (hfrfr g k)
 refine ⟨u,fl,m2,hend,hE,?_,?_⟩
 ·refine ⟨H'.os.trans H.os,H'.tape.trans H.tape,H'.output.trans H.output,Nat.le_trans H.size H'.size,fun g hg=>⟨(H'.fix g (hfrfr g hg)).1,(hframe g (hfrfr g hg)).trans (H.fix g hg).2⟩,by rw [putHp_length];exact H.len,H'.im,?_,?_,?_,?_,?_,?_,H'.fnd,?_⟩
  ·intro id b e hb he
   rw [hput id] at hb
   split at hb
   ·rename_i hid
    rw [hfp1 id hid]
    have hbok:=H'.blk (idxOf L id) b e hb (by rw [hbl',hbl _ id (idxOf_get L id hid)];exact he)
    have hnb:b.noidb=true:=List.all_eq_true.1 hno b (List.mem_of_getElem? hb)
    cases b with
    |dead=>exact hbok
    |row q cs=>
     obtain ⟨h1,h3,h4,h5,h6⟩:=hbok
     refine ⟨h1,h3,h4,h5,?_⟩
     rcases h6 with h6 | ⟨g,h7,h8,h9,h10⟩
     ·exact .inl h6
     ·refine .inr ⟨g,h7,h8,fun hf=>?_,fun hf=>?_⟩
      ·obtain ⟨cur,t,f',q1,q2,q3,q4⟩:=h9 hf
       exact ⟨cur,t,f',q1,q2,q3,RL_noid (m:=m') (m':=m2) E'.le.P.symm E'.le.cd.symm (fun _ _ _ h=>h) hnb (fun _ _=>rfl) q4⟩
      ·exact ⟨(h10 hf).1,CL_noid (m:=m') (m':=m2) E'.le.P.symm E'.le.cd.symm (fun _ _ _ h=>h) hnb (h10 hf).2⟩
    |mp ks vs2=>
     obtain ⟨g,es,f',q1,q2,q3,q4,q5,q6,q7,q8⟩:=hbok
     simp only [Blk.noidb,Bool.and_eq_true] at hnb
     exact ⟨g,es,f',q1,q2,q3,q4,q5,CL_noid (m:=m') (m':=m2) E'.le.P.symm E'.le.cd.symm (fun _ _ _ h=>h) hnb.1 q6,RL_noid (m:=m') (m':=m2) E'.le.P.symm E'.le.cd.symm (fun _ _ _ h=>h) hnb.2 (fun _ _=>rfl) q7,q8⟩
    |it _ _ _=>simp [Blk.noidb] at hnb
    |lp _ _ _ _ _ _=>simp [Blk.noidb] at hnb
   ·rename_i hid
    rw [hfp2 id hid]
    exact (H.blk id b e hb he).mono hle (fun g hg=>hframe g (hother id hid g hg))
  ·intro id g hg
   by_cases hid:id∈L
   ·rw [hfp1 id hid] at hg
    have:=H'.own _ g hg
    exact ⟨hnofr g this.1,this.2⟩
   ·rw [hfp2 id hid] at hg
    have hq:=hother id hid g hg
    refine ⟨(H.own id g hg).1,(H'.fix g hq).1,fun o=>?_⟩
    show m'.im g o=none
    rw [E'.low g hq o]
    exact (H.own id g hg).2.2 o
  ·intro id
   by_cases hid:id∈L
   ·rw [hfp1 id hid];exact H'.nd _
   ·rw [hfp2 id hid];exact H.nd id
  ·intro i j g hi hj
   by_cases h1:i∈L<;>by_cases h2:j∈L
   ·rw [hfp1 i h1] at hi;rw [hfp1 j h2] at hj
    have:=H'.dj _ _ g hi hj
    have e1:=idxOf_get L i h1
    have e2:=idxOf_get L j h2
    rw [this,e2] at e1
    injection e1 with e1;exact e1.symm
   ·rw [hfp1 i h1] at hi;rw [hfp2 j h2] at hj
    exact absurd (hother j h2 g hj) (H'.own _ g hi).1
   ·rw [hfp2 i h1] at hi;rw [hfp1 j h2] at hj
    exact absurd (hother i h1 g hi) (H'.own _ g hj).1
   ·rw [hfp2 i h1] at hi;rw [hfp2 j h2] at hj
    exact H.dj i j g hi hj
  ·intro id hid
   rw [putHp_length] at hid
   have hn:id ∉ L:=fun h=>by have:=hlt id h;omega
   rw [hfp2 id hn];exact H.fpz id hid
  ·intro g hg
   have:=H'.fown g hg
   exact ⟨hnofr g this.1,this.2⟩
  ·intro id g hg hf
   by_cases hid:id∈L
   ·rw [hfp1 id hid] at hg
    exact H'.fdj _ g hg hf
   ·rw [hfp2 id hid] at hg
    exact (H'.fown g hf).1 (hother id hid g hg)
 ·refine R_sim (m:=m') (m':=m2) (r:=fun i=>L.getD i 0) _ _ _ ⟨E'.le.P.symm,E'.le.cd.symm,fun _ _ _ h=>h,fun id _ e he=>?_⟩ (fun _ _=>rfl) hR
  rw [hbl'] at he
  obtain ⟨i,hi,he'⟩:=hblL id e he
  show m.bl[L.getD id 0]? = some e
  rw [List.getD_eq_getElem?_getD,hi]
  exact he'
theorem mem_ok {f:FuncId} {vs:List AV} {hps:List Blk} {r:AV × List Blk} {args:Array Value} {L:List Nat} (hL:∀ id∈idsL vs,id∈L) (hnd:L.Nodup) (hP:m.P=P) (hcd:m.cd=fid) (H:HInv fr w0 m hp w []) (hC:CL m vs (fun i=>args[i]?)) (hs:args.size=vs.length)
  (hsub:subHp hp L=some hps) (hr:CallOk P fid f (renL (idxOf L) vs) hps r) (hl:r.2.length=L.length) (hno:r.2.all Blk.noidb=true):
  CallsIn Fence.wide 0 P f args w fun e w'=>∃ u fl m',e=.returned u∧Ext fr m m'∧HInv fr w0 m' (putHp hp L r.2) w' fl∧R m' w' (ren (fun i=>L.getD i 0) r.1) u fl:=
 mem_okE (E:=fun e u=>e=.returned u) hL hnd hP hcd H hC hs hsub hr hl hno
theorem packs_ok:∀ (l:List Nat) {hp hp':List Blk} {m:Mem},packs hp l=some hp'→HInv fr w0 m hp w fl→∃ m',Ext fr m m'∧HInv fr w0 m' hp' w fl
 | [],hp,hp',m,h,H=>by
  simp only [packs] at h;injection h with h;subst h
  exact ⟨m,Ext.refl fr m,H⟩
 |id::l,hp,hp',m,h,H=>by
  simp only [packs] at h
  split at h
  ·rename_i cs hb
   split at h
   ·exact packs_ok l h H
   ·rename_i hid
    simp only [obI] at h
    obtain ⟨r,hr,h⟩:=h
    split at h
    ·rename_i hok
     obtain ⟨e,he,h1,h2,h3,h4,h5⟩:=H.at_ hb
     rcases h5 with ⟨q1,q2,q3⟩ | ⟨g,q1,q2,q3,_⟩
     ·exfalso
      have:cs=[]:=List.eq_nil_of_length_eq_zero (by rw [h2,show e.n=0 by omega];simp)
      subst this
      exact hid rfl
     ·obtain ⟨cur,t,f',r1,r2,r3,r4⟩:=q3 rfl
      have Hk:=(H.kill id).perm (fl':=(g::fl)++f') (by rw [r3];simpa using List.perm_append_comm)
      obtain ⟨m1,f1,E1,i1,b1,H1,R1,l1,l2,_⟩:=pkL_ok (f0:=g::fl) cs hr Hk (RL_mono (le_fp _) (fun _ _=>rfl) (fun _ _ h=>h) r4)
      have hx:m1.bl[id]? = some e:=by rw [b1];exact he
      have H1n:=H1.fnd
      have H2:=H1.turn (f:=g::f1) (g:=fl) (i:=id) (b:=.row false r.1) hx (fun q hq=>.inr (by simp at hq ⊢;rcases hq with h | h | h<;>simp [h])) (by
        refine (List.Perm.nodup_iff ?_).1 H1n
        simpa using List.perm_append_comm) ⟨hok,by rw [l2];exact h2,fun h=>h3 (List.eq_nil_of_length_eq_zero (by rw [←l2,h];rfl)),h4,.inr ⟨g,q1,q2,fun _=>⟨cur,t,f1,r1,r2,rfl,R1⟩,fun h=>by cases h⟩⟩
      obtain ⟨m3,E3,H3⟩:=packs_ok l h H2
      exact ⟨m3,(((ext_fp _).trans E1).trans (ext_fp _)).trans E3,H3⟩
    ·cases h
  ·cases h
theorem shared_of {k:Nat} {vs:List AV} {dr:Bool} {md:Md} {v:AV} {f:FuncId} (hk:fid f=some k) (h:CStep P fid dr k vs hp md v hp'):FnThere P f∧Shared P fid f vs hp v hp':=by
 have hk':=hk
 cases h with
 | @plain ps r hf hr hd=>
  obtain ⟨h1,h2⟩:=hr f hk
  refine ⟨h1,fun fr w0 m w args hP hcd H hC hs=>(plain_ok hP hcd H hC hs hf h2).mono ?_⟩
  rintro e w' ⟨u,fl,rfl,hi,m',E',H',hR⟩
  cases hq:noimm r.1 with
  |true=>
   obtain ⟨G,hR'⟩:=hi hq
   obtain ⟨m3,E3,H3,hC3⟩:=thawed G hR'
   exact ⟨u,m3,rfl,E3,by simpa [hq] using H3,by simpa [hq] using hC3⟩
  |false=>
   obtain ⟨m3,E3,H3,hC3⟩:=thawed H' hR
   exact ⟨u,m3,rfl,E'.trans E3,by simpa [hq] using H3,by simpa [hq] using hC3⟩
 | @quiet ps r hf hr q1 q2=>
  obtain ⟨h1,h2⟩:=hr f hk
  refine ⟨h1,fun fr w0 m w args hP hcd H hC hs=>(plain_ok hP hcd H hC hs hf h2).mono ?_⟩
  rintro e w' ⟨u,fl,rfl,hi,m',E',H',hR⟩
  rcases q2 with q2 | q2
  ·obtain ⟨G,hR'⟩:=hi q2
   obtain ⟨hC',rfl⟩:=C_of_R _ _ _ q1 hR'
   exact ⟨u,m,rfl,Ext.refl fr m,G,hC'⟩
  ·rw [q2,still_nil] at H'
   obtain ⟨hC',rfl⟩:=C_of_R _ _ _ q1 hR
   exact ⟨u,m',rfl,E',H',hC'⟩
 | @mem hps r hs hr hl hno=>
  obtain ⟨h1,h2⟩:=hr f hk
  refine ⟨h1,fun fr w0 m w args hP hcd H hC hsz=>(mem_ok (fun id hid=>(dedup_mem _ _ _).2 (.inl hid)) (dedup_nodup _ _ (by simp)) hP hcd H hC hsz hs h2 hl hno).mono ?_⟩
  rintro e w' ⟨u,fl,m',rfl,E',H',hR⟩
  obtain ⟨m3,E3,H3,hC3⟩:=thawed H' hR
  exact ⟨u,m3,rfl,E'.trans E3,H3,hC3⟩
 | @memp hp1 hps r hk hs hr hl hno=>
  obtain ⟨h1,h2⟩:=hr f hk'
  refine ⟨h1,fun fr w0 m w args hP hcd H hC hsz=>?_⟩
  obtain ⟨m1,E1,H1⟩:=packs_ok _ hk H
  refine (mem_ok (fun id hid=>(dedup_mem _ _ _).2 (.inl hid)) (dedup_nodup _ _ (by simp)) (E1.le.P.trans hP) (E1.le.cd.trans hcd) H1 (CL_mono E1.le _ _ _ (fun _ _ h=>h) hC) hsz hs h2 hl hno).mono ?_
  rintro e w' ⟨u,fl,m',rfl,E',H',hR⟩
  obtain ⟨m3,E3,H3,hC3⟩:=thawed H' hR
  exact ⟨u,m3,rfl,(E1.trans E').trans E3,H3,hC3⟩
 | @all v hp1 hr=>
  obtain ⟨h1,h2⟩:=hr f hk
  refine ⟨h1,fun fr w0 m w args hP hcd H hC hs=>(h2 fr w0 m w args hP hcd H hC hs).mono ?_⟩
  rintro e w' ⟨u,m',rfl,E',H',hR⟩
  obtain ⟨m3,E3,H3,hC3⟩:=thawed H' hR
  exact ⟨u,m3,rfl,(E'.ext (by rw [H.len];exact Nat.le_refl _)).trans E3,H3,hC3⟩
 | @allk v hp1 hr hkk=>
  obtain ⟨h1,h2⟩:=hr f hk
  refine ⟨h1,fun fr w0 m w args hP hcd H hC hs=>(h2 fr w0 m w args hP hcd H hC hs).mono ?_⟩
  rintro e w' ⟨u,m',rfl,E',H',hR⟩
  obtain ⟨m3,E3,H3,hC3⟩:=thawed H' hR
  exact ⟨u,m3,rfl,(E'.ext (by rw [H.len];exact Nat.le_refl _)).trans E3,H3,hC3⟩
end
def FF (ro:Option Nat):Fence:={ Fence.wide with round:=ro }
theorem callsFF {ro:Option Nat} {n:Nat} {P:Program} {f:FuncId} {args:Array Value} {w:World} {R:Ending→World→Prop} (h:CallsIn Fence.wide 0 P f args w R):CallsIn (FF ro) n P f args w R:=
 ⟨trivial,fun cs _=>h.2 cs (room_wide _)⟩
def SO.callee (ev:SX→AV):SO→Option (Md × Nat × List AV)
 | .call md k as=>some (md,k,as.map ev)
 | .callf md x as=>match ev x with
  | .clo k fs cs=>some (md,k,fs++as.map ev++cs)
  |_=>none
 |_=>none
def RoundOk (P:Program) (fid:FuncId→Option Nat) (id:Nat) (vs:List AV) (hp:List Blk) (v:AV) (hp':List Blk):Prop:=
 ∀ (fr:Nat→Prop) w0 m w (args:Array Value) e g,m.P=P→m.cd=fid→HInv fr w0 m hp w []→CL m vs (fun i=>args[i]?)→args.size=vs.length→m.bl[id]? = some e→e.b=some g →
  ∃ f tmps asg body,(Instr.yield g args).run P w=.ok (.round g f tmps asg body) w ∧
   RoundIn Fence.wide 0 P g f tmps asg body w fun e w'=>∃ u m',e=.returned u∧Ext fr m m'∧HInv fr w0 m' hp' w' []∧C m' v u
inductive Recv (ev:SX→AV) (hp:List Blk):SO→Md × Nat × List AV→List Blk→Prop
 |mk {md x ms as t v k rk r} (hx:ev x=.ifc t v) (hm:mlk ms t=some (k,rk)) (hr:rcv hp rk v=some r):Recv ev hp (.invoke md x ms as) (md,k,r.1::as.map ev) r.2
inductive Step (P:Program) (fid:FuncId→Option Nat) (d:Bool) (o:SOp) (st:St):AV→List Blk→Prop
 |skip (h:wanted st.env o.guard=some false):Step P fid d o st (.tup []) st.hp
 |op {r} (h:wanted st.env o.guard=some true) (ha:astep st.hp st.ev o.op=some r):Step P fid d o st r.1 r.2
 |call {md k vs v hp'} (h:wanted st.env o.guard=some true) (ho:o.op.callee st.ev=some (md,k,vs)) (hc:CStep P fid d k vs st.hp md v hp'):Step P fid d o st v hp'
 |round {x as id v hp'} (h:wanted st.env o.guard=some true) (ho:o.op=.callf .all x as) (hx:st.ev x=.yld id) (hr:RoundOk P fid id (as.map st.ev) st.hp v hp'):Step P fid d o st v hp'
 |invk {q hp1 v hp'} (h:wanted st.env o.guard=some true) (ho:Recv st.ev st.hp o.op q hp1) (hc:CStep P fid d q.2.1 q.2.2 hp1 q.1 v hp'):Step P fid d o st v hp'
inductive Trace (P:Program) (fid:FuncId→Option Nat) (d:Bool):List SOp→St→St→Prop
 |nil {st}:Trace P fid d [] st st
 |cons {o l st v hp' st'} (h:Step P fid d o st v hp') (t:Trace P fid d l (st.put o.dst v hp') st'):Trace P fid d (o::l) st st'
theorem csop_ok {P:Program} {fid:FuncId→Option Nat} {nt:Nat} {ops:Array Oper} {o:Oper} {so:SOp} (h:csop P fid nt ops o=some so.base):
  cop P fid o.op=some so.op.base∧so.dst=o.dst∧(∀ d,o.dst=some d→d<nt)∧((o.guard=none∧so.guard=none)∨∃ j b t,o.guard=some (j,b)∧(ops[j]?).bind (·.dst)=some t∧so.guard=some (t,b)):=by
 simp only [csop,obI,omI,SOp.base,SOp.mk.injEq] at h
 obtain ⟨op,h1,d,h2,g,h3,e1,e2,e3⟩:=h
 subst e1;subst e2;subst e3
 refine ⟨h1,?_,?_,?_⟩
 ·split at h2
  ·rename_i hd;injection h2 with h2;rw [←h2];exact hd.symm
  ·rename_i d' hd
   split at h2
   ·injection h2 with h2;rw [←h2];exact hd.symm
   ·cases h2
 ·intro d' hd'
  rw [hd'] at h2
  simp only at h2
  split at h2
  ·assumption
  ·cases h2
 ·split at h3
  ·rename_i hg;injection h3 with h3;exact .inl ⟨hg,h3.symm⟩
  ·rename_i j b hg
   simp only [omI] at h3
   obtain ⟨t,ht,h3⟩:=h3
   exact .inr ⟨j,b,t,hg,ht,h3.symm⟩
theorem cop_call {P:Program} {fid:FuncId→Option Nat} {op:Op} {k:Nat} {as:List SX} (h:cop P fid op=some (.call .plain k as)):
  ∃ f args ats,op=.call { callee:=.value (.func f),args,argTypes:=ats }∧fid f=some k∧opds fid args.toList=some as:=by
 cases op with
 |call c=>
  simp only [cop] at h
  obtain ⟨callee,args,ats⟩:=c
  unfold copCall at h
  split at h
  case h_7 f hcl=>
   simp only at hcl;subst hcl
   simp only [obI,omI,SO.call.injEq] at h
   obtain ⟨k',hk',as',has',_,rfl,rfl⟩:=h
   exact ⟨f,args,ats,rfl,hk',has'⟩
  all_goals exfalso
  all_goals (repeat' (split at h))
  all_goals (try (simp [obI,omI] at h;done))
  all_goals (try simp only [obI,omI] at h)
  all_goals (repeat (obtain ⟨_,_,h⟩:=h))
  all_goals (repeat' (split at h))
  all_goals (try (simp [obI,omI] at h;done))
  all_goals (trace_state;fail)
 |_=>
  exfalso
  simp only [cop,reduceCtorEq] at h
  all_goals (repeat' (split at h))
  all_goals (try (simp [obI,omI] at h;done))
  all_goals (try simp only [obI,omI] at h)
  all_goals (repeat (obtain ⟨_,_,h⟩:=h))
  all_goals (repeat' (split at h))
  all_goals (try (simp [obI,omI] at h;done))
  all_goals (first | contradiction | (simp_all;done))
theorem cop_callf {P:Program} {fid:FuncId→Option Nat} {op:Op} {x:SX} {as:List SX} (h:cop P fid op=some (.callf .plain x as)):
  ∃ t args ats,op=.call { callee:=.value (.tmp t),args,argTypes:=ats }∧x=.tmp t∧opds fid args.toList=some as:=by
 cases op with
 |call c=>
  simp only [cop] at h
  obtain ⟨callee,args,ats⟩:=c
  unfold copCall at h
  split at h
  case h_8 t hcl=>
   simp only at hcl;subst hcl
   simp only [omI,SO.callf.injEq] at h
   obtain ⟨as',has',_,rfl,rfl⟩:=h
   exact ⟨t,args,ats,rfl,rfl,has'⟩
  all_goals exfalso
  all_goals (repeat' (split at h))
  all_goals (try (simp [obI,omI] at h;done))
  all_goals (try simp only [obI,omI] at h)
  all_goals (repeat (obtain ⟨_,_,h⟩:=h))
  all_goals (repeat' (split at h))
  all_goals (try (simp [obI,omI] at h;done))
  all_goals (trace_state;fail)
 |_=>
  exfalso
  simp only [cop,reduceCtorEq] at h
  all_goals (repeat' (split at h))
  all_goals (try (simp [obI,omI] at h;done))
  all_goals (try simp only [obI,omI] at h)
  all_goals (repeat (obtain ⟨_,_,h⟩:=h))
  all_goals (repeat' (split at h))
  all_goals (try (simp [obI,omI] at h;done))
  all_goals (first | contradiction | (simp_all;done))
theorem cop_invoke {P:Program} {fid:FuncId→Option Nat} {op:Op} {x:SX} {ms:List (Nat × Nat × RK)} {as:List SX} (h:cop P fid op=some (.invoke .plain x ms as)):
  ∃ y name args ats,op=.call { callee:=.invoke y name,args,argTypes:=ats }∧opd fid y=some x∧ms=mtab P fid name∧opds fid args.toList=some as:=by
 cases op with
 |call c=>
  simp only [cop] at h
  obtain ⟨callee,args,ats⟩:=c
  unfold copCall at h
  split at h
  case h_9 y name hcl=>
   simp only at hcl;subst hcl
   simp only [omI,obI,SO.invoke.injEq] at h
   obtain ⟨x',hx',as',has',_,rfl,rfl,rfl⟩:=h
   exact ⟨y,name,args,ats,rfl,hx',rfl,has'⟩
  all_goals exfalso
  all_goals (repeat' (split at h))
  all_goals (try (simp [obI,omI] at h;done))
  all_goals (try simp only [obI,omI] at h)
  all_goals (repeat (obtain ⟨_,_,h⟩:=h))
  all_goals (repeat' (split at h))
  all_goals (try (simp [obI,omI] at h;done))
  all_goals (trace_state;fail)
 |_=>
  exfalso
  simp only [cop,reduceCtorEq] at h
  all_goals (repeat' (split at h))
  all_goals (try (simp [obI,omI] at h;done))
  all_goals (try simp only [obI,omI] at h)
  all_goals (repeat (obtain ⟨_,_,h⟩:=h))
  all_goals (repeat' (split at h))
  all_goals (try (simp [obI,omI] at h;done))
  all_goals (first | contradiction | (simp_all;done))
section
variable {P:Program} {fid:FuncId→Option Nat} {fr0 fr:Nat→Prop} {w0 w:World} {nt:Nat} {hp:List Blk} {m:Mem} {st st':St} {a:Act} {ops:Array Oper} {Q:Exit→Act→World→Prop} {ro:Option Nat} {n:Nat}
theorem wanted_ok {o:Oper} {so:SOp} {b:Bool} (hg:(o.guard=none∧so.guard=none)∨∃ j b t,o.guard=some (j,b)∧(ops[j]?).bind (·.dst)=some t∧so.guard=some (t,b)) (E:EnvOk m st.env a.tmps) (h:wanted st.env so.guard=some b):
  Region.wanted o (yielded ops a.tmps)=b:=by
 rcases hg with ⟨h1,h2⟩ | ⟨j,b',t,h1,h2,h3⟩
 ·rw [h2] at h
  simp only [wanted] at h
  injection h with h
  simp [Region.wanted,h1,h]
 ·rw [h3] at h
  simp only [wanted] at h
  have hE:=E t
  simp only [Region.wanted,h1,yielded,h2,Option.bind_some]
  split at h
  ·rename_i c hc
   rw [hc] at hE
   simp only [C] at hE
   injection h with h
   have:a.tmps[t]? = some (.bool c):=by
    rw [Array.getD_eq_getD_getElem?] at hE
    cases hq:a.tmps[t]? with
    |none=>rw [hq] at hE;simp [undef] at hE
    |some x=>rw [hq] at hE;simp at hE;rw [hE]
   rw [this]
   simp only
   rw [←h]
   cases c<;>cases b'<;>rfl
  ·rename_i hc
   rw [hc] at hE
   simp only [C] at hE
   obtain ⟨vs,hv,_⟩:=hE
   injection h with h
   subst h
   rw [Array.getD_eq_getD_getElem?] at hv
   cases hq:a.tmps[t]? with
   |none=>simp
   |some x=>rw [hq] at hv;simp at hv;rw [hv];simp
  ·cases h
theorem exec_call (w:World) {o:Oper} {f:FuncId} {args:Array Operand} {ats:Array TypeId} (hop:o.op=.call { callee:=.value (.func f),args,argTypes:=ats }) (hf:FnThere P f):
  (execOp a.eval o).run P w=.ok (.enter f (args.map a.eval)) w:=by
 obtain ⟨fn,h1,h2,h3⟩:=hf
 have hn:¬ fn.name= "runtime.NumGoroutine":=by simpa using h3
 have hb:¬ fn.body=none:=by intro h;rw [h] at h2;cases h2
 simp [execOp,hop,resolve,Act.eval,Deferred.ofValue,invoke,callFunc,h1,hn,hb]
theorem exec_clo (w:World) {o:Oper} {t:Tmp} {f:FuncId} {fs cs:Array Value} {args:Array Operand} {ats:Array TypeId} (hop:o.op=.call { callee:=.value (.tmp t),args,argTypes:=ats }) (hx:a.eval (.tmp t)=.func (.func f) fs cs) (hf:FnThere P f):
  (execOp a.eval o).run P w=.ok (.enter f (fs++args.map a.eval++cs)) w:=by
 obtain ⟨fn,h1,h2,h3⟩:=hf
 have hn:¬ fn.name= "runtime.NumGoroutine":=by simpa using h3
 have hb:¬ fn.body=none:=by intro h;rw [h] at h2;cases h2
 simp [execOp,hop,resolve,hx,Deferred.ofValue,invoke,callFunc,h1,hn,hb]
theorem exec_yield (w:World) {o:Oper} {t:Tmp} {g:Nat} {args:Array Operand} {ats:Array TypeId} {nx:Next} (hop:o.op=.call { callee:=.value (.tmp t),args,argTypes:=ats }) (hx:a.eval (.tmp t)=.func (.yield g) #[] #[]) (hy:(Instr.yield g (args.map a.eval)).run P w=.ok nx w):
  (execOp a.eval o).run P w=.ok nx w:=by
 simp [execOp,hop,resolve,hx,Deferred.ofValue,invoke,hy]
theorem CL_append {m:Mem} {xs ys:List AV} {us vs:Array Value} (h1:CL m xs (fun i=>us[i]?)) (hs:us.size=xs.length) (h2:CL m ys (fun i=>vs[i]?)):CL m (xs++ys) (fun i=>(us++vs)[i]?):=by
 rw [CL_iff] at *
 intro i x hx
 rcases Nat.lt_or_ge i xs.length with h | h
 ·rw [List.getElem?_append_left h] at hx
  obtain ⟨u,q1,q2⟩:=h1 i x hx
  exact ⟨u,by rw [Array.getElem?_append_left (by omega)];exact q1,q2⟩
 ·rw [List.getElem?_append_right h] at hx
  obtain ⟨u,q1,q2⟩:=h2 _ x hx
  exact ⟨u,by rw [Array.getElem?_append_right (by omega),hs];exact q1,q2⟩
theorem moved_ok {k:Nat} {x y:AV} {u:Value} (h:moved k x=some y) (hC:C m x u):∃ b off,u=.pointer (some ⟨b,off,none⟩)∧C m y (.pointer (some ⟨b,off+k,none⟩)):=by
 unfold moved at h
 split at h
 ·injection h with h;subst h
  simp only [C] at hC
  obtain ⟨hok,b,off,rfl,hCL⟩:=hC
  refine ⟨b,off,rfl,?_⟩
  simp only [C]
  refine ⟨all_drop hok _,b,_,rfl,?_⟩
  have:=CL_drop hCL k
  simpa only [Nat.add_assoc] using this
 ·injection h with h;subst h
  simp only [C] at hC
  obtain ⟨e,he,b,hb,rfl⟩:=hC
  refine ⟨b,_,rfl,?_⟩
  simp only [C]
  exact ⟨e,he,b,hb,rfl⟩
 ·cases h
theorem loaded_ok (hcd:m.cd=fid) (H:HInv fr w0 m hp w []) {t:TypeId} {k:Option Nat} (hn:ldk P t=some k) {y:AV} {b off:Nat} (hC:C m y (.pointer (some ⟨b,off,none⟩))) {r:AV × List Blk} (h:astep hp (fun _=>y) (.load true k (.tmp 0))=some r):
  ∃ u w' m',(loadVar t ⟨b,off,none⟩).run P w=.ok u w'∧Ext fr m m'∧HInv fr w0 m' r.2 w' []∧C m' r.1 u:=by
 let a:Act:={ tmps:=#[.pointer (some ⟨b,off,none⟩)],defers:=[] }
 let o:Oper:={ dst:=none,op:=.load t (.tmp 0),type:=0,pos:= "",after:=#[],guard:=none }
 have E:EnvOk m [(0,y)] a.tmps:=by
  intro s
  simp only [lk]
  by_cases hs:0=s
  ·subst hs;rw [if_pos rfl];exact hC
  ·rw [if_neg hs];simp [C]
 obtain ⟨nx,u,w',m',hr,hnx,hE,hCC,HH⟩:=go_load (a:=a) (o:=o) (l0:=0) (mk:=[]) (env:=[(0,y)]) (v:=r.1) (hp':=r.2) hcd (x:=.tmp 0) (x':=.tmp 0) (n:=k) (u:=true) rfl hn rfl (by simpa [astep,St.ev,lk] using h) H E
 have e1:(Instr.loadAt t (.pointer (some ⟨b,off,none⟩))).run P w=(loadVar t ⟨b,off,none⟩).run P w:=by simp [Instr.loadAt,Instr.sureAddr]
 have e2:a.eval (.tmp 0)=.pointer (some ⟨b,off,none⟩):=rfl
 cases hL:(loadVar t ⟨b,off,none⟩).run P w with
 |ok u2 w2=>
  simp [execOp,o,e2,e1,hL] at hr
  obtain ⟨rfl,rfl⟩:=hr
  rcases hnx with hnx | ⟨hnx,_⟩
  ·injection hnx with hnx;subst hnx
   exact ⟨u2,w2,m',rfl,hE,HH,hCC⟩
  ·cases hnx
 |_=>simp [execOp,o,e2,e1,hL] at hr
theorem run_wrap (w:World) (ts:Array TypeId) (t:TypeId) (ad:Addr) (x y:ByteArray):(Builtin.ssaWrapNilChk_ ts t #[.pointer (some ad),.string x,.string y]).run P w=.ok (.pointer (some ad)) w:=rfl
theorem recvAt_ptr (w:World) {xt:TypeId} {un:TypeDesc} (h:P.underlying xt=some un) (hn:ptrD un=false) (ad:Addr) (wr:Option String):(receiverAt xt (.var ad) true wr).run P w=.ok (.pointer (some ad)) w:=by
 cases un<;>first | (simp [ptrD] at hn;done) | simp [receiverAt,run_underlying h]
theorem recvAt_val (w:World) {xt:TypeId} {un:TypeDesc} (h:P.underlying xt=some un) (hn:ptrD un=false) (ad:Addr) (wr:Option String):(receiverAt xt (.var ad) false wr).run P w=(loadVar xt ad).run P w:=by
 cases un<;>first | (simp [ptrD] at hn;done) | simp [receiverAt,run_underlying h,Place.get]
theorem mth_ok (hcd:m.cd=fid) (H:HInv fr w0 m hp w []) {t:TypeId} {name:String} {k:Nat} {rk:RK} (hm:mthOf P fid t name=some (k,rk)) {x:AV} {u:Value} (hC:C m x u) {r:AV × List Blk} (h:rcv hp rk x=some r):
  ∃ f u' w' m',fid f=some k∧(∀ fuel,(method (fuel+1) t u name).run P w=.ok (f,u') w')∧Ext fr m m'∧HInv fr w0 m' r.2 w' []∧C m' r.1 u':=by
 simp only [mthOf,obI] at hm
 obtain ⟨mt,⟨i,hi,hf⟩,hm⟩:=hm
 split at hm
 ·rename_i f pr hfn hpa
  split at hm
  ·rename_i e he
   simp only [obI] at hm
   obtain ⟨k',hk',hm⟩:=hm
   split at hm
   ·rename_i hpr
    injection hm with hm;simp only [Prod.mk.injEq] at hm
    obtain ⟨rfl,rfl⟩:=hm
    simp only [rcv,omI] at h
    obtain ⟨y,hy,rfl⟩:=h
    obtain ⟨b,off,rfl,hCy⟩:=moved_ok hy hC
    refine ⟨f,_,w,m,hk',fun fuel=>?_,Ext.refl fr m,H,by simpa using hCy⟩
    simp [method,run_typeInfo w hi,hf,hpa,follow,hfn,receiverAt,run_underlying he,hpr,Place.get]
   ·rename_i hpr
    simp only [omI,Prod.mk.injEq] at hm
    obtain ⟨n,hn,rfl,rfl⟩:=hm
    simp only [rcv,obI] at h
    obtain ⟨y,hy,h⟩:=h
    obtain ⟨b,off,rfl,hCy⟩:=moved_ok hy hC
    obtain ⟨u',w',m',q1,q2,q3,q4⟩:=loaded_ok (P:=P) hcd H hn hCy h
    refine ⟨f,u',w',m',hk',fun fuel=>?_,q2,q3,q4⟩
    simp at q1
    have hwr:∀ wr:Option String,(receiverAt t (.val (.pointer (some ⟨b,off,none⟩))) false wr).run P w=.ok u' w':=by
     intro wr
     cases wr with
     |none=>simp [receiverAt,run_underlying he,Place.get,asAddr,q1]
     |some s=>simp [receiverAt,run_underlying he,Place.get,asAddr,q1,strVal,run_wrap]
    simp [method,run_typeInfo w hi,hf,hpa,follow,hfn,hpr,hwr]
  ·cases hm
 ·rename_i f pr st hfn hpa
  split at hm
  ·rename_i hd
   simp only [obI] at hm
   obtain ⟨fd,hfd,sz,hsz,hm⟩:=hm
   split at hm
   ·cases hm
   ·rename_i hz0
    simp only [obI] at hm
    obtain ⟨un,hun,hm⟩:=hm
    split at hm
    ·cases hm
    ·rename_i hnp
     simp only [obI] at hm
     obtain ⟨k',hk',hm⟩:=hm
     simp only [Bool.not_eq_true] at hnp
     simp only [fieldOf] at hfd
     split at hfd
     ·rename_i fs hst
      split at hm
      ·rename_i hpr
       injection hm with hm;simp only [Prod.mk.injEq] at hm
       obtain ⟨rfl,rfl⟩:=hm
       simp only [rcv,omI] at h
       obtain ⟨y,hy,rfl⟩:=h
       obtain ⟨b,off,rfl,hCy⟩:=moved_ok hy hC
       refine ⟨f,_,w,m,hk',fun fuel=>?_,Ext.refl fr m,H,hCy⟩
       have hfp:(fieldPlace ⟨b,off,none⟩ fd).run P w=.ok ⟨b,off+fd.offset,none⟩ w:=by simp [fieldPlace,szOf_ok hsz,hz0,addr_add]
       simp [method,run_typeInfo w hi,hf,hpa,follow,hfn,run_underlying hst,hd,hfd,Place.get,asAddr,hfp,hpr,recvAt_ptr w hun hnp]
      ·rename_i hpr
       simp only [omI,Prod.mk.injEq] at hm
       obtain ⟨n,hn,rfl,rfl⟩:=hm
       simp only [rcv,obI] at h
       obtain ⟨y,hy,h⟩:=h
       obtain ⟨b,off,rfl,hCy⟩:=moved_ok hy hC
       obtain ⟨u',w',m',q1,q2,q3,q4⟩:=loaded_ok (P:=P) hcd H hn hCy h
       refine ⟨f,u',w',m',hk',fun fuel=>?_,q2,q3,q4⟩
       have hfp:(fieldPlace ⟨b,off,none⟩ fd).run P w=.ok ⟨b,off+fd.offset,none⟩ w:=by simp [fieldPlace,szOf_ok hsz,hz0,addr_add]
       simp [method,run_typeInfo w hi,hf,hpa,follow,hfn,run_underlying hst,hd,hfd,Place.get,asAddr,hfp,hpr,recvAt_val w hun hnp,q1]
     ·cases hfd
  ·cases hm
 ·cases hm
theorem mtab_get {P:Program} {fid:FuncId→Option Nat} {name:String} {t:Nat} {q:Nat × RK} (h:mlk (mtab P fid name) t=some q):mthOf P fid t name=some q:=by
 have key:∀ l:List Nat,mlk (l.filterMap fun t=>(mthOf P fid t name).map (t,·)) t=some q→mthOf P fid t name=some q:=by
  intro l
  induction l with
  |nil=>intro h';cases h'
  |cons x xs ih=>
   intro h'
   rw [List.filterMap_cons] at h'
   cases hx:mthOf P fid x name with
   |none=>rw [hx] at h';exact ih h'
   |some y=>
    rw [hx] at h'
    simp only [Option.map_some,mlk] at h'
    split at h'
    ·rename_i hxt;subst hxt;rw [hx];exact h'
    ·exact ih h'
 exact key _ h
theorem exec_invoke (w:World) {w':World} {o:Oper} {x:Operand} {name:String} {t:TypeId} {u u':Value} {f:FuncId} {args:Array Operand} {ats:Array TypeId} (hop:o.op=.call { callee:=.invoke x name,args,argTypes:=ats }) (hx:a.eval x=.iface t u) (hm:∀ fuel,(method (fuel+1) t u name).run P w=.ok (f,u') w') (hf:FnThere P f) (hd:0<Made.depth):
  (execOp a.eval o).run P w=.ok (.enter f (#[u']++args.map a.eval)) w':=by
 obtain ⟨fn,h1,h2,h3⟩:=hf
 have hn:¬ fn.name= "runtime.NumGoroutine":=by simpa using h3
 have hb:¬ fn.body=none:=by intro h;rw [h] at h2;cases h2
 obtain ⟨fuel,hfuel⟩:∃ fuel,P.types.size+Made.depth=fuel+1:=⟨P.types.size+Made.depth - 1,by omega⟩
 have e0:(#[Value.iface t u]++args.map a.eval)[0]? = some (.iface t u):=by simp [Array.getElem?_append]
 have e1:(#[Value.iface t u]++args.map a.eval).extract 1 (#[Value.iface t u]++args.map a.eval).size=args.map a.eval:=by
  apply Array.ext'
  simp only [Array.toList_extract,Array.toList_append,Array.size_append]
  simp [List.take_of_length_le]
 have e2:(execOp a.eval o).run P w=(Go.invoke (.fn (.method name) #[]) (#[Value.iface t u]++args.map a.eval)).run P w:=by simp [execOp,hop,resolve,hx]
 rw [e2]
 unfold Go.invoke
 simp only [e0,e1]
 simp [callMethod,hfuel,hm,callFunc,h1,hn,hb]
theorem step_ok {o:Oper} {so:SOp} {i:Nat} {d:Bool} {v:AV} {hp':List Blk} {K:Act→World→Prop} (hP:m.P=P) (hcd:m.cd=fid) (hcs:csop P fid nt ops o=some so.base) (hi:ops[i]? = some o) (H:HInv fr w0 m st.hp w []) (E:EnvOk m st.env a.tmps)
  (h:Step P fid d so st v hp') (hK:∀ m' u w',Ext fr m m'→C m' v u→HInv fr w0 m' hp' w' []→K (a.put o.dst u) w'):wpOpIn (FF ro) n P ops Q i K a w:=by
 obtain ⟨h1,h2,h3,h4⟩:=csop_ok hcs
 unfold wpOpIn
 rw [hi]
 simp only
 have hab:∀ f,o.about P w a.eval=some f→(FF ro).fn f:=fun _ _=>trivial
 have hdep:(FF ro).depth.isSome=true→1≤n:=fun h=>by simp [FF,Fence.wide] at h
 have hsem:∀ so',cop P fid o.op=some so'→o.semAt (FF ro).round a.eval=execOp a.eval o:=fun so' hq=>Oper.semAt_eq _ _ _ (fun c hc=>by rw [hc] at hq;simp [cop] at hq)
 cases h with
 |skip hw=>
  rw [wanted_ok h4 E hw,if_neg (by simp)]
  exact ⟨hab,hK m undef w (Ext.refl fr m) (by simp [C,undef,CL]) H⟩
 |op hw ha=>
  rw [wanted_ok h4 E hw,if_pos rfl]
  obtain ⟨nx,u,w',m',hr,hnx,hE,hC,HH⟩:=op_ok (P:=P) (l0:=st.lo) (mk:=st.mks) hcd h1 rfl ha H E
  refine ⟨hab,?_⟩
  rw [hsem _ h1,hr]
  rcases hnx with rfl | ⟨rfl,rfl⟩
  ·exact hK m' u w' hE hC HH
  ·exact hK m' undef w' hE hC HH
 | @call md k vs v hp' hw ho hc=>
  rw [wanted_ok h4 E hw,if_pos rfl]
  refine ⟨hab,?_⟩
  rw [hsem _ h1]
  have fin:∀ (f:FuncId) (us:Array Value),fid f=some k→CL m vs (fun i=>us[i]?)→us.size=vs.length→(FnThere P f→(execOp a.eval o).run P w=.ok (.enter f us) w)→o.uponIn (FF ro) n P a K Q ((execOp a.eval o).run P w):=by
   intro f us hf hC hs hx
   obtain ⟨t1,t2⟩:=shared_of hf hc
   rw [hx t1,Oper.uponIn_enter]
   refine ⟨hdep,(callsFF (t2 fr w0 m w us hP hcd H hC hs)).mono ?_⟩
   rintro e w' ⟨u,m',rfl,hE,HH,hC'⟩
   exact hK m' u w' hE hC' HH
  cases hop:so.op with
  |call md' k' as=>
   rw [hop] at ho h1
   simp only [SO.callee,Option.some.injEq,Prod.mk.injEq] at ho
   obtain ⟨rfl,rfl,rfl⟩:=ho
   obtain ⟨f,args,ats,hoo,hfk,has⟩:=cop_call h1
   obtain ⟨c1,c2⟩:=opds_ok (st:=st) hcd args.toList as has E
   exact fin f (args.map a.eval) hfk (by simpa using c1) (by simp [c2]) (fun ht=>exec_call w hoo ht)
  |callf md' x as=>
   rw [hop] at ho h1
   simp only [SO.callee] at ho
   split at ho
   ·rename_i k' fs cs hx
    simp only [Option.some.injEq,Prod.mk.injEq] at ho
    obtain ⟨rfl,rfl,rfl⟩:=ho
    obtain ⟨t,args,ats,hoo,rfl,has⟩:=cop_callf h1
    obtain ⟨c1,c2⟩:=opds_ok (st:=st) hcd args.toList as has E
    have hE:=E t
    change st.ev (.tmp t)=_ at hx
    rw [show lk st.env t=.clo k' fs cs from hx] at hE
    simp only [C] at hE
    obtain ⟨fn,fs',cs',q1,q2,q3,q4,q5,q6⟩:=hE
    refine fin fn (fs'++args.map a.eval++cs') (by rw [←hcd];exact q2) ?_ (by simp [q3,q4,c2]) (fun ht=>exec_clo w hoo q1 ht)
    refine CL_append (CL_append q5 q3 (by simpa using c1)) (by simp [q3,c2]) q6
   ·cases ho
  |_=>rw [hop] at ho;simp [SO.callee] at ho
 | @round x as id v hp' hw ho hx hr=>
  rw [wanted_ok h4 E hw,if_pos rfl]
  refine ⟨hab,?_⟩
  rw [hsem _ h1]
  rw [ho] at h1
  obtain ⟨t,args,ats,hoo,rfl,has⟩:=cop_callf h1
  obtain ⟨c1,c2⟩:=opds_ok (st:=st) hcd args.toList as has E
  have hE:=E t
  rw [show lk st.env t=.yld id from hx] at hE
  simp only [C] at hE
  obtain ⟨e,he,g,hg,hv⟩:=hE
  obtain ⟨f,tmps,asg,body,hy,hR⟩:=hr fr w0 m w (args.map a.eval) e g hP hcd H (by simpa using c1) (by simp [c2]) he hg
  rw [exec_yield w hoo hv hy,Oper.uponIn_round]
  refine ⟨hdep,trivial,fun c cs _=>?_⟩
  obtain ⟨e',w',⟨u,m',rfl,hE',HH,hC'⟩,hs⟩:=hR.2 c cs (room_wide _)
  exact ⟨.returned u,w',hK m' u w' hE' hC' HH,hs⟩
 | @invk q hp1 v hp' hw ho hc=>
  rw [wanted_ok h4 E hw,if_pos rfl]
  refine ⟨hab,?_⟩
  rw [hsem _ h1]
  generalize hso:so.op=op at ho h1
  cases ho with
  | @mk md x ms as t v0 k rk r hx hm hr=>
   obtain ⟨y,name,args,ats,hoo,hy,rfl,has⟩:=cop_invoke h1
   obtain ⟨c1,c2⟩:=opds_ok (st:=st) hcd args.toList as has E
   have k1:=opd_ok (st:=st) hcd hy E
   rw [hx] at k1
   simp only [C] at k1
   obtain ⟨u0,hu0,hC0⟩:=k1
   have hm':=mtab_get hm
   obtain ⟨f,u',w',m',hf,hrun,hE1,H1,hC1⟩:=mth_ok (P:=P) hcd H hm' hC0 hr
   obtain ⟨t1,t2⟩:=shared_of hf hc
   rw [exec_invoke w hoo hu0 hrun t1 (by decide),Oper.uponIn_enter]
   have c1':CL m (as.map st.ev) (fun i=>(args.map a.eval)[i]?):=by simpa using c1
   have hCs:CL m' (r.1::as.map st.ev) (fun i=>(#[u']++args.map a.eval)[i]?):=by
    have h2:CL m' (as.map st.ev) (fun i=>(args.map a.eval)[i]?):=CL_mono hE1.le _ _ _ (fun _ _ h=>h) c1'
    exact CL_append (xs:=[r.1]) (us:=#[u']) (by simp [CL,hC1]) rfl h2
   refine ⟨hdep,(callsFF (t2 fr w0 m' w' (#[u']++args.map a.eval) (hE1.le.P.trans hP) (hE1.le.cd.trans hcd) H1 hCs (by simp [c2];omega))).mono ?_⟩
   rintro e w2 ⟨u2,m2,rfl,hE2,HH,hC2⟩
   exact hK m2 u2 w2 (hE1.trans hE2) hC2 HH
structure SInv (P:Program) (fid:FuncId→Option Nat) (fr0 fr:Nat→Prop) (w0:World) (nt:Nat) (m:Mem) (st:St) (a:Act) (w:World):Prop where
 P:m.P=P
 cd:m.cd=fid
 h:HInv fr w0 m st.hp w []
 e:EnvOk m st.env a.tmps
 n:nt≤a.tmps.size
 d:(∀ g,fr0 g→fr g)∧∃ M:List Nat,a.defers.map (·.target)=M.map Target.collected∧M.Nodup∧∀ r∈M,fr r∧¬ fr0 r∧w0.heap[r]? = some (.deferred (some []))
 l:st.lo≤st.hp.length
theorem ext_len {m m':Mem} (h:Ext fr m m'):m.bl.length≤m'.bl.length:=by
 rcases Nat.eq_zero_or_pos m.bl.length with h0 | h0
 ·omega
 ·have:=h.le.bl (m.bl.length - 1) _ (List.getElem?_eq_getElem (by omega))
  have:=(List.getElem?_eq_some_iff.1 this).1
  omega
theorem EnvOk.cons {m:Mem} {env:List (Nat × AV)} {ts:Array Value} (h:EnvOk m env ts) {s:Nat} {v:AV} (hv:C m v (ts.getD s undef)):EnvOk m ((s,v)::env) ts:=by
 intro t
 simp only [lk]
 by_cases ht:s=t
 ·subst ht;rw [if_pos rfl];exact hv
 ·rw [if_neg ht];exact h t
theorem EnvOk.put {m:Mem} {env:List (Nat × AV)} {ts:Array Value} (h:EnvOk m env ts) {s:Nat} {v:AV} {u:Value} (hs:s<ts.size) (hv:C m v u):EnvOk m ((s,v)::env) (ts.setIfInBounds s u):=by
 intro t
 simp only [lk]
 rw [Array.getD_eq_getD_getElem?,Array.getElem?_setIfInBounds]
 by_cases ht:s=t
 ·subst ht;rw [if_pos rfl,if_pos rfl,if_pos hs];exact hv
 ·rw [if_neg ht,if_neg ht,←Array.getD_eq_getD_getElem?];exact h t
theorem SInv.put (S:SInv P fid fr0 fr w0 nt m st a w) {m':Mem} {w':World} {hp':List Blk} {d:Option Nat} {v:AV} {u:Value} (hE:Ext fr m m') (hC:C m' v u) (HH:HInv fr w0 m' hp' w' []) (hd:∀ x,d=some x→x<nt):
  SInv P fid fr0 fr w0 nt m' (st.put d v hp') (a.put d u) w':=by
 have hl:st.lo≤hp'.length:=by
  have h1:=ext_len hE
  rw [S.h.len,HH.len] at h1
  exact Nat.le_trans S.l h1
 cases d with
 |none=>exact ⟨hE.le.P.trans S.P,hE.le.cd.trans S.cd,HH,S.e.mono hE.le,S.n,S.d,hl⟩
 |some d=>
  refine ⟨hE.le.P.trans S.P,hE.le.cd.trans S.cd,HH,(S.e.mono hE.le).put (Nat.lt_of_lt_of_le (hd d rfl) S.n) hC,?_,S.d,hl⟩
  simpa [Act.put] using S.n
theorem text_ok {d:Bool}:∀ (l:List SOp) (idx:List Nat) (st:St) (m:Mem) (a:Act) (w:World),Trace P fid d l st st'→idx.length=l.length →
  (∀ (k i:Nat) (so:SOp),idx[k]? = some i→l[k]? = some so→∃ o,ops[i]? = some o∧csop P fid nt ops o=some so.base) →
  SInv P fid fr0 fr w0 nt m st a w→(∀ m' a' w',Fwd fr st.lo m m'→st'.lo=st.lo→SInv P fid fr0 fr w0 nt m' st' a' w'→Q .normal a' w')→wpOpsIn (FF ro) n P ops Q idx a w
 | [],idx,st,m,a,w,ht,hl,_,S,hQ=>by
  have:idx=[]:=List.eq_nil_of_length_eq_zero (by simpa using hl)
  subst this
  cases ht
  exact hQ m a w (Fwd.refl _ _ m) rfl S
 |so::l,idx,st,m,a,w,ht,hl,hx,S,hQ=>by
  cases idx with
  |nil=>simp at hl
  |cons i idx=>
   cases ht with
   | @cons _ _ _ v hp' _ h t=>
    obtain ⟨o,ho,hcs⟩:=hx 0 i so (by simp) (by simp)
    rw [wpOpsIn_cons]
    obtain ⟨_,e2,e3,_⟩:=csop_ok hcs
    refine step_ok S.P S.cd hcs ho S.h S.e h ?_
    intro m' u w' hE hC HH
    rw [←e2]
    have S':=S.put hE hC HH (d:=so.dst) (by rw [e2];exact e3)
    have hlo:(st.put so.dst v hp').lo=st.lo:=by unfold St.put;split<;>rfl
    refine text_ok l idx (st.put so.dst v hp') m' _ w' t (by simpa using hl) (fun k j so' h1 h2=>hx (k+1) j so' (by simpa using h1) (by simpa using h2)) S' ?_
    intro m2 a2 w2 f2 e S2
    exact hQ m2 a2 w2 ((hE.fwd (by rw [S.h.len];exact S.l)).trans (by rw [←hlo];exact f2)) (e.trans hlo) S2
end
end Go.Proofs.Ytfbfbennheeglaa
