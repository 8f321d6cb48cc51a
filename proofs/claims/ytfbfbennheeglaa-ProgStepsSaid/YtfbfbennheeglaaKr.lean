import Derived.Test.YtfbfbennheeglaaKp
namespace Go.Proofs.Ytfbfbennheeglaa
set_option linter.unusedSimpArgs false
set_option linter.unusedVariables false
open Go.RowKit
theorem mem_addAll:∀ (xs acc:List Nat) (y:Nat),y∈addAll xs acc→y∈xs∨y∈acc
  | [],_,_,h=>.inr h
  |x::xs,acc,y,h=>by
    rcases mem_addAll xs _ y h with h | h
    · exact .inl (by simp [h])
    · split at h
      · exact .inr h
      · rcases List.mem_cons.1 h with h | h
        · exact .inl (by simp [h])
        · exact .inr h
theorem ancs_ok {ops:Array Oper} {L:Nat→Prop} (hL:∀ j o,L j→ops[j]? = some o→∀ e∈ons o,L e):
    ∀ (l:List Oper) (acc:List (List Nat)),(∀ k,l[k]? = ops[acc.length+k]?)→(∀ (j:Nat) o,j<acc.length→ops[j]? = some o→(∀ e∈ons o,L e)→∀ i∈acc.getD j [],L i) →
      ∀ (j:Nat) o,ops[j]? = some o→j<acc.length+l.length→(∀ e∈ons o,L e)→∀ i∈(ancs l acc).getD j [],L i
  | [],acc,_,hacc,j,o,ho,hj,he,i,hi=>hacc j o (by simpa using hj) ho he i (by simpa [ancs] using hi)
  |q::l,acc,hl,hacc,j,o,ho,hj,he,i,hi=>by
    refine ancs_ok hL l (acc++[addAll ((ons q).flatMap fun e=>acc.getD e []) (ons q)]) ?_ ?_ j o ho (by simp at hj ⊢;omega) he i (by simpa [ancs] using hi)
    · intro k
      have:=hl (k+1)
      simp at this ⊢
      rw [this]
      congr 1
      omega
    · intro j' o' hj' ho' he' i' hi'
      by_cases hlt:j'<acc.length
      · rw [List.getD_eq_getElem?_getD,List.getElem?_append_left hlt,←List.getD_eq_getElem?_getD] at hi'
        exact hacc j' o' hlt ho' he' i' hi'
      · have hje:j'=acc.length:=by simp at hj';omega
        subst hje
        rw [List.getD_eq_getElem?_getD,List.getElem?_append_right (Nat.le_refl _),Nat.sub_self,List.getElem?_cons_zero,Option.getD_some] at hi'
        have hq:o'=q:=by
          have:=hl 0
          simp at this
          rw [ho'] at this
          injection this with this;exact this.symm
        subst hq
        rcases mem_addAll _ _ _ hi' with h | h
        · simp only [List.mem_flatMap] at h
          obtain ⟨e,h1,h2⟩:=h
          have hLe:=he' e h1
          by_cases hel:e<acc.length
          · obtain ⟨oe,hoe⟩:∃ oe,ops[e]? = some oe:=by
              have:acc.length<ops.size:=(Array.getElem?_eq_some_iff.1 ho').1
              exact ⟨ops[e],Array.getElem?_eq_getElem (by omega)⟩
            exact hacc e oe hel hoe (hL e oe hLe hoe) i' h2
          · rw [List.getD_eq_getElem?_getD,List.getElem?_eq_none (by omega)] at h2
            simp at h2
        · exact he' _ h
section
variable {P:Program} {fid:FuncId→Option Nat}
theorem ev_same {env env':List (Nat × AV)} {hp hp':List Blk} {lo lo':Nat} {mk mk':List Mark}:∀ (x:SX),(∀ t∈x.tmps,lk env' t=lk env t)→St.ev ⟨env',hp',lo',mk'⟩ x=St.ev ⟨env,hp,lo,mk⟩ x
  | .tmp t,h=>h t (by simp [SX.tmps])
  | .val v,_=>rfl
theorem xo_same {env env':List (Nat × AV)} {hp hp':List Blk} {lo lo':Nat} {mk mk':List Mark}:∀ (x:Option SX),(∀ t∈xo x,lk env' t=lk env t)→x.map (St.ev ⟨env',hp',lo',mk'⟩)=x.map (St.ev ⟨env,hp,lo,mk⟩)
  |none,_=>rfl
  |some x,h=>by simp only [Option.map_some];rw [ev_same x h]
theorem xas_same {env env':List (Nat × AV)} {hp hp':List Blk} {lo lo':Nat} {mk mk':List Mark}:∀ (l:List SX),(∀ t∈xas l,lk env' t=lk env t)→l.map (St.ev ⟨env',hp',lo',mk'⟩)=l.map (St.ev ⟨env,hp,lo,mk⟩)
  | [],_=>rfl
  |x::l,h=>by
    simp only [List.map_cons]
    rw [ev_same x (fun t ht=>h t (by simp [xas,ht])),xas_same l (fun t ht=>h t (by simp [xas,ht]))]
theorem parts_same {env env':List (Nat × AV)} {hp hp':List Blk} {lo lo':Nat} {mk mk':List Mark}:∀ (l:List (Nat × Nat × SX)) (cs:List AV),(∀ t∈xps l,lk env' t=lk env t)→parts (St.ev ⟨env',hp',lo',mk'⟩) l cs=parts (St.ev ⟨env,hp,lo,mk⟩) l cs
  | [],_,_=>rfl
  | (o,s,x)::l,cs,h=>by
    simp only [parts]
    rw [ev_same x (hp:=hp) (lo:=lo) (mk:=mk) (fun t ht=>h t (by simp [xps,ht]))]
    split
    · exact parts_same l _ (fun t ht=>h t (by simp [xps,ht]))
    · rfl
theorem astep_same {env env':List (Nat × AV)} {hp hp1 hp2:List Blk} {lo lo':Nat} {mk mk':List Mark} (so:SO) (h:∀ t∈so.tmps,lk env' t=lk env t):astep hp (St.ev ⟨env',hp1,lo',mk'⟩) so=astep hp (St.ev ⟨env,hp2,lo,mk⟩) so:=by
  have e:=fun x hx=>ev_same (env:=env) (env':=env') (hp:=hp2) (hp':=hp1) (lo:=lo) (lo':=lo') (mk:=mk) (mk':=mk') x hx
  cases so<;>simp only [SO.tmps,List.mem_append] at h<;>simp only [astep]
  case move x=>rw [e x h]
  case text x=>rw [e x h]
  case room z b x=>rw [e x h]
  case pick c a b=>rw [e c (fun t ht=>h t (.inl ht)),e a (fun t ht=>h t (.inr (.inl ht))),e b (fun t ht=>h t (.inr (.inr ht)))]
  case box n x=>rw [e x h]
  case build z ps=>rw [parts_same ps z h]
  case lit m z sz len ps=>rw [parts_same ps _ h]
  case load u n x=>rw [e x h]
  case store mv n x v=>rw [e x (fun t ht=>h t (.inl ht)),e v (fun t ht=>h t (.inr ht))]
  case nilCheck x=>rw [e x h]
  case bin tc op x y=>rw [e x (fun t ht=>h t (.inl ht)),e y (fun t ht=>h t (.inr ht))]
  case isnil g x=>rw [e x h]
  case un op x=>rw [e x h]
  case conv k x=>rw [e x h]
  case same x=>rw [e x h]
  case fieldAddr o x=>rw [e x h]
  case field n o x=>rw [e x h]
  case indexAddr sz x i=>rw [e x (fun t ht=>h t (.inl ht)),e i (fun t ht=>h t (.inr ht))]
  case indexArr len sz x i=>rw [e x (fun t ht=>h t (.inl ht)),e i (fun t ht=>h t (.inr ht))]
  case indexV q len sz x i=>rw [e x (fun t ht=>h t (.inl ht)),e i (fun t ht=>h t (.inr ht))]
  case index x i=>rw [e x (fun t ht=>h t (.inl ht)),e i (fun t ht=>h t (.inr ht))]
  case slice sz x lo hi mx=>rw [e x (fun t ht=>h t (.inl ht)),xo_same lo (fun t ht=>h t (.inr (.inl ht))),xo_same hi (fun t ht=>h t (.inr (.inr (.inl ht)))),xo_same mx (fun t ht=>h t (.inr (.inr (.inr ht))))]
  case slices x lo hi=>rw [e x (fun t ht=>h t (.inl ht)),xo_same lo (fun t ht=>h t (.inr (.inl ht))),xo_same hi (fun t ht=>h t (.inr (.inr ht)))]
  case extract i x=>rw [e x h]
  case len s x=>rw [e x h]
  case append sz b s x=>rw [e s (fun t ht=>h t (.inl ht)),e x (fun t ht=>h t (.inr ht))]
  case make z b n=>rw [e n h]
  case clear z x=>rw [e x h]
  case copy sz s x=>rw [e s (fun t ht=>h t (.inl ht)),e x (fun t ht=>h t (.inr ht))]
  case mm b x y=>rw [e x (fun t ht=>h t (.inl ht)),e y (fun t ht=>h t (.inr ht))]
  case fn f fs cs=>rw [xas_same fs (fun t ht=>h t (.inl ht)),xas_same cs (fun t ht=>h t (.inr ht))]
  case iface t x=>rw [e x h]
  case assert t x=>rw [e x h]
  case look u kc z ok x i=>rw [e x (fun t ht=>h t (.inl ht)),e i (fun t ht=>h t (.inr ht))]
  case upd kc x k v=>rw [e x (fun t ht=>h t (.inl ht)),e k (fun t ht=>h t (.inr (.inl ht))),e v (fun t ht=>h t (.inr (.inr ht)))]
  case rng x=>rw [e x h]
  case appz z b s x=>rw [e s (fun t ht=>h t (.inl ht)),e x (fun t ht=>h t (.inr ht))]
  case cap x=>rw [e x h]
  case entry x=>rw [e x h]
theorem recv_same {env env':List (Nat × AV)} {hp hp' hp0 hp1:List Blk} {lo lo':Nat} {mk mk':List Mark} {so:SO} {q:Md × Nat × List AV} (h:∀ t∈so.tmps,lk env' t=lk env t) (ho:Recv (St.ev ⟨env,hp,lo,mk⟩) hp0 so q hp1):Recv (St.ev ⟨env',hp',lo',mk'⟩) hp0 so q hp1:=by
  cases ho with
  | @mk md x ms as t v k rk r hx hm hr=>
    rw [←xas_same (env:=env) (env':=env') (hp:=hp) (hp':=hp') (lo:=lo) (lo':=lo') (mk:=mk) (mk':=mk') as (fun t ht=>h t (by simp [SO.tmps,ht]))]
    exact .mk (by rw [ev_same (env:=env) (env':=env') (hp:=hp) (hp':=hp') (lo:=lo) (lo':=lo') (mk:=mk) (mk':=mk') x (fun t ht=>h t (by simp [SO.tmps,ht]))];exact hx) hm hr
theorem callee_same {env env':List (Nat × AV)} {hp hp':List Blk} {lo lo':Nat} {mk mk':List Mark} (so:SO) (h:∀ t∈so.tmps,lk env' t=lk env t):so.callee (St.ev ⟨env',hp',lo',mk'⟩)=so.callee (St.ev ⟨env,hp,lo,mk⟩):=by
  cases so<;>simp only [SO.tmps,List.mem_append] at h<;>simp only [SO.callee]
  case call md k as=>rw [xas_same as h]
  case callf md x as=>rw [ev_same x (fun t ht=>h t (.inl ht)),xas_same as (fun t ht=>h t (.inr ht))]
theorem wanted_same {env env':List (Nat × AV)} {o:SOp} (h:∀ t∈o.looks,lk env' t=lk env t):wanted env' o.guard=wanted env o.guard:=by
  cases hg:o.guard with
  |none=>rfl
  |some p=>
    obtain ⟨t,b⟩:=p
    simp only [wanted]
    rw [h t (by simp [SOp.looks,hg])]
def SO.reads (ev:SX→AV):SO→List Nat
  | .load _ _ x | .len _ x | .isnil _ x | .indexAddr _ x _ | .slice _ x _ _ _ | .look _ _ _ _ x _=>(ev x).ids
  | .call _ _ as=>idsL (as.map ev)
  | .callf _ x as=>(ev x).ids++idsL (as.map ev)
  |_=>[]
theorem rowc_on {hp hp2:List Blk} {id:Nat} {cs:List AV} (h:rowc hp id=some cs) (hA:∀ b,hp[id]? = some b→hp2[id]? = some b):rowc hp2 id=some cs:=by
  simp only [rowc,obI] at h ⊢
  obtain ⟨b,h1,h2⟩:=h
  exact ⟨b,hA b h1,h2⟩
mutual
theorem fz_on {hp hp2:List Blk}:∀ x y,(∀ id∈x.ids,∀ b,hp[id]? = some b→hp2[id]? = some b)→fz hp x=some y→fz hp2 x=some y
  | .own sz id,y,hA,h=>by
    simp only [fz,obI] at h ⊢
    obtain ⟨cs,h1,h2⟩:=h
    exact ⟨cs,rowc_on h1 (hA id (by simp [AV.ids])),h2⟩
  | .osl sz id o n,y,hA,h=>by
    simp only [fz,obI] at h ⊢
    obtain ⟨cs,h1,h2⟩:=h
    exact ⟨cs,rowc_on h1 (hA id (by simp [AV.ids])),h2⟩
  | .ref id off,y,hA,h=>by
    simp only [fz,obI] at h ⊢
    obtain ⟨cs,h1,h2⟩:=h
    exact ⟨cs,rowc_on h1 (hA id (by simp [AV.ids])),h2⟩
  | .agg cs,y,hA,h=>by
    simp only [fz,omI] at h ⊢
    obtain ⟨q,h1,h2⟩:=h
    exact ⟨q,fzL_on cs q (by simpa only [AV.ids] using hA) h1,h2⟩
  | .tup cs,y,hA,h=>by
    simp only [fz,omI] at h ⊢
    obtain ⟨q,h1,h2⟩:=h
    exact ⟨q,fzL_on cs q (by simpa only [AV.ids] using hA) h1,h2⟩
  | .clo f fs cs,y,hA,h=>by
    simp only [fz,obI,omI] at h ⊢
    obtain ⟨q,h1,r,h2,h3⟩:=h
    exact ⟨q,fzL_on fs q (fun i hi=>hA i (by simp [AV.ids,hi])) h1,r,fzL_on cs r (fun i hi=>hA i (by simp [AV.ids,hi])) h2,h3⟩
  | .ifc t x,y,hA,h=>by
    simp only [fz,omI] at h ⊢
    obtain ⟨q,h1,h2⟩:=h
    exact ⟨q,fz_on x q (by simpa only [AV.ids] using hA) h1,h2⟩
  | .nils,y,_,h | .sl _ _,y,_,h | .ip _,y,_,h | .unk,y,_,h | .mref _,y,_,h | .yld _,y,_,h | .vec _ _,y,_,h | .box _,y,_,h | .mp _ _,y,_,h
  | .any,y,_,h | .maybe _ _,y,_,h | .bool _,y,_,h | .int _ _,y,_,h | .str _,y,_,h | .nilp,y,_,h | .nilf,y,_,h | .nili,y,_,h | .nilm,y,_,h=>by simpa only [fz] using h
theorem fzL_on {hp hp2:List Blk}:∀ xs ys,(∀ id∈idsL xs,∀ b,hp[id]? = some b→hp2[id]? = some b)→fzL hp xs=some ys→fzL hp2 xs=some ys
  | [],_,_,h=>by simpa only [fzL] using h
  |x::xs,ys,hA,h=>by
    simp only [fzL,obI,omI] at h ⊢
    obtain ⟨y,h1,q,h2,h3⟩:=h
    exact ⟨y,fz_on x y (fun i hi=>hA i (by simp [idsL,hi])) h1,q,fzL_on xs q (fun i hi=>hA i (by simp [idsL,hi])) h2,h3⟩
end
mutual
theorem C_ids {m:Mem}:∀ (x:AV) (u:Value),C m x u→∀ id∈x.ids,id<m.bl.length
  | .own _ _,u,h | .osl _ _ _ _,u,h | .ref _ _,u,h | .mref _,u,h | .yld _,u,h=>by
    intro i hi
    simp [AV.ids] at hi
    subst hi
    simp only [C] at h
    obtain ⟨e,he,_⟩:=h
    exact (List.getElem?_eq_some_iff.1 he).1
  | .agg cs,u,h=>by
    simp only [C] at h
    obtain ⟨_,vs,_,_,h⟩:=h
    simpa only [AV.ids] using CL_ids cs _ h
  | .tup cs,u,h=>by
    simp only [C] at h
    obtain ⟨vs,_,_,h⟩:=h
    simpa only [AV.ids] using CL_ids cs _ h
  | .sl _ cs,u,h=>by
    simp only [C] at h
    obtain ⟨_,a,n,c,_,_,_,_,h⟩:=h
    by_cases hc:cs=[]
    · subst hc;simp [AV.ids,idsL]
    · obtain ⟨b,o,_,h⟩:=h hc
      simpa only [AV.ids] using CL_ids cs _ h
  | .ip cs,u,h=>by
    simp only [C] at h
    obtain ⟨_,b,o,_,h⟩:=h
    simpa only [AV.ids] using CL_ids cs _ h
  | .clo _ a b,u,h=>by
    simp only [C] at h
    obtain ⟨_,_,_,_,_,_,_,h1,h2⟩:=h
    intro i hi
    simp only [AV.ids,List.mem_append] at hi
    rcases hi with hi | hi
    · exact CL_ids a _ h1 i hi
    · exact CL_ids b _ h2 i hi
  | .ifc t x,u,h=>by
    simp only [C] at h
    obtain ⟨v,_,h⟩:=h
    simpa only [AV.ids] using C_ids x v h
  | .vec _ _,u,h | .box _,u,h | .mp _ _,u,h=>by simp only [C] at h
  | .unk,_,_ | .any,_,_ | .maybe _ _,_,_ | .bool _,_,_ | .int _ _,_,_ | .str _,_,_ | .nils,_,_ | .nilp,_,_ | .nilf,_,_ | .nili,_,_ | .nilm,_,_=>by simp [AV.ids]
theorem CL_ids {m:Mem}:∀ (xs:List AV) (g:Nat→Option Value),CL m xs g→∀ id∈idsL xs,id<m.bl.length
  | [],_,_=>by simp [idsL]
  |x::xs,g,h=>by
    simp only [CL] at h
    obtain ⟨⟨u,_,hu⟩,h⟩:=h
    intro id hi
    simp only [idsL,List.mem_append] at hi
    rcases hi with hi | hi
    · exact C_ids x u hu id hi
    · exact CL_ids xs _ h id hi
end
theorem light_on {ev:SX→AV} {hp hp2:List Blk} {so:SO} {r:AV × List Blk} (hh:so.heavy=false) (hA:so.isLoad=true→∀ id∈so.reads ev,∀ b,hp[id]? = some b→hp2[id]? = some b) (h:astep hp ev so=some r):r.2=hp∧astep hp2 ev so=some (r.1,hp2):=by
  cases so<;>simp only [SO.heavy,reduceCtorEq] at hh<;>simp only [astep] at h ⊢
  case move x=>injection h with h;subst h;exact ⟨rfl,rfl⟩
  case pick c a b=>split at h<;>cases h;exact ⟨rfl,rfl⟩
  case build z ps=>simp only [omI] at h ⊢;obtain ⟨x,h1,rfl⟩:=h;exact ⟨rfl,x,h1,rfl⟩
  case lit m z sz len ps=>
    subst hh
    simp only [obI,Bool.false_eq_true,if_false] at h ⊢
    obtain ⟨cs,hcs,h⟩:=h
    split at h
    · rename_i hi
      cases h
      exact ⟨rfl,cs,hcs,by rw [if_pos hi]⟩
    · cases h
  case load u n x=>
    subst hh
    have hA:=hA rfl
    simp only [SO.reads] at hA
    split at h
    · simp only [omI] at h ⊢;obtain ⟨x,h1,rfl⟩:=h;exact ⟨rfl,x,h1,rfl⟩
    · rename_i id o hx
      rw [hx] at hA
      split at h
      · rename_i q cs hb
        rw [hA id (by simp [AV.ids]) _ hb]
        simp only [Bool.false_eq_true,if_false,obI] at h ⊢
        obtain ⟨v,h1,h2⟩:=h
        split at h2
        · rename_i hv;cases h2;exact ⟨rfl,v,h1,by rw [if_pos hv]⟩
        · cases h2
      · cases h
    · cases h
  case isnil g x=>
    have hA:=hA rfl
    simp only [SO.reads] at hA
    split at h
    · cases h;exact ⟨rfl,rfl⟩
    · cases h;exact ⟨rfl,rfl⟩
    · rename_i hx
      rw [hx] at hA
      simp only [omI] at h ⊢
      obtain ⟨cs,h1,rfl⟩:=h
      exact ⟨rfl,cs,rowc_on h1 (hA _ (by simp [AV.ids])),rfl⟩
    · cases h;exact ⟨rfl,rfl⟩
    · cases h
  case nilCheck x=>split at h<;>cases h<;>exact ⟨rfl,rfl⟩
  case bin tc op x y=>simp only [omI] at h ⊢;obtain ⟨x,h1,rfl⟩:=h;exact ⟨rfl,x,h1,rfl⟩
  case un op x=>split at h<;>cases h<;>exact ⟨rfl,rfl⟩
  case conv k x=>split at h<;>cases h<;>exact ⟨rfl,rfl⟩
  case same x=>split at h<;>cases h<;>exact ⟨rfl,rfl⟩
  case fieldAddr o x=>split at h<;>cases h<;>exact ⟨rfl,rfl⟩
  case field n o x=>
    split at h
    · simp only [omI] at h ⊢;obtain ⟨x,h1,rfl⟩:=h;exact ⟨rfl,x,h1,rfl⟩
    · cases h
  case indexAddr sz x i=>
    have hA:=hA rfl
    simp only [SO.reads] at hA
    split at h
    · split at h
      · split at h
        · rename_i hs hc;cases h;exact ⟨rfl,by rw [if_pos hs,if_pos hc]⟩
        · cases h
      · cases h
    · rename_i hx _
      rw [hx] at hA
      simp only [obI] at h ⊢
      obtain ⟨cs,h1,h⟩:=h
      split at h
      · split at h
        · rename_i hs hc;cases h;exact ⟨rfl,cs,rowc_on h1 (hA _ (by simp [AV.ids])),by rw [if_pos hs,if_pos hc]⟩
        · cases h
      · cases h
    · split at h
      · split at h
        · rename_i hs hc;cases h;exact ⟨rfl,by rw [if_pos hs,if_pos hc]⟩
        · cases h
      · cases h
    · cases h
  case indexV q len sz x i=>
    split at h
    · split at h
      · rename_i hc
        simp only [omI] at h
        obtain ⟨z,h1,rfl⟩:=h
        exact ⟨rfl,by rw [if_pos hc,h1];rfl⟩
      · cases h
    · cases h
  case indexArr len sz x i=>
    split at h
    · split at h
      · rename_i hc;cases h;exact ⟨rfl,by rw [if_pos hc]⟩
      · cases h
    · split at h
      · rename_i hc;cases h;exact ⟨rfl,by rw [if_pos hc]⟩
      · cases h
    · cases h
  case index x i=>
    split at h
    · split at h
      · rename_i hc
        rw [if_pos hc]
        simp only [omI] at h ⊢;obtain ⟨x,h1,rfl⟩:=h;exact ⟨rfl,x,h1,rfl⟩
      · cases h
    · cases h
  case slice sz x lo hi mx=>
    have hA:=hA rfl
    simp only [SO.reads] at hA
    split at h
    · split at h
      · cases h
      · rename_i hm
        rw [if_neg hm]
        simp only [omI] at h ⊢;obtain ⟨x,h1,rfl⟩:=h;exact ⟨rfl,x,h1,rfl⟩
    · split at h
      · rename_i hc
        rw [if_pos hc]
        simp only [omI] at h ⊢;obtain ⟨x,h1,rfl⟩:=h;exact ⟨rfl,x,h1,rfl⟩
      · cases h
    · rename_i hx
      rw [hx] at hA
      split at h
      · rename_i hc
        rw [if_pos hc]
        simp only [obI,omI] at h ⊢
        obtain ⟨cs,h0,x,h1,rfl⟩:=h
        exact ⟨rfl,cs,rowc_on h0 (hA _ (by simp [AV.ids])),x,h1,rfl⟩
      · cases h
    · rename_i hx
      rw [hx] at hA
      split at h
      · rename_i hc
        rw [if_pos hc]
        simp only [obI] at h ⊢
        obtain ⟨cs,h0,h⟩:=h
        split at h
        · rename_i hn
          simp only [omI] at h
          obtain ⟨x,h1,rfl⟩:=h
          exact ⟨rfl,cs,rowc_on h0 (hA _ (by simp [AV.ids])),by rw [if_pos hn,h1];rfl⟩
        · cases h
      · cases h
    · cases h
  case slices x lo hi=>
    split at h
    · simp only [omI] at h ⊢;obtain ⟨x,h1,rfl⟩:=h;exact ⟨rfl,x,h1,rfl⟩
    · cases h
  case extract i x=>
    split at h
    · simp only [omI] at h ⊢;obtain ⟨x,h1,rfl⟩:=h;exact ⟨rfl,x,h1,rfl⟩
    · cases h
  case len s x=>
    have hA:=hA rfl
    simp only [SO.reads] at hA
    split at h
    · split at h
      · rename_i hc;cases h;exact ⟨rfl,by simp [hc]⟩
      · cases h
    · split at h
      · cases h
      · rename_i hx _ hc
        simp only [omI] at h
        obtain ⟨k,h1,rfl⟩:=h
        refine ⟨rfl,?_⟩
        have h2:sln hp2 (ev x)=some k:=by
          cases hq:ev x<;>rw [hq] at h1 hA<;>simp only [sln,reduceCtorEq] at h1 ⊢
          · exact h1
          · exact h1
          · simp only [omI] at h1 ⊢
            obtain ⟨cs,h3,h4⟩:=h1
            exact ⟨cs,rowc_on h3 (hA _ (by simp [AV.ids])),h4⟩
          · exact h1
        rw [if_neg hc,h2];rfl
  case mm b x y=>
    split at h
    · split at h
      · rename_i hc;cases h;exact ⟨rfl,by rw [if_pos hc]⟩
      · cases h
    · cases h
  case fn f fs cs=>cases h;exact ⟨rfl,rfl⟩
  case iface t x=>cases h;exact ⟨rfl,rfl⟩
  case assert t x=>
    split at h
    · split at h
      · rename_i hc;cases h;exact ⟨rfl,by rw [if_pos hc]⟩
      · cases h
    · cases h
  case cap x=>
    split at h
    · cases h;exact ⟨rfl,rfl⟩
    · cases h
  case look u kc z ok x i=>
    subst hh
    have hA:=hA rfl
    simp only [SO.reads] at hA
    split at h
    · rename_i id hx
      rw [hx] at hA
      split at h
      · rename_i ks vs hb
        rw [hA id (by simp [AV.ids]) _ hb]
        simp only [Bool.false_eq_true,if_false,obI] at h ⊢
        obtain ⟨f,h1,h2⟩:=h
        cases f with
        |none=>injection h2 with h2;subst h2;exact ⟨rfl,none,h1,rfl⟩
        |some j=>
          simp only [obI] at h2
          obtain ⟨y,h3,h4⟩:=h2
          split at h4
          · rename_i hni
            injection h4 with h4;subst h4
            exact ⟨rfl,some j,h1,by simp only [h3,Option.bind_some,if_pos hni]⟩
          · cases h4
      · cases h
    · cases h
  all_goals simp at h
mutual
theorem thaw_app:∀ (hp:List Blk) (v:AV),∃ l,(thaw hp v).2=hp++l
  |hp,.vec _ cs=>⟨_,rfl⟩
  |hp,.box cs=>⟨_,rfl⟩
  |hp,.agg cs=>by simp only [thaw];exact thawL_app hp cs
  |hp,.tup cs=>by simp only [thaw];exact thawL_app hp cs
  |hp,.clo _ a b=>by
    simp only [thaw]
    obtain ⟨l1,h1⟩:=thawL_app hp a
    obtain ⟨l2,h2⟩:=thawL_app (thawL hp a).2 b
    exact ⟨l1++l2,by rw [h2,h1,List.append_assoc]⟩
  |hp,.ifc _ x=>by simp only [thaw];exact thaw_app hp x
  |hp,.unk | hp,.any | hp,.maybe _ _ | hp,.bool _ | hp,.int _ _ | hp,.str _ | hp,.nils | hp,.nilp | hp,.nilf | hp,.nili | hp,.nilm | hp,.sl _ _ | hp,.ip _ | hp,.own _ _ | hp,.osl _ _ _ _ | hp,.ref _ _ | hp,.mref _ | hp,.yld _ | hp,.mp _ _=>⟨[],by simp [thaw]⟩
theorem thawL_app:∀ (hp:List Blk) (vs:List AV),∃ l,(thawL hp vs).2=hp++l
  |hp,[]=>⟨[],by simp [thawL]⟩
  |hp,v::vs=>by
    obtain ⟨l1,h1⟩:=thaw_app hp v
    obtain ⟨l2,h2⟩:=thawL_app (thaw hp v).2 vs
    exact ⟨l1++l2,by simp only [thawL];rw [h2,h1,List.append_assoc]⟩
end
end
def envT (l:List SOp) (vals:Nat→AV) (env:List (Nat × AV)):Nat→List (Nat × AV)
  |0=>env
  |i+1=>match (l[i]?).bind (·.dst) with
    |some d=>(d,vals i)::envT l vals env i
    |none=>envT l vals env i
section
variable {P:Program} {fid:FuncId→Option Nat} {fr0 fr:Nat→Prop} {w0:World} {nt:Nat} {ro:Option Nat} {n:Nat}
theorem envT_cons (o:SOp) (l:List SOp) (v:AV) (vals:Nat→AV) (st:St) (hp':List Blk):∀ i,envT (o::l) (fun i=>match i with | 0=>v | i+1=>vals i) st.env (i+1)=envT l vals (st.put o.dst v hp').env i
  |0=>by
    simp only [envT,List.getElem?_cons_zero,Option.bind_some,St.put]
    cases o.dst<;>rfl
  |i+1=>by
    have ih:=envT_cons o l v vals st hp' i
    rw [envT,ih]
    simp only [List.getElem?_cons_succ]
    rw [envT]
theorem trace_fn {d:Bool} {l:List SOp} {st st':St} (h:Trace P fid d l st st'):∃ (vals:Nat→AV) (hps:Nat→List Blk),hps 0=st.hp ∧
    (∀ (i:Nat) so,l[i]? = some so→Step P fid d so ⟨envT l vals st.env i,hps i,st.lo,st.mks⟩ (vals i) (hps (i+1)))∧st'=⟨envT l vals st.env l.length,hps l.length,st.lo,st.mks⟩:=by
  induction h with
  |nil=>exact ⟨fun _=>.unk,fun _=>_,rfl,by simp,rfl⟩
  | @cons o l st v hp' st' h t ih=>
    obtain ⟨vals,hps,h0,hs,he⟩:=ih
    have hhp:(st.put o.dst v hp').hp=hp':=by unfold St.put;split<;>rfl
    have hlo:(st.put o.dst v hp').lo=st.lo:=by unfold St.put;split<;>rfl
    have hmk:(st.put o.dst v hp').mks=st.mks:=by unfold St.put;split<;>rfl
    refine ⟨fun i=>match i with | 0=>v | i+1=>vals i,fun i=>match i with | 0=>st.hp | i+1=>hps i,rfl,?_,?_⟩
    · intro i so hi
      cases i with
      |zero=>
        simp at hi
        subst hi
        simp only [envT]
        rw [show hps 0=hp' from h0.trans hhp]
        exact h
      |succ i=>
        simp only [List.getElem?_cons_succ] at hi
        rw [envT_cons (hp':=hp')]
        rw [←hlo,←hmk]
        exact hs i so hi
    · rw [List.length_cons,envT_cons (hp':=hp'),←hlo,←hmk]
      exact he
theorem envT_miss {l:List SOp} {vals:Nat→AV} {env:List (Nat × AV)} {t:Nat}:∀ i,(∀ (j:Nat) so,j<i→l[j]? = some so→so.dst≠some t)→lk (envT l vals env i) t=lk env t
  |0,_=>rfl
  |i+1,h=>by
    have ih:=envT_miss (vals:=vals) (env:=env) i (fun j so hj=>h j so (by omega))
    simp only [envT]
    split
    · rename_i d hd
      simp only [obI] at hd
      obtain ⟨so,hso,hd⟩:=hd
      have:d≠t:=fun e=>h i so (by omega) hso (by rw [hd,e])
      simp only [lk,if_neg this]
      exact ih
    · exact ih
theorem envT_hit {l:List SOp} {vals:Nat→AV} {env:List (Nat × AV)} {t j:Nat} {sj:SOp} (hj:l[j]? = some sj) (hd:sj.dst=some t):∀ i,j<i→(∀ (j':Nat) so,j<j'→j'<i→l[j']? = some so→so.dst≠some t)→lk (envT l vals env i) t=vals j
  |0,h,_=>by omega
  |i+1,hlt,h=>by
    by_cases hji:j=i
    · subst hji
      simp only [envT,hj,Option.bind_some,hd,lk,if_true]
    · have ih:=envT_hit hj hd (vals:=vals) (env:=env) i (by omega) (fun j' so h1 h2=>h j' so h1 (by omega))
      simp only [envT]
      split
      · rename_i d' hd'
        simp only [obI] at hd'
        obtain ⟨so,hso,hd'⟩:=hd'
        have:d'≠t:=fun e=>h i so (by omega) (by omega) hso (by rw [hd',e])
        simp only [lk,if_neg this]
        exact ih
      · exact ih
theorem step_light {so:SOp} {env env':List (Nat × AV)} {hp hp2:List Blk} {lo lo':Nat} {mk mk':List Mark} {v:AV} {hp':List Blk} (hh:so.op.heavy=false) (h:Step P fid true so ⟨env,hp,lo,mk⟩ v hp') (he:∀ t∈so.looks,lk env' t=lk env t)
    (hA:so.op.isLoad=true→∀ id∈so.op.reads (St.ev ⟨env,hp,lo,mk⟩),∀ b,hp[id]? = some b→hp2[id]? = some b):
    hp'=hp∧Step P fid true so ⟨env',hp2,lo',mk'⟩ v hp2:=by
  have hwant:wanted env' so.guard=wanted env so.guard:=wanted_same he
  have he':∀ t∈so.op.tmps,lk env' t=lk env t:=fun t ht=>he t (by simp [SOp.looks,ht])
  cases h with
  |skip hw=>exact ⟨rfl,.skip (by rw [hwant];exact hw)⟩
  | @op r hw ha=>
    obtain ⟨k1,k2⟩:=light_on (hp2:=hp2) hh hA ha
    refine ⟨k1,Step.op (r:=(r.1,hp2)) (by rw [hwant];exact hw) ?_⟩
    rw [←k2]
    exact astep_same so.op he'
  | @call md k vs v hp' hw ho hc=>
    have hmd:md=.quiet∧so.op.isLoad=true∧∀ id∈idsL vs,id∈so.op.reads (St.ev ⟨env,hp,lo,mk⟩):=by
      cases hop:so.op with
      |call md' k' as=>
        rw [hop] at ho hh
        simp only [SO.callee,Option.some.injEq,Prod.mk.injEq] at ho
        obtain ⟨rfl,rfl,rfl⟩:=ho
        simp only [SO.heavy] at hh
        cases md'<;>simp [Md.isQuiet] at hh
        exact ⟨rfl,rfl,fun id h=>h⟩
      |callf md' x as=>
        rw [hop] at ho hh
        simp only [SO.callee] at ho
        split at ho
        · rename_i k' fs cs hx
          simp only [Option.some.injEq,Prod.mk.injEq] at ho
          obtain ⟨rfl,rfl,rfl⟩:=ho
          simp only [SO.heavy] at hh
          cases md'<;>simp [Md.isQuiet] at hh
          refine ⟨rfl,rfl,fun id h=>?_⟩
          simp only [SO.reads,hx,AV.ids,List.mem_append]
          have:∀ (a b:List AV),idsL (a++b)=idsL a++idsL b:=by
            intro a b
            induction a with
            |nil=>rfl
            |cons x xs ih=>simp [idsL,ih]
          rw [this,this] at h
          simp only [List.mem_append] at h
          rcases h with (h | h) | h
          · exact .inl (.inl h)
          · exact .inr h
          · exact .inl (.inr h)
        · cases ho
      |_=>rw [hop] at ho;simp [SO.callee] at ho
    obtain ⟨rfl,hl,hids⟩:=hmd
    cases hc with
    | @quiet ps r hf hr h1 h2=>
      refine ⟨rfl,.call (by rw [hwant];exact hw) (by rw [callee_same so.op he'];exact ho) ?_⟩
      exact .quiet (fzL_on _ _ (fun id hi b hb=>hA hl id (hids id hi) b hb) hf) hr h1 h2
  | @round x as id v hp' hw ho hx hr=>rw [ho] at hh;simp [SO.heavy,Md.isQuiet] at hh
  | @invk q hp1 v hp' hw ho hc=>
    exfalso
    generalize so.op=op at hh ho
    cases ho
    simp [SO.heavy] at hh
theorem step_env {so:SOp} {env env':List (Nat × AV)} {hp:List Blk} {lo lo':Nat} {mk mk':List Mark} {v:AV} {hp':List Blk} (h:Step P fid true so ⟨env,hp,lo,mk⟩ v hp') (he:∀ t∈so.looks,lk env' t=lk env t):Step P fid true so ⟨env',hp,lo',mk'⟩ v hp':=by
  have hwant:wanted env' so.guard=wanted env so.guard:=wanted_same he
  have he':∀ t∈so.op.tmps,lk env' t=lk env t:=fun t ht=>he t (by simp [SOp.looks,ht])
  cases h with
  |skip hw=>exact .skip (by rw [hwant];exact hw)
  | @op r hw ha=>exact .op (by rw [hwant];exact hw) (by rw [←ha];exact astep_same so.op he')
  | @call md k vs v hp' hw ho hc=>exact .call (by rw [hwant];exact hw) (by rw [callee_same so.op he'];exact ho) hc
  | @round x as id v hp' hw ho hx hr=>
    have hxe:=ev_same (env:=env) (env':=env') (hp:=hp) (hp':=hp) (lo:=lo) (lo':=lo') (mk:=mk) (mk':=mk') x (fun t ht=>he' t (by rw [ho];simp [SO.tmps,ht]))
    have hae:=xas_same (env:=env) (env':=env') (hp:=hp) (hp':=hp) (lo:=lo) (lo':=lo') (mk:=mk) (mk':=mk') as (fun t ht=>he' t (by rw [ho];simp [SO.tmps,ht]))
    exact .round (by rw [hwant];exact hw) ho (by rw [hxe];exact hx) (by rw [hae];exact hr)
  | @invk q hp1 v hp' hw ho hc=>exact .invk (by rw [hwant];exact hw) (recv_same he' ho) hc
theorem step_hp {so:SOp} {st:St} {v:AV} {hp':List Blk} (hh:so.op.heavy=false) (h:Step P fid true so st v hp'):hp'=st.hp:=
  (step_light (hp2:=st.hp) (env':=st.env) (lo':=st.lo) (mk':=st.mks) hh h (fun _ _=>rfl) (fun _ _ _ _ h=>h)).1
theorem step_grows {so:SOp} {st:St} {v:AV} {hp':List Blk} (hs:so.op.heavy=true→so.op.grows=true) (h:Step P fid true so st v hp'):∃ l,hp'=st.hp++l:=by
  by_cases hh:so.op.heavy=true
  · have hg:=hs hh
    cases h with
    |skip hw=>exact ⟨[],by simp⟩
    | @op r hw ha=>
      cases hop:so.op with
      |alloc z=>rw [hop] at ha;simp only [astep] at ha;cases ha;exact ⟨_,rfl⟩
      |make z bytes x=>
        rw [hop] at ha;simp only [astep] at ha
        split at ha
        · split at ha<;>cases ha
          exact ⟨_,rfl⟩
        · cases ha
      |call md k as=>rw [hop] at ha;simp [astep] at ha
      |callf md k as=>rw [hop] at ha;simp [astep] at ha
      |_=>rw [hop] at hg;simp [SO.grows] at hg
    | @call md k vs v hp' hw ho hc=>
      have hmd:md=.plain:=by
        cases hop:so.op with
        |call md' k' as=>
          rw [hop] at ho hg
          simp only [SO.callee,Option.some.injEq,Prod.mk.injEq] at ho
          obtain ⟨rfl,_⟩:=ho
          cases md'<;>simp [SO.grows] at hg
          rfl
        |callf md' x as=>
          rw [hop] at ho hg
          simp only [SO.callee] at ho
          split at ho
          · simp only [Option.some.injEq,Prod.mk.injEq] at ho
            obtain ⟨rfl,_⟩:=ho
            cases md'<;>simp [SO.grows] at hg
            rfl
          · cases ho
        |_=>rw [hop] at ho;simp [SO.callee] at ho
      subst hmd
      cases hc with
      | @plain ps r hf hr hd=>
        simp only [Bool.not_true,Bool.false_or,Bool.or_eq_true,Bool.and_eq_true,List.isEmpty_iff] at hd
        replace hd:=hd.1
        have:(if noimm r.1=true then st.hp else still st.hp (idsL vs))=st.hp:=by
          split
          · rfl
          · rename_i hn
            rw [hd.resolve_left hn];rfl
        rw [this]
        exact thaw_app _ _
    | @round x as id v hp' hw ho hx hr=>rw [ho] at hg;simp [SO.grows] at hg
    | @invk q hp1 v hp' hw ho hc=>
      exfalso
      generalize so.op=op at hg ho
      cases ho
      simp [SO.grows] at hg
  · exact ⟨[],by rw [step_hp (by simpa using hh) h];simp⟩
mutual
theorem thaw_new:∀ (x:AV) (hp:List Blk),x.allv pnoid=true→∀ id∈(thaw hp x).1.ids,hp.length≤id
  | .vec sz cs,hp,h,id,hi=>by simp [thaw,AV.ids] at hi;omega
  | .box cs,hp,h,id,hi=>by simp [thaw,AV.ids] at hi;omega
  | .agg cs,hp,h,id,hi=>by
    simp only [AV.allv,Bool.and_eq_true] at h
    simp only [thaw,AV.ids] at hi
    exact thawL_new cs hp h.2 id hi
  | .tup cs,hp,h,id,hi=>by
    simp only [AV.allv,Bool.and_eq_true] at h
    simp only [thaw,AV.ids] at hi
    exact thawL_new cs hp h.2 id hi
  | .clo f fs cs,hp,h,id,hi=>by
    simp only [AV.allv,Bool.and_eq_true] at h
    simp only [thaw,AV.ids,List.mem_append] at hi
    rcases hi with hi | hi
    · exact thawL_new fs hp h.2.1 id hi
    · have:=thawL_new cs _ h.2.2 id hi
      obtain ⟨l,hl⟩:=thawL_app hp fs
      rw [hl,List.length_append] at this
      omega
  | .ifc t v,hp,h,id,hi=>by
    simp only [AV.allv,Bool.and_eq_true] at h
    simp only [thaw,AV.ids] at hi
    exact thaw_new v hp h.2 id hi
  | .sl sz cs,hp,h,id,hi=>by simp only [thaw] at hi;rw [noid_ids _ h] at hi;cases hi
  | .ip cs,hp,h,id,hi=>by simp only [thaw] at hi;rw [noid_ids _ h] at hi;cases hi
  | .mp ks vs,hp,h,id,hi=>by simp only [thaw] at hi;rw [noid_ids _ h] at hi;cases hi
  | .unk,hp,h,id,hi=>by simp [thaw,AV.ids] at hi
  | .any,hp,h,id,hi=>by simp [thaw,AV.ids] at hi
  | .maybe _ _,hp,h,id,hi=>by simp [thaw,AV.ids] at hi
  | .bool _,hp,h,id,hi=>by simp [thaw,AV.ids] at hi
  | .int _ _,hp,h,id,hi=>by simp [thaw,AV.ids] at hi
  | .str _,hp,h,id,hi=>by simp [thaw,AV.ids] at hi
  | .nils,hp,h,id,hi=>by simp [thaw,AV.ids] at hi
  | .nilp,hp,h,id,hi=>by simp [thaw,AV.ids] at hi
  | .nilf,hp,h,id,hi=>by simp [thaw,AV.ids] at hi
  | .nili,hp,h,id,hi=>by simp [thaw,AV.ids] at hi
  | .nilm,hp,h,id,hi=>by simp [thaw,AV.ids] at hi
  | .own _ _,hp,h,id,hi=>by simp [AV.allv,pnoid] at h
  | .osl _ _ _ _,hp,h,id,hi=>by simp [AV.allv,pnoid] at h
  | .ref _ _,hp,h,id,hi=>by simp [AV.allv,pnoid] at h
  | .mref _,hp,h,id,hi=>by simp [AV.allv,pnoid] at h
  | .yld _,hp,h,id,hi=>by simp [AV.allv,pnoid] at h
theorem thawL_new:∀ (xs:List AV) (hp:List Blk),allL pnoid xs=true→∀ id∈idsL (thawL hp xs).1,hp.length≤id
  | [],hp,h,id,hi=>by simp [thawL,idsL] at hi
  |x::xs,hp,h,id,hi=>by
    simp only [allL,Bool.and_eq_true] at h
    simp only [thawL,idsL,List.mem_append] at hi
    rcases hi with hi | hi
    · exact thaw_new x hp h.1 id hi
    · have:=thawL_new xs _ h.2 id hi
      obtain ⟨l,hl⟩:=thaw_app hp x
      rw [hl,List.length_append] at this
      omega
end
theorem step_new {so:SOp} {st:St} {v:AV} {hp':List Blk} {k:Nat} {as:List SX} (hop:so.op=.call .plain k as) (hg:so.guard=none) (h:Step P fid true so st v hp'):∀ id∈v.ids,st.hp.length≤id:=by
  cases h with
  |skip hw=>rw [hg] at hw;simp [wanted] at hw
  | @op r hw ha=>rw [hop] at ha;simp [astep] at ha
  | @call md k' vs v hp' hw ho hc=>
    rw [hop] at ho
    simp only [SO.callee,Option.some.injEq,Prod.mk.injEq] at ho
    obtain ⟨rfl,rfl,rfl⟩:=ho
    cases hc with
    | @plain ps r hf hr hd=>
      simp only [Bool.not_true,Bool.false_or,Bool.or_eq_true,Bool.and_eq_true,List.isEmpty_iff] at hd
      intro id hi
      have:=thaw_new r.1 _ hd.2 id hi
      split at this
      · exact this
      · rwa [still_length] at this
  | @round x as id v hp' hw ho hx hr=>rw [ho] at hop;cases hop
  | @invk q hp1 v hp' hw ho hc=>rw [hop] at ho;cases ho
theorem step_append {so:SOp} {env:List (Nat × AV)} {hp:List Blk} {lo:Nat} {mk:List Mark} {v:AV} {hp':List Blk} {sz bytes s u:Nat} (hop:so.op=.append sz bytes (.tmp s) (.tmp u)) (h:Step P fid true so ⟨env,hp,lo,mk⟩ v hp') {z:Nat} {cs:List AV} (hu:lk env u=.sl z cs):
    hp.length≤hp'.length∧∀ id,id<hp.length→id ∉ (lk env s).ids→hp'[id]? = hp[id]?:=by
  cases h with
  |skip hw=>exact ⟨Nat.le_refl _,fun _ _ _=>rfl⟩
  | @op r hw ha=>
    rw [hop] at ha
    simp only [astep,St.ev,obI] at ha
    obtain ⟨xs,_,ha⟩:=ha
    rw [hu] at ha
    split at ha
    · split at ha
      · split at ha
        · injection ha with ha;subst ha
          exact ⟨by simp,fun id hi _=>by rw [List.getElem?_append_left hi]⟩
        · cases ha
      · cases ha
    · rename_i s' id0 hs
      split at ha
      · split at ha
        · split at ha
          · split at ha
            · injection ha with ha;subst ha
              refine ⟨by simp,fun id hi hni=>?_⟩
              rw [hs] at hni
              simp [AV.ids] at hni
              rw [List.getElem?_append_left (by simpa using hi),List.getElem?_set_ne (fun e=>hni e.symm)]
            · cases ha
          · cases ha
        · cases ha
      · cases ha
    · rename_i s' id0 o n hs
      split at ha
      · split at ha
        · split at ha
          · injection ha with ha;subst ha
            refine ⟨by simp,fun id hi hni=>?_⟩
            rw [hs] at hni
            simp [AV.ids] at hni
            rw [List.getElem?_set_ne (fun e=>hni e.symm)]
          · cases ha
        · cases ha
      · cases ha
    · cases ha
  | @call md k' vs v hp' hw ho hc=>rw [hop] at ho;simp [SO.callee] at ho
  | @round x as id v hp' hw ho hx hr=>rw [ho] at hop;cases hop
  | @invk q hp1 v hp' hw ho hc=>rw [hop] at ho;cases ho
structure Drawn (chk:List (Nat × Nat)) (ops:Array Oper) (l:List SOp):Prop where
  plain:∀ (i:Nat) si,l[i]? = some si→si.op.loadsPlain=true
  edge:∀ (j:Nat) o,ops[j]? = some o→∀ e∈ons o,e<j
  pair:∀ (i j:Nat) si sj,l[i]? = some si→l[j]? = some sj→pairOk chk (ancs ops.toList []) l si sj i j=true
theorem drawn_of {chk:List (Nat × Nat)} {ops:Array Oper} {l:List SOp} (h:drawOk chk ops l=true) (hl:l.length=ops.size):Drawn chk ops l:=by
  simp only [drawOk,Bool.and_eq_true,List.all_eq_true,List.mem_range] at h
  refine ⟨fun i si hi=>h.1.1 si (List.mem_of_getElem? hi),?_,?_⟩
  · intro j o ho e he
    have:=h.1.2 j (Array.getElem?_eq_some_iff.1 ho).1
    rw [ho] at this
    simp only [List.all_eq_true,decide_eq_true_eq] at this
    exact this e he
  · intro i j si sj hi hj
    have h1:=(List.getElem?_eq_some_iff.1 hi).1
    have h2:=(List.getElem?_eq_some_iff.1 hj).1
    have:=h.2 j (by omega) i (by omega)
    rw [hi,hj] at this
    exact this
theorem pair_lt {chk:List (Nat × Nat)} {A:List (List Nat)} {l:List SOp} {si sj:SOp} {i j:Nat} (h:pairOk chk A l si sj i j=true) (hij:i<j):(∀ d,si.dst=some d→sj.dst≠some d)∧((∃ d,si.dst=some d∧d∈sj.looks)→i∈A.getD j []) ∧
    (si.op.heavy=true→sj.op.heavy=true→i∈A.getD j [])∧((si.op.heavy=true∧si.op.grows=false∧sj.op.isLoad=true∧si.farApp chk sj l i=false)∨(si.op.isLoad=true∧sj.op.heavy=true∧sj.op.grows=false∧sj.freshApp l i j=false∧sj.farApp chk si l j=false)→i∈A.getD j []):=by
  unfold pairOk at h
  simp only [if_pos hij,Bool.and_eq_true,Bool.or_eq_true,Bool.not_eq_true',List.contains_iff_mem] at h
  obtain ⟨⟨⟨h1,h2⟩,h3⟩,h4⟩:=h
  refine ⟨?_,?_,?_,?_⟩
  · intro d hd
    rw [hd] at h1
    simpa using h1
  · rintro ⟨d,hd,hm⟩
    rw [hd] at h2
    rcases h2 with h2 | h2
    · simp at h2;exact absurd hm h2
    · exact h2
  · intro a b
    rcases h3 with h3 | h3
    · simp [a,b] at h3
    · exact h3
  · intro hab
    rcases h4 with h4 | h4
    · rcases hab with ⟨a,b,c,e⟩ | ⟨a,b,c,e,f⟩
      · simp [a,b,c,e] at h4
      · simp [a,b,c,e,f] at h4
    · exact h4
theorem pair_eq {chk:List (Nat × Nat)} {A:List (List Nat)} {l:List SOp} {si:SOp} {i:Nat} (h:pairOk chk A l si si i i=true):∀ d,si.dst=some d→d ∉ si.looks:=by
  intro d hd hm
  unfold pairOk at h
  rw [if_neg (by omega),if_neg (by omega),hd] at h
  simp [hm] at h
theorem pair_gt {chk:List (Nat × Nat)} {A:List (List Nat)} {l:List SOp} {si sj:SOp} {i j:Nat} (h:pairOk chk A l si sj i j=true) (hij:j<i):∀ d,si.dst=some d→d∈sj.looks→j∈A.getD i []:=by
  intro d hd hm
  unfold pairOk at h
  rw [if_neg (by omega),if_pos hij,hd] at h
  simp [hm] at h
  exact h.1
theorem pair_gt2 {chk:List (Nat × Nat)} {A:List (List Nat)} {l:List SOp} {si sj:SOp} {i j:Nat} (h:pairOk chk A l si sj i j=true) (hij:j<i):∀ d,si.dst=some d→d∈sj.looks→∀ p∈chk,p.1≠d∧p.2≠d∧p.1≠d+1000000:=by
  intro d hd hm p hp
  unfold pairOk at h
  rw [if_neg (by omega),if_pos hij,hd] at h
  simp only [Bool.and_eq_true,Bool.or_eq_true,List.all_eq_true,bne_iff_ne,Bool.not_eq_true',List.contains_iff_mem,hm,Bool.true_eq_false,false_or,List.contains_eq_mem,decide_true] at h
  have:=h.2 p hp
  exact ⟨this.1.1,this.1.2,this.2⟩
structure RI (P:Program) (fid:FuncId→Option Nat) (fr:Nat→Prop) (w0:World) (nt:Nat) (ops:Array Oper) (l:List SOp) (vals:Nat→AV) (hps:Nat→List Blk) (st:St) (m0:Mem) (ds:List Deferred) (Lb:Array Bool) (a:Act) (w:World):Prop where
  size:Lb.size=ops.size
  closed:∀ (j:Nat) o,Lb.getD j false=true→ops[j]? = some o→∀ e∈ons o,Lb.getD e false=true
  mem:∃ m k,m.P=P∧m.cd=fid∧Ext fr m0 m∧HInv fr w0 m (hps k) w []∧k≤l.length∧(∀ (j:Nat) sj,j<k→l[j]? = some sj→sj.op.heavy=true→Lb.getD j false=true)∧(∀ (j:Nat) sj,k≤j→l[j]? = some sj→sj.op.heavy=true→Lb.getD j false=false) ∧
    (∀ (j:Nat) sj t,Lb.getD j false=true→l[j]? = some sj→sj.dst=some t→C m (vals j) (a.tmps.getD t undef)) ∧
    (∀ s,(∀ (j:Nat) sj,Lb.getD j false=true→l[j]? = some sj→sj.dst≠some s)→C m (lk st.env s) (a.tmps.getD s undef))
  n:nt≤a.tmps.size
  d:a.defers=ds
theorem hps_const {l:List SOp} {vals:Nat→AV} {hps:Nat→List Blk} {st:St} (hs:∀ (i:Nat) so,l[i]? = some so→Step P fid true so ⟨envT l vals st.env i,hps i,st.lo,st.mks⟩ (vals i) (hps (i+1))) {a b:Nat} (hab:a≤b) (hb:b≤l.length)
    (hl:∀ (j:Nat) sj,a≤j→j<b→l[j]? = some sj→sj.op.heavy=false):hps b=hps a:=by
  induction b with
  | zero => have : a = 0 := by omega
            rw [this]
  |succ b ih=>
    by_cases h:a=b+1
    · rw [h]
    · have e:=ih (by omega) (by omega) (fun j sj h1 h2=>hl j sj h1 (by omega))
      obtain ⟨sb,hsb⟩:∃ sb,l[b]? = some sb:=⟨l[b],List.getElem?_eq_getElem (by omega)⟩
      have hh:=hl b sb (by omega) (by omega) hsb
      have h1:=hs b sb hsb
      rw [←e]
      exact step_hp hh h1
theorem hps_app {l:List SOp} {vals:Nat→AV} {hps:Nat→List Blk} {st:St} (hs:∀ (i:Nat) so,l[i]? = some so→Step P fid true so ⟨envT l vals st.env i,hps i,st.lo,st.mks⟩ (vals i) (hps (i+1))) {a b:Nat} (hab:a≤b) (hb:b≤l.length)
    (hl:∀ (j:Nat) sj,a≤j→j<b→l[j]? = some sj→sj.op.heavy=true→sj.op.grows=true):∃ q,hps b=hps a++q:=by
  induction b with
  | zero => have : a = 0 := by omega
            rw [this];exact ⟨[],by simp⟩
  |succ b ih=>
    by_cases h:a=b+1
    · rw [h];exact ⟨[],by simp⟩
    · obtain ⟨q,e⟩:=ih (by omega) (by omega) (fun j sj h1 h2=>hl j sj h1 (by omega))
      obtain ⟨sb,hsb⟩:∃ sb,l[b]? = some sb:=⟨l[b],List.getElem?_eq_getElem (by omega)⟩
      obtain ⟨q2,e2⟩:=step_grows (hl b sb (by omega) (by omega) hsb) (hs b sb hsb)
      exact ⟨q++q2,by rw [e2];show hps b++q2=_;rw [e,List.append_assoc]⟩
theorem step_lit {so:SOp} {st:St} {v:AV} {hp':List Blk} {z:List AV} {sz len:Nat} {ps:List (Nat × Nat × SX)} (hop:so.op=.lit false z sz len ps) (hg:so.guard=none) (h:Step P fid true so st v hp'):∃ cs,v=.sl sz cs:=by
  cases h with
  |skip hw=>rw [hg] at hw;simp [wanted] at hw
  | @op r hw ha=>
    rw [hop] at ha
    simp only [astep,obI] at ha
    obtain ⟨cs,_,ha⟩:=ha
    simp only [Bool.false_eq_true,if_false] at ha
    split at ha
    · injection ha with ha;subst ha;exact ⟨cs,rfl⟩
    · cases ha
  | @call md k' vs v hp' hw ho hc=>rw [hop] at ho;simp [SO.callee] at ho
  | @round x as id v hp' hw ho hx hr=>rw [ho] at hop;cases hop
  | @invk q hp1 v hp' hw ho hc=>rw [hop] at ho;cases ho
theorem step_mem {so:SOp} {st:St} {v:AV} {hp':List Blk} {k:Nat} {as:List SX} (hop:so.op=.call .mem k as) (hg:so.guard=none) (h:Step P fid true so st v hp'):st.hp.length≤hp'.length∧∀ id,id ∉ idsL (as.map st.ev)→id<st.hp.length→hp'[id]? = st.hp[id]?:=by
  cases h with
  |skip hw=>rw [hg] at hw;simp [wanted] at hw
  | @op r hw ha=>rw [hop] at ha;simp [astep] at ha
  | @call md k' vs v hp' hw ho hc=>
    rw [hop] at ho
    simp only [SO.callee,Option.some.injEq,Prod.mk.injEq] at ho
    obtain ⟨rfl,rfl,rfl⟩:=ho
    cases hc with
    | @mem hps r hs hr hl hn=>
      obtain ⟨q,hq⟩:=thaw_app (putHp st.hp (dedup (idsL (as.map st.ev)) []) r.2) (ren (fun i=>(dedup (idsL (as.map st.ev)) []).getD i 0) r.1)
      obtain ⟨s1,s2⟩:=subHp_get hs
      have hlt:∀ i∈dedup (idsL (as.map st.ev)) [],i<st.hp.length:=by
        intro i hi
        obtain ⟨k,hk⟩:=List.getElem?_of_mem hi
        obtain ⟨b,hb,_⟩:=s2 k i hk
        exact (List.getElem?_eq_some_iff.1 hb).1
      rw [hq]
      refine ⟨by rw [List.length_append,putHp_length];omega,fun id hid hl2=>?_⟩
      rw [List.getElem?_append_left (by rw [putHp_length];exact hl2),putHp_get _ _ _ (dedup_nodup _ _ (by simp)) hl hlt,if_neg]
      intro hm
      rcases (dedup_mem _ _ _).1 hm with h | h
      · exact hid h
      · cases h
  | @round x as' id v hp' hw ho hx hr=>rw [ho] at hop;cases hop
  | @invk q hp1 v hp' hw ho hc=>rw [hop] at ho;cases ho
theorem keepC_eq:∀ {x y:AV},keepC x y=true→x=y:=by
  intro x y h
  cases x<;>cases y<;>simp_all [keepC]
theorem keepL_eq:∀ {xs ys:List AV},keepL xs ys=true→xs=ys
  | [],[],_=>rfl
  |x::xs,y::ys,h=>by
    simp only [keepL,Bool.and_eq_true] at h
    rw [keepC_eq h.1,keepL_eq h.2]
  | [],_::_,h=>by simp [keepL] at h
  |_::_,[],h=>by simp [keepL] at h
theorem keepB_eq {hp hp':List Blk} {id:Nat} (h:keepB hp hp' id=true):hp'[id]? = hp[id]?:=by
  unfold keepB at h
  split at h
  · rename_i f cs f' cs' h1 h2
    simp only [Bool.and_eq_true,decide_eq_true_eq] at h
    rw [h1,h2,h.1,keepL_eq h.2]
  · cases h
theorem step_allk {so:SOp} {st:St} {v:AV} {hp':List Blk} {k:Nat} {as:List SX} (hop:so.op=.call .allk k as) (hg:so.guard=none) (h:Step P fid true so st v hp'):st.hp.length≤hp'.length∧∀ id,id∈idsL (as.map st.ev)→id<st.hp.length→hp'[id]? = st.hp[id]?:=by
  cases h with
  |skip hw=>rw [hg] at hw;simp [wanted] at hw
  | @op r hw ha=>rw [hop] at ha;simp [astep] at ha
  | @call md k' vs v hp' hw ho hc=>
    rw [hop] at ho
    simp only [SO.callee,Option.some.injEq,Prod.mk.injEq] at ho
    obtain ⟨rfl,rfl,rfl⟩:=ho
    cases hc with
    | @allk v hp1 hr hk=>
      obtain ⟨q,hq⟩:=thaw_app hp1 v
      simp only [keepOk,Bool.and_eq_true,decide_eq_true_eq,List.all_eq_true] at hk
      rw [hq]
      refine ⟨by rw [List.length_append];omega,fun id hid hl2=>?_⟩
      rw [List.getElem?_append_left (by omega)]
      exact keepB_eq (hk.2 id hid)
  | @round x as' id v hp' hw ho hx hr=>rw [ho] at hop;cases hop
  | @invk q hp1 v hp' hw ho hc=>rw [hop] at ho;cases ho
mutual
theorem pk_same {n:Nat}:∀ (x:AV) {hp:List Blk} {r:AV × List Blk},x.ids=[]→pk n hp x=some r→r.2=hp
  | .own _ _,_,_,h,_=>by simp [AV.ids] at h
  | .osl _ _ _ _,_,_,h,_=>by simp [AV.ids] at h
  | .ref _ _,_,_,h,_=>by simp [AV.ids] at h
  | .mref _,_,_,h,_=>by simp [AV.ids] at h
  | .yld _,_,_,h,_=>by simp [AV.ids] at h
  | .agg cs,hp,r,h,k=>by
    simp only [pk,omI] at k
    obtain ⟨a,ha,rfl⟩:=k
    exact pkL_same cs (by simpa [AV.ids] using h) ha
  | .tup cs,hp,r,h,k=>by
    simp only [pk,omI] at k
    obtain ⟨a,ha,rfl⟩:=k
    exact pkL_same cs (by simpa [AV.ids] using h) ha
  | .clo _ fs cs,hp,r,h,k=>by
    simp only [pk,obI,omI] at k
    obtain ⟨a,ha,b,hb,rfl⟩:=k
    simp only [AV.ids,List.append_eq_nil_iff] at h
    have h1:=pkL_same fs h.1 ha
    have h2:=pkL_same cs h.2 hb
    exact h2.trans h1
  | .ifc _ v,hp,r,h,k=>by
    simp only [pk,omI] at k
    obtain ⟨a,ha,rfl⟩:=k
    have e:=pk_same v (by simpa [AV.ids] using h) (show pk n hp v=some a from ha)
    exact e
  | .unk,_,_,_,k=>by simp [pk] at k
  | .int _ _,_,_,_,k=>by simp only [pk] at k;injection k with k;subst k;rfl
  | .bool _,_,_,_,k=>by simp only [pk] at k;injection k with k;subst k;rfl
  | .str _,_,_,_,k=>by simp only [pk] at k;injection k with k;subst k;rfl
  | .nils,_,_,_,k=>by simp only [pk] at k;injection k with k;subst k;rfl
  | .any,_,_,_,k=>by simp only [pk] at k;injection k with k;subst k;rfl
  | .nilp,_,_,_,k=>by simp only [pk] at k;injection k with k;subst k;rfl
  | .nilf,_,_,_,k=>by simp only [pk] at k;injection k with k;subst k;rfl
  | .nili,_,_,_,k=>by simp only [pk] at k;injection k with k;subst k;rfl
  | .maybe _ _,_,_,_,k=>by simp only [pk] at k;injection k with k;subst k;rfl
  | .nilm,_,_,_,k=>by simp only [pk] at k;injection k with k;subst k;rfl
  | .sl _ _,_,_,_,k=>by simp only [pk] at k;injection k with k;subst k;rfl
  | .ip _,_,_,_,k=>by simp only [pk] at k;injection k with k;subst k;rfl
  | .vec _ _,_,_,_,k=>by simp only [pk] at k;injection k with k;subst k;rfl
  | .box _,_,_,_,k=>by simp only [pk] at k;injection k with k;subst k;rfl
  | .mp _ _,_,_,_,k=>by simp only [pk] at k;injection k with k;subst k;rfl
theorem pkL_same {n:Nat}:∀ (xs:List AV) {hp:List Blk} {r:List AV × List Blk},idsL xs=[]→pkL n hp xs=some r→r.2=hp
  | [],hp,r,_,k=>by simp only [pkL] at k;injection k with k;subst k;rfl
  |x::xs,hp,r,h,k=>by
    simp only [pkL,obI,omI] at k
    obtain ⟨a,ha,b,hb,rfl⟩:=k
    simp only [idsL,List.append_eq_nil_iff] at h
    have h1:=pk_same x h.1 ha
    have h2:=pkL_same xs h.2 hb
    exact h2.trans h1
end
theorem pks_same {x:AV} {hp:List Blk} {r:AV × List Blk} (h:x.ids=[]) (k:pks hp x=some r):r.2=hp:=by
  unfold pks at k
  split at k
  · injection k with k;subst k;rfl
  · injection k with k;subst k;rfl
  · injection k with k;subst k;rfl
  · injection k with k;subst k;rfl
  · cases k
  · exact pk_same _ h k
theorem pksL_same:∀ {xs:List AV} {hp:List Blk} {r:List AV × List Blk},idsL xs=[]→pksL hp xs=some r→r.2=hp
  | [],hp,r,_,k=>by simp only [pksL] at k;injection k with k;subst k;rfl
  |x::xs,hp,r,h,k=>by
    simp only [pksL,obI,omI] at k
    obtain ⟨a,ha,b,hb,rfl⟩:=k
    simp only [idsL,List.append_eq_nil_iff] at h
    have h1:=pks_same h.1 ha
    have h2:=pksL_same h.2 hb
    exact h2.trans h1
theorem cells_ids {x:AV} (h:x.ids=[]):idsL x.cells=[]:=by
  unfold AV.cells
  split
  · simpa [AV.ids] using h
  · simp [idsL,h]
theorem step_store {so:SOp} {env:List (Nat × AV)} {hp:List Blk} {lo:Nat} {mk:List Mark} {v:AV} {hp':List Blk} {n s:Nat} {x:SX} (hop:so.op=.store false n (.tmp s) x) (h:Step P fid true so ⟨env,hp,lo,mk⟩ v hp') (hu:(St.ev ⟨env,hp,lo,mk⟩ x).ids=[]):
    hp.length≤hp'.length∧∀ id,id<hp.length→id ∉ (lk env s).ids→hp'[id]? = hp[id]?:=by
  cases h with
  |skip hw=>exact ⟨Nat.le_refl _,fun _ _ _=>rfl⟩
  | @op r hw ha=>
    rw [hop] at ha
    simp only [astep,St.ev] at ha
    split at ha
    · rename_i id0 o hs
      simp only [Bool.false_eq_true,if_false,obI] at ha
      obtain ⟨q,hq,ha⟩:=ha
      have e:=pksL_same (cells_ids hu) hq
      rw [e] at ha
      split at ha
      · split at ha
        · injection ha with ha;subst ha
          refine ⟨by simp,fun id hi hni=>?_⟩
          rw [hs] at hni
          simp [AV.ids] at hni
          rw [List.getElem?_set_ne (fun e=>hni e.symm)]
        · cases ha
      · cases ha
    · cases ha
  |call hw ho=>rw [hop] at ho;simp [SO.callee] at ho
  |round hw ho=>rw [hop] at ho;cases ho
  |invk hw ho=>rw [hop] at ho;cases ho
theorem hps_keep {l:List SOp} {vals:Nat→AV} {hps:Nat→List Blk} {st:St} (hs:∀ (i:Nat) so,l[i]? = some so→Step P fid true so ⟨envT l vals st.env i,hps i,st.lo,st.mks⟩ (vals i) (hps (i+1)))
    (hd:∀ (p q:Nat) sp sq,l[p]? = some sp→l[q]? = some sq→p<q→∀ d,sp.dst=some d→sq.dst≠some d) {a id:Nat}:∀ b,a≤b→b≤l.length →
    (∀ (j:Nat) sj,a≤j→j<b→l[j]? = some sj→sj.op.heavy=true→sj.op.grows=true∨sj.freshApp l a j=true∨(∃ sz bytes s u,sj.op=.append sz bytes (.tmp s) (.tmp u)∧litAt l j u=true∧id ∉ (lk (envT l vals st.env j) s).ids)∨(∃ k as,sj.op=.call .mem k as∧sj.guard=none∧id ∉ idsL (as.map (St.ev ⟨envT l vals st.env j,hps j,st.lo,st.mks⟩)))∨(∃ k as,sj.op=.call .allk k as∧sj.guard=none∧id∈idsL (as.map (St.ev ⟨envT l vals st.env j,hps j,st.lo,st.mks⟩)))∨∃ n s x,sj.op=.store false n (.tmp s) x∧(St.ev ⟨envT l vals st.env j,hps j,st.lo,st.mks⟩ x).ids=[]∧id ∉ (lk (envT l vals st.env j) s).ids)→(hps a).length≤(hps b).length∧(id<(hps a).length→(hps b)[id]? = (hps a)[id]?):=by
  have hlit:∀ c u,litAt l c u=true→∃ sz cs,lk (envT l vals st.env c) u=.sl sz cs:=by
    intro c u h
    simp only [litAt,List.any_eq_true,List.mem_range] at h
    obtain ⟨q,hq1,hq2⟩:=h
    split at hq2
    · rename_i d' z sz' len ps hlq
      simp only [beq_iff_eq] at hq2
      subst hq2
      obtain ⟨cs,hcs⟩:=step_lit rfl rfl (hs q _ hlq)
      exact ⟨_,cs,(envT_hit hlq rfl c hq1 (fun j' so q1 q2 q3=>hd q j' _ so hlq q3 q1 d' rfl)).trans hcs⟩
    · cases hq2
  intro b
  induction b using Nat.strongRecOn with
  |_ b ih=>
    intro hab hb hl
    by_cases h:a=b
    · subst h;exact ⟨Nat.le_refl _,fun _=>rfl⟩
    · obtain ⟨c,rfl⟩:∃ c,b=c+1:=⟨b - 1,by omega⟩
      obtain ⟨h1,h2⟩:=ih c (by omega) (by omega) (by omega) (fun j sj q1 q2=>hl j sj q1 (by omega))
      obtain ⟨sc,hsc⟩:∃ sc,l[c]? = some sc:=⟨l[c],List.getElem?_eq_getElem (by omega)⟩
      have hst:=hs c sc hsc
      cases hh:sc.op.heavy with
      |false=>rw [step_hp hh hst];exact ⟨h1,h2⟩
      |true=>
        rcases hl c sc (by omega) (by omega) hsc hh with hg | hf | ⟨sz,bytes,s,u,hop,hlu,hni⟩ | ⟨k,as,hop,hgd,hni⟩ | ⟨k,as,hop,hgd,hni⟩ | ⟨n,s,u,hop,hu0,hni⟩
        · obtain ⟨q,hq⟩:=step_grows (fun _=>hg) hst
          rw [hq]
          exact ⟨by simp;omega,fun hi=>by rw [List.getElem?_append_left (by show id<(hps c).length;omega)];exact h2 hi⟩
        · unfold SOp.freshApp at hf
          split at hf
          · rename_i sz bytes s u hop
            simp only [Bool.and_eq_true,freshAt,List.any_eq_true,List.mem_range] at hf
            obtain ⟨⟨p,hp1,hp2⟩,hlu⟩:=hf
            simp only [Bool.and_eq_true,decide_eq_true_eq] at hp2
            obtain ⟨hp2,hp3⟩:=hp2
            split at hp3
            · rename_i d k as hlp
              simp only [beq_iff_eq] at hp3
              subst hp3
              obtain ⟨g1,g2⟩:=ih p (by omega) (by omega) (by omega) (fun j sj q1 q2=>hl j sj q1 (by omega))
              have hnew:=step_new rfl rfl (hs p _ hlp)
              obtain ⟨_,cs,hcs⟩:=hlit c u hlu
              have e1:lk (envT l vals st.env c) d=vals p:=envT_hit hlp rfl c hp1 (fun j' so q1 q2 q3=>hd p j' _ so hlp q3 q1 d rfl)
              obtain ⟨k1,k2⟩:=step_append hop hst hcs
              refine ⟨Nat.le_trans h1 k1,fun hi=>?_⟩
              rw [k2 id (by omega) (fun hm=>by
                rw [e1] at hm
                have:=hnew id hm
                simp only at this
                omega)]
              exact h2 hi
            · cases hp3
          · rename_i k as hop
            simp only [Bool.and_eq_true,Option.isNone_iff_eq_none,List.all_eq_true] at hf
            obtain ⟨hgd,hall⟩:=hf
            have hids:∀ i∈idsL (as.map (St.ev ⟨envT l vals st.env c,hps c,st.lo,st.mks⟩)),(hps a).length≤i:=by
              have key:∀ (xs:List SX),(∀ x∈xs,x∈as)→∀ i∈idsL (xs.map (St.ev ⟨envT l vals st.env c,hps c,st.lo,st.mks⟩)),(hps a).length≤i:=by
                intro xs
                induction xs with
                |nil=>intro _ i hi;simp [idsL] at hi
                |cons x xs ihx=>
                  intro hsub i hi
                  simp only [List.map_cons,idsL,List.mem_append] at hi
                  rcases hi with hi | hi
                  · have hx:=hall x (hsub x (by simp))
                    cases x with
                    |val v=>
                      simp only [List.isEmpty_iff] at hx
                      simp only [St.ev] at hi
                      rw [hx] at hi;cases hi
                    |tmp s=>
                      simp only [freshAt,List.any_eq_true,List.mem_range,Bool.and_eq_true,decide_eq_true_eq] at hx
                      obtain ⟨p,hp1,hp2,hp3⟩:=hx
                      split at hp3
                      · rename_i d k' as' hlp
                        simp only [beq_iff_eq] at hp3
                        subst hp3
                        obtain ⟨g1,g2⟩:=ih p (by omega) (by omega) (by omega) (fun j sj q1 q2=>hl j sj q1 (by omega))
                        have hnew:=step_new rfl rfl (hs p _ hlp)
                        have e1:lk (envT l vals st.env c) d=vals p:=envT_hit hlp rfl c hp1 (fun j' so q1 q2 q3=>hd p j' _ so hlp q3 q1 d rfl)
                        simp only [St.ev] at hi
                        rw [e1] at hi
                        have:=hnew i hi
                        simp only at this
                        omega
                      · cases hp3
                  · exact ihx (fun y hy=>hsub y (by simp [hy])) i hi
              exact key as fun _ h=>h
            obtain ⟨k1,k2⟩:=step_mem hop hgd hst
            refine ⟨Nat.le_trans h1 k1,fun hi=>?_⟩
            rw [k2 id (fun hm=>by have:=hids id hm;omega) (by show id<(hps c).length;omega)]
            exact h2 hi
          · cases hf
        · obtain ⟨_,cs,hcs⟩:=hlit c u hlu
          obtain ⟨k1,k2⟩:=step_append hop hst hcs
          refine ⟨Nat.le_trans h1 k1,fun hi=>?_⟩
          rw [k2 id (by omega) hni]
          exact h2 hi
        · obtain ⟨k1,k2⟩:=step_mem hop hgd hst
          refine ⟨Nat.le_trans h1 k1,fun hi=>?_⟩
          rw [k2 id hni (by show id<(hps c).length;omega)]
          exact h2 hi
        · obtain ⟨k1,k2⟩:=step_allk hop hgd hst
          refine ⟨Nat.le_trans h1 k1,fun hi=>?_⟩
          rw [k2 id hni (by show id<(hps c).length;omega)]
          exact h2 hi
        · obtain ⟨k1,k2⟩:=step_store hop hst hu0
          refine ⟨Nat.le_trans h1 k1,fun hi=>?_⟩
          rw [k2 id (by omega) hni]
          exact h2 hi
theorem env_late {chk:List (Nat × Nat)} {ops:Array Oper} {l:List SOp} (D:Drawn chk ops l) (hlen:l.length=ops.size) {vals:Nat→AV} {env:List (Nat × AV)} {i:Nat} {si:SOp} (hsi:l[i]? = some si) {t:Nat} (ht:t∈si.looks) (hc:∃ p∈chk,p.1=t∨p.2=t∨p.1=t+1000000):∀ k,i≤k→k≤l.length→lk (envT l vals env k) t=lk (envT l vals env i) t:=by
  have hil:=(List.getElem?_eq_some_iff.1 hsi).1
  obtain ⟨o,ho⟩:∃ o,ops[i]? = some o:=⟨ops[i],Array.getElem?_eq_getElem (by omega)⟩
  intro k
  induction k with
  |zero=>intro h _;rw [show i=0 by omega]
  |succ k ih=>
    intro h1 h2
    by_cases e:i=k+1
    · rw [e]
    · have ih:=ih (by omega) (by omega)
      have hne:∀ so,l[k]? = some so→so.dst≠some t:=by
        intro so hso hd
        by_cases e2:k=i
        · subst e2
          rw [hsi] at hso;injection hso with hso;subst hso
          exact pair_eq (D.pair k k si si hsi hsi) t hd ht
        · obtain ⟨p,hp,h⟩:=hc
          obtain ⟨h1,h2,h3⟩:=pair_gt2 (D.pair k i so si hso hsi) (by omega) t hd ht p hp
          rcases h with h | h | h
          · exact h1 h
          · exact h2 h
          · exact h3 h
      obtain ⟨sk,hsk⟩:∃ sk,l[k]? = some sk:=⟨l[k],List.getElem?_eq_getElem (by omega)⟩
      have hne:=hne sk hsk
      rw [envT,hsk]
      simp only [Option.bind_some]
      cases hd:sk.dst with
      |none=>exact ih
      |some d=>
        simp only [lk]
        rw [if_neg (fun e=>hne (by rw [hd,e]))]
        exact ih
theorem getD_true {Lb:Array Bool} {j:Nat} (h:Lb.getD j true=false):j<Lb.size∧Lb.getD j false=false:=by
  rw [Array.getD_eq_getD_getElem?] at h ⊢
  cases hq:Lb[j]? with
  |none=>rw [hq] at h;simp at h
  |some b=>rw [hq] at h;simp at h;subst h;exact ⟨(Array.getElem?_eq_some_iff.1 hq).1,rfl⟩
theorem getD_set {Lb:Array Bool} {i j:Nat} (hi:i<Lb.size):(Lb.setIfInBounds i true).getD j false=if j=i then true else Lb.getD j false:=by
  rw [Array.getD_eq_getD_getElem?,Array.getD_eq_getD_getElem?,Array.getElem?_setIfInBounds]
  by_cases h:i=j
  · subst h;simp [hi]
  · rw [if_neg h,if_neg (fun e=>h e.symm)]
theorem chk_far {chk:List (Nat × Nat)} {env:List (Nat × AV)} (h:chkOk chk env=true) {s t:Nat} (hc:(s,t)∈chk) (hs:s<1000000):∀ id∈(lk env s).ids,id ∉ (lk env t).ids:=by
  simp only [chkOk,List.all_eq_true] at h
  have:=h _ hc
  rw [if_pos hs] at this
  simpa only [List.all_eq_true,Bool.not_eq_true',List.contains_eq_mem,decide_eq_false_iff_not] using this
theorem chk_sub {chk:List (Nat × Nat)} {env:List (Nat × AV)} (h:chkOk chk env=true) {s t:Nat} (hc:(s+1000000,t)∈chk):∀ id∈(lk env t).ids,id∈(lk env s).ids:=by
  simp only [chkOk,List.all_eq_true] at h
  have:=h _ hc
  rw [if_neg (by simp only;omega)] at this
  simpa only [List.all_eq_true,List.contains_iff_mem,Nat.add_sub_cancel] using this
theorem xas_mem {x:SX} {t:Nat}:∀ {l:List SX},x∈l→t∈x.tmps→t∈xas l
  |y::l,h,ht=>by
    simp only [xas,List.mem_append]
    rcases List.mem_cons.1 h with rfl | h
    · exact .inl ht
    · exact .inr (xas_mem h ht)
theorem idsL_mem {x:AV} {id:Nat}:∀ {l:List AV},x∈l→id∈x.ids→id∈idsL l
  |y::l,h,ht=>by
    simp only [idsL,List.mem_append]
    rcases List.mem_cons.1 h with rfl | h
    · exact .inl ht
    · exact .inr (idsL_mem h ht)
theorem draw_step {chk:List (Nat × Nat)} {ops:Array Oper} {l:List SOp} (D:Drawn chk ops l) (hlen:l.length=ops.size) (hcs:∀ (i:Nat) so,l[i]? = some so→∃ o,ops[i]? = some o∧csop P fid nt ops o=some so.base) {vals:Nat→AV} {hps:Nat→List Blk} {st:St}
    (hs:∀ (i:Nat) so,l[i]? = some so→Step P fid true so ⟨envT l vals st.env i,hps i,st.lo,st.mks⟩ (vals i) (hps (i+1))) (hchk:chkOk chk (envT l vals st.env l.length)=true) {m0:Mem} {ds:List Deferred} {Lb:Array Bool} {a:Act} {w:World} (R:RI P fid fr w0 nt ops l vals hps st m0 ds Lb a w)
    {i:Nat} (hi:i∈Region.ready .any ops Lb) {Q:Exit→Act→World→Prop} {K:Act→World→Prop} (hK:∀ a' w',RI P fid fr w0 nt ops l vals hps st m0 ds (Lb.setIfInBounds i true) a' w'→K a' w'):wpOpIn (FF ro) n P ops Q i K a w:=by
  obtain ⟨hun,o,ho,hedge⟩:=mem_ready.1 hi
  obtain ⟨hib,hif⟩:=getD_true hun
  have hedge':∀ e∈ons o,Lb.getD e false=true:=by
    intro e he
    simp only [ons,List.mem_map,List.mem_filter] at he
    obtain ⟨ed,⟨h1,h2⟩,rfl⟩:=he
    exact hedge ed (by simpa using h1) h2
  have hil:i<l.length:=by rw [hlen,←R.size];exact hib
  obtain ⟨si,hsi⟩:∃ si,l[i]? = some si:=⟨l[i],List.getElem?_eq_getElem hil⟩
  obtain ⟨o',ho',hcsi⟩:=hcs i si hsi
  rw [ho] at ho';injection ho' with ho';subst ho'
  obtain ⟨_,hdst,hdlt,_⟩:=csop_ok hcsi
  have hanc:∀ j∈(ancs ops.toList []).getD i [],Lb.getD j false=true:=
    ancs_ok (L:=fun j=>Lb.getD j false=true) (fun j o h1 h2=>R.closed j o h1 h2) ops.toList [] (by simp) (by simp) i o ho (by simpa [←R.size] using hib) hedge'
  have hancL:∀ (j:Nat) oj,Lb.getD j false=true→ops[j]? = some oj→∀ j'∈(ancs ops.toList []).getD j [],Lb.getD j' false=true:=by
    intro j oj hj hoj
    refine ancs_ok (L:=fun j=>Lb.getD j false=true) (fun j o h1 h2=>R.closed j o h1 h2) ops.toList [] (by simp) (by simp) j oj hoj ?_ (R.closed j oj hj hoj)
    have:=(Array.getElem?_eq_some_iff.1 hoj).1
    simpa using this
  have hopsj:∀ (j:Nat) sj,l[j]? = some sj→∃ oj,ops[j]? = some oj:=fun j sj h=>by obtain ⟨oj,h1,_⟩:=hcs j sj h;exact ⟨oj,h1⟩
  obtain ⟨m,k,hmP,hmcd,hE,HH,hk,hk1,hk2,htm,hot⟩:=R.mem
  have hlook:∀ t∈si.looks,C m (lk (envT l vals st.env i) t) (a.tmps.getD t undef):=by
    intro t ht
    by_cases hex:∃ (j:Nat) (sj:SOp),j<i∧l[j]? = some sj∧sj.dst=some t
    · obtain ⟨j,sj,hji,hsj,hdj⟩:=hex
      obtain ⟨p1,p2,_,_⟩:=pair_lt (D.pair j i sj si hsj hsi) hji
      have hjL:=hanc j (p2 ⟨t,hdj,ht⟩)
      rw [envT_hit hsj hdj i hji (fun j' so h1 h2 h3=>(pair_lt (D.pair j j' sj so hsj h3) h1).1 t hdj)]
      exact htm j sj t hjL hsj hdj
    · rw [envT_miss i (fun j so h1 h2 h3=>hex ⟨j,so,h1,h2,h3⟩)]
      refine hot t (fun j sj hj hsj hd=>?_)
      rcases Nat.lt_trichotomy j i with h | h | h
      · exact hex ⟨j,sj,h,hsj,hd⟩
      · subst h;rw [hif] at hj;cases hj
      · obtain ⟨oj,hoj⟩:=hopsj j sj hsj
        have:=hancL j oj hj hoj i (pair_gt (D.pair j i sj si hsj hsi) h t hd ht)
        rw [hif] at this;cases this
  let env':=si.looks.map fun t=>(t,lk (envT l vals st.env i) t)
  have henv':∀ t∈si.looks,lk env' t=lk (envT l vals st.env i) t:=by
    have key:∀ (q:List Nat) t,t∈q→lk (q.map fun t=>(t,lk (envT l vals st.env i) t)) t=lk (envT l vals st.env i) t:=by
      intro q
      induction q with
      |nil=>intro t h;simp at h
      |cons x q ih=>
        intro t h
        simp only [List.map_cons,lk]
        by_cases hx:x=t
        · rw [if_pos hx,hx]
        · rw [if_neg hx];exact ih t ((List.mem_cons.1 h).resolve_left (fun e=>hx e.symm))
    exact key si.looks
  have hEnv:EnvOk m env' a.tmps:=by
    intro t
    by_cases ht:t∈si.looks
    · rw [henv' t ht];exact hlook t ht
    · have key:∀ (q:List Nat),t ∉ q→lk (q.map fun t=>(t,lk (envT l vals st.env i) t)) t=.unk:=by
        intro q
        induction q with
        |nil=>intro _;rfl
        |cons x q ih=>
          intro h
          simp only [List.map_cons,lk]
          rw [if_neg (fun e=>h (by simp [e]))]
          exact ih (fun e=>h (by simp [e]))
      show C m (lk env' t) _
      rw [key si.looks ht]
      simp [C]
  have hstep:=hs i si hsi
  have go:∀ (kn:Nat) (hpn:List Blk),hpn=hps kn→Step P fid true si ⟨env',hps k,st.lo,st.mks⟩ (vals i) hpn→kn≤l.length →
      (∀ (j:Nat) sj,j<kn→l[j]? = some sj→sj.op.heavy=true→(Lb.setIfInBounds i true).getD j false=true)→(∀ (j:Nat) sj,kn≤j→l[j]? = some sj→sj.op.heavy=true→(Lb.setIfInBounds i true).getD j false=false)→wpOpIn (FF ro) n P ops Q i K a w:=by
    intro kn hpn hhp hst hkn hk1' hk2'
    refine step_ok (st:=⟨env',hps k,st.lo,st.mks⟩) hmP hmcd hcsi ho HH hEnv hst ?_
    intro m' u w' hE' hC' HH'
    apply hK
    have hput:∀ t,(a.put o.dst u).tmps.getD t undef=if o.dst=some t then u else a.tmps.getD t undef:=by
      intro t
      cases hd:o.dst with
      |none=>simp [Act.put]
      |some d=>
        have hdn:d<a.tmps.size:=Nat.lt_of_lt_of_le (hdlt d hd) R.n
        simp only [Act.put]
        rw [Array.getD_eq_getD_getElem?,Array.getD_eq_getD_getElem?,Array.getElem?_setIfInBounds]
        by_cases hdt:d=t
        · subst hdt;simp [hdn]
        · rw [if_neg hdt,if_neg (by simpa using hdt)]
    refine ⟨by simp [R.size],?_,⟨m',kn,hE'.le.P.trans hmP,hE'.le.cd.trans hmcd,hE.trans hE',by rw [←hhp];exact HH',hkn,hk1',hk2',?_,?_⟩,?_,?_⟩
    · intro j oj hj hoj e he
      rw [getD_set hib] at hj ⊢
      by_cases hei:e=i
      · rw [if_pos hei]
      · rw [if_neg hei]
        by_cases hji:j=i
        · subst hji
          rw [ho] at hoj;injection hoj with hoj;subst hoj
          exact hedge' e he
        · rw [if_neg hji] at hj
          exact R.closed j oj hj hoj e he
    · intro j sj t hj hsj hd
      rw [hput]
      by_cases hji:j=i
      · subst hji
        rw [hsi] at hsj;injection hsj with hsj;subst hsj
        rw [←hdst,if_pos hd]
        exact hC'
      · rw [getD_set hib,if_neg hji] at hj
        rw [if_neg]
        · exact C_mono hE'.le _ _ (htm j sj t hj hsj hd)
        · rw [←hdst]
          rcases Nat.lt_or_gt_of_ne hji with h | h
          · exact (pair_lt (D.pair j i sj si hsj hsi) h).1 t hd
          · intro e;exact (pair_lt (D.pair i j si sj hsi hsj) h).1 t e hd
    · intro s hno
      rw [hput]
      have hne:o.dst≠some s:=by
        rw [←hdst]
        exact hno i si (by rw [getD_set hib,if_pos rfl]) hsi
      rw [if_neg hne]
      refine C_mono hE'.le _ _ (hot s (fun j sj hj hsj=>hno j sj ?_ hsj))
      rw [getD_set hib]
      split
      · rfl
      · exact hj
    · have:=R.n
      cases o.dst<;>simpa [Act.put] using this
    · have:=R.d
      cases o.dst<;>simpa [Act.put] using this
  by_cases hh:si.op.heavy=true
  ·
    have hki:k≤i:=by
      rcases Nat.lt_or_ge i k with h | h
      · have:=hk1 i si h hsi hh
        rw [hif] at this;cases this
      · exact h
    have hlight:∀ (j:Nat) sj,k≤j→j<i→l[j]? = some sj→sj.op.heavy=false:=by
      intro j sj h1 h2 hsj
      cases hq:sj.op.heavy with
      |false=>rfl
      |true=>
        have e1:=hanc j ((pair_lt (D.pair j i sj si hsj hsi) h2).2.2.1 hq hh)
        have e2:=hk2 j sj h1 hsj hq
        rw [e1] at e2;cases e2
    have heq:hps i=hps k:=hps_const hs hki (by omega) hlight
    rw [heq] at hstep
    refine go (i+1) _ rfl (step_env hstep henv') (by omega) ?_ ?_
    · intro j sj hj hsj hq
      rw [getD_set hib]
      split
      · rfl
      · rename_i hji
        exact hanc j ((pair_lt (D.pair j i sj si hsj hsi) (by omega)).2.2.1 hq hh)
    · intro j sj hj hsj hq
      rw [getD_set hib,if_neg (by omega)]
      cases hL:Lb.getD j false with
      |false=>rfl
      |true=>
        obtain ⟨oj,hoj⟩:=hopsj j sj hsj
        have:=hancL j oj hL hoj i ((pair_lt (D.pair i j si sj hsi hsj) (by omega)).2.2.1 hh hq)
        rw [hif] at this;cases this
  · have hh:si.op.heavy=false:=by simpa using hh
    have hgrow:si.op.isLoad=true→∀ (j:Nat) sj,l[j]? = some sj→(k≤j∧j<i∨i≤j∧j<k∧sj.freshApp l i j=false)→sj.op.heavy=true→sj.op.grows=true∨sj.farApp chk si l j=true:=by
      intro hload j sj hsj hrange hheavy
      cases hq:sj.op.grows with
      |true=>exact .inl rfl
      |false=>
        cases hfa2:sj.farApp chk si l j with
        |true=>exact .inr rfl
        |false=>
        exfalso
        rcases hrange with ⟨h1,h2⟩ | ⟨h1,h2,hfa⟩
        · have e1:=hanc j ((pair_lt (D.pair j i sj si hsj hsi) h2).2.2.2 (.inl ⟨hheavy,hq,hload,hfa2⟩))
          have e2:=hk2 j sj h1 hsj hheavy
          rw [e1] at e2;cases e2
        · by_cases hji:j=i
          · subst hji
            rw [hsi] at hsj;injection hsj with hsj;subst hsj
            rw [hh] at hheavy;cases hheavy
          · have e1:=hk1 j sj h2 hsj hheavy
            obtain ⟨oj,hoj⟩:=hopsj j sj hsj
            have:=hancL j oj e1 hoj i ((pair_lt (D.pair i j si sj hsi hsj) (by omega)).2.2.2 (.inr ⟨hload,hheavy,hq,hfa,hfa2⟩))
            rw [hif] at this;cases this
    have hplain:=D.plain i si hsi
    have hopd:∀ x:SX,x.plain=true→(∀ t∈x.tmps,t∈si.looks)→∀ id∈(St.ev ⟨envT l vals st.env i,hps i,st.lo,st.mks⟩ x).ids,id<(hps k).length:=by
      intro x hx ht id hid
      rw [←HH.len]
      cases x with
      |val v=>
        simp only [SX.plain,List.isEmpty_iff] at hx
        simp only [St.ev] at hid
        rw [hx] at hid;cases hid
      |tmp t=>exact C_ids _ _ (hlook t (ht t (by simp [SX.tmps]))) id hid
    have hopdL:∀ xs:List SX,xs.all SX.plain=true→(∀ t∈xas xs,t∈si.looks)→∀ id∈idsL (xs.map (St.ev ⟨envT l vals st.env i,hps i,st.lo,st.mks⟩)),id<(hps k).length:=by
      intro xs
      induction xs with
      |nil=>intro _ _ id h;simp [idsL] at h
      |cons x xs ih=>
        intro hx ht id h
        simp only [List.all_cons,Bool.and_eq_true] at hx
        simp only [List.map_cons,idsL,List.mem_append] at h
        rcases h with h | h
        · exact hopd x hx.1 (fun t h=>ht t (by simp [xas,h])) id h
        · exact ih hx.2 (fun t h=>ht t (by simp [xas,h])) id h
    have hread:si.op.isLoad=true→∀ id∈si.op.reads (St.ev ⟨envT l vals st.env i,hps i,st.lo,st.mks⟩),id<(hps k).length:=by
      intro hload id hid
      cases hop:si.op with
      |load u q x=>rw [hop] at hid hplain;exact hopd x hplain (fun t h=>by simp [SOp.looks,hop,SO.tmps,h]) id hid
      |len q x=>rw [hop] at hid hplain;exact hopd x hplain (fun t h=>by simp [SOp.looks,hop,SO.tmps,h]) id hid
      |isnil q x=>rw [hop] at hid hplain;exact hopd x hplain (fun t h=>by simp [SOp.looks,hop,SO.tmps,h]) id hid
      |indexAddr q x y=>rw [hop] at hid hplain;exact hopd x hplain (fun t h=>by simp [SOp.looks,hop,SO.tmps,h]) id hid
      |slice q x y z u=>rw [hop] at hid hplain;exact hopd x hplain (fun t h=>by simp [SOp.looks,hop,SO.tmps,h]) id hid
      |look q kc z ok x y=>rw [hop] at hid hplain;exact hopd x hplain (fun t h=>by simp [SOp.looks,hop,SO.tmps,h]) id hid
      |call md q as=>rw [hop] at hid hplain;exact hopdL as hplain (fun t h=>by simp [SOp.looks,hop,SO.tmps,h]) id hid
      |callf md x as=>
        rw [hop] at hid hplain
        simp only [SO.loadsPlain,Bool.and_eq_true] at hplain
        simp only [SO.reads,List.mem_append] at hid
        rcases hid with hid | hid
        · exact hopd x hplain.1 (fun t h=>by simp [SOp.looks,hop,SO.tmps,h]) id hid
        · exact hopdL as hplain.2 (fun t h=>by simp [SOp.looks,hop,SO.tmps,h]) id hid
      |_=>rw [hop] at hload;simp [SO.isLoad] at hload
    have hfar:∀ id∈si.op.reads (St.ev ⟨envT l vals st.env i,hps i,st.lo,st.mks⟩),∀ (j:Nat) sj,l[j]? = some sj→sj.farApp chk si l j=true→(∃ sz bytes s u,sj.op=.append sz bytes (.tmp s) (.tmp u)∧litAt l j u=true∧id ∉ (lk (envT l vals st.env j) s).ids)∨(∃ k as,sj.op=.call .mem k as∧sj.guard=none∧id ∉ idsL (as.map (St.ev ⟨envT l vals st.env j,hps j,st.lo,st.mks⟩)))∨(∃ k as,sj.op=.call .allk k as∧sj.guard=none∧id∈idsL (as.map (St.ev ⟨envT l vals st.env j,hps j,st.lo,st.mks⟩)))∨∃ n s x,sj.op=.store false n (.tmp s) x∧(St.ev ⟨envT l vals st.env j,hps j,st.lo,st.mks⟩ x).ids=[]∧id ∉ (lk (envT l vals st.env j) s).ids:=by
      intro id hid j sj hsj hf
      unfold SOp.farApp at hf
      simp only [Bool.and_eq_true] at hf
      obtain ⟨hf1,hf2⟩:=hf
      have keyS:∀ s,s<1000000→s∈sj.looks→(∀ t∈si.op.tmps,(s,t)∈chk)→id ∉ (lk (envT l vals st.env j) s).ids:=by
        intro s hs6 hsl hall hm
        have key:∀ x:SX,x.plain=true→(∀ t∈x.tmps,t∈si.op.tmps)→id ∉ (St.ev ⟨envT l vals st.env i,hps i,st.lo,st.mks⟩ x).ids:=by
          intro x hx ht hix
          cases x with
          |val v=>
            simp only [SX.plain,List.isEmpty_iff] at hx
            simp only [St.ev] at hix
            rw [hx] at hix;cases hix
          |tmp t=>
            have htt:=ht t (by simp [SX.tmps])
            have hc:=hall t htt
            have hchk:=chk_far hchk hc hs6
            have e1:=env_late D hlen (vals:=vals) (env:=st.env) hsi (t:=t) (by simp [SOp.looks,htt]) ⟨_,hc,.inr (.inl rfl)⟩ l.length (by omega) (Nat.le_refl _)
            have e2:=env_late D hlen (vals:=vals) (env:=st.env) hsj (t:=s) hsl ⟨_,hc,.inl rfl⟩ l.length (Nat.le_of_lt (List.getElem?_eq_some_iff.1 hsj).1) (Nat.le_refl _)
            have:=hchk id (by rw [e2];exact hm)
            apply this
            rw [e1]
            exact hix
        cases hop2:si.op with
        |load u q x=>rw [hop2] at hid hplain;exact key x hplain (fun t h=>by simp [hop2,SO.tmps,h]) hid
        |len q x=>rw [hop2] at hid hplain;exact key x hplain (fun t h=>by simp [hop2,SO.tmps,h]) hid
        |isnil q x=>rw [hop2] at hid hplain;exact key x hplain (fun t h=>by simp [hop2,SO.tmps,h]) hid
        |indexAddr q x y=>rw [hop2] at hid hplain;exact key x hplain (fun t h=>by simp [hop2,SO.tmps,h]) hid
        |slice q x y z u=>rw [hop2] at hid hplain;exact key x hplain (fun t h=>by simp [hop2,SO.tmps,h]) hid
        |_=>rw [hop2] at hf1;cases hf1
      split at hf2
      · rename_i sz bytes s u hop
        simp only [Bool.and_eq_true,List.all_eq_true,List.contains_iff_mem,decide_eq_true_eq] at hf2
        obtain ⟨hlu,hs6,hall⟩:=hf2
        exact .inl ⟨sz,bytes,s,u,hop,hlu,keyS s hs6 (by simp [SOp.looks,hop,SO.tmps,SX.tmps]) hall⟩
      · rename_i k as hop
        simp only [Bool.and_eq_true,Option.isNone_iff_eq_none,List.all_eq_true] at hf2
        obtain ⟨hgd,hall⟩:=hf2
        refine .inr (.inl ⟨k,as,hop,hgd,?_⟩)
        have key2:∀ (xs:List SX),(∀ x∈xs,x∈as)→(∀ t,t∈xas xs→t∈sj.looks)→id ∉ idsL (xs.map (St.ev ⟨envT l vals st.env j,hps j,st.lo,st.mks⟩)):=by
          intro xs
          induction xs with
          |nil=>intro _ _ hi;simp [idsL] at hi
          |cons x xs ihx=>
            intro hsub htm hi
            simp only [List.map_cons,idsL,List.mem_append] at hi
            rcases hi with hi | hi
            · have hx:=hall x (hsub x (by simp))
              cases x with
              |val v=>
                simp only [List.isEmpty_iff] at hx
                simp only [St.ev] at hi
                rw [hx] at hi;cases hi
              |tmp s=>
                simp only [List.all_eq_true,List.contains_iff_mem,Bool.and_eq_true,decide_eq_true_eq] at hx
                exact keyS s hx.1 (htm s (by simp [xas,SX.tmps])) hx.2 hi
            · exact ihx (fun y hy=>hsub y (by simp [hy])) (fun t ht=>htm t (by simp [xas,ht])) hi
        exact key2 as (fun _ h=>h) (fun t ht=>by simp [SOp.looks,hop,SO.tmps,ht])
      · rename_i k as hop
        simp only [Bool.and_eq_true,Option.isNone_iff_eq_none,List.any_eq_true] at hf2
        obtain ⟨hgd,x,hxm,hx⟩:=hf2
        refine .inr (.inr (.inl ⟨k,as,hop,hgd,?_⟩))
        cases x with
        |val v=>cases hx
        |tmp s=>
          simp only [List.all_eq_true,List.contains_iff_mem] at hx
          have hsl:s∈sj.looks:=by
            have:s∈xas as:=xas_mem hxm (by simp [SX.tmps])
            simp [SOp.looks,hop,SO.tmps,this]
          have key:∀ x:SX,x.plain=true→(∀ t∈x.tmps,t∈si.op.tmps)→id∈(St.ev ⟨envT l vals st.env i,hps i,st.lo,st.mks⟩ x).ids→id∈(lk (envT l vals st.env j) s).ids:=by
            intro x hx2 ht hix
            cases x with
            |val v=>
              simp only [SX.plain,List.isEmpty_iff] at hx2
              simp only [St.ev] at hix
              rw [hx2] at hix;cases hix
            |tmp t=>
              have htt:=ht t (by simp [SX.tmps])
              have hc:=hx t htt
              have e1:=env_late D hlen (vals:=vals) (env:=st.env) hsi (t:=t) (by simp [SOp.looks,htt]) ⟨_,hc,.inr (.inl rfl)⟩ l.length (by omega) (Nat.le_refl _)
              have e2:=env_late D hlen (vals:=vals) (env:=st.env) hsj (t:=s) hsl ⟨_,hc,.inr (.inr rfl)⟩ l.length (Nat.le_of_lt (List.getElem?_eq_some_iff.1 hsj).1) (Nat.le_refl _)
              have:=chk_sub hchk hc id (by rw [e1];exact hix)
              rw [e2] at this
              exact this
          have hin:id∈(lk (envT l vals st.env j) s).ids:=by
            cases hop2:si.op with
            |load u q x=>rw [hop2] at hid hplain;exact key x hplain (fun t h=>by simp [hop2,SO.tmps,h]) hid
            |len q x=>rw [hop2] at hid hplain;exact key x hplain (fun t h=>by simp [hop2,SO.tmps,h]) hid
            |isnil q x=>rw [hop2] at hid hplain;exact key x hplain (fun t h=>by simp [hop2,SO.tmps,h]) hid
            |indexAddr q x y=>rw [hop2] at hid hplain;exact key x hplain (fun t h=>by simp [hop2,SO.tmps,h]) hid
            |slice q x y z u=>rw [hop2] at hid hplain;exact key x hplain (fun t h=>by simp [hop2,SO.tmps,h]) hid
            |_=>rw [hop2] at hf1;cases hf1
          exact idsL_mem (x:=St.ev ⟨envT l vals st.env j,hps j,st.lo,st.mks⟩ (.tmp s)) (List.mem_map_of_mem hxm) hin
      · rename_i n s u hop
        simp only [Bool.and_eq_true,List.all_eq_true,List.contains_iff_mem,decide_eq_true_eq] at hf2
        obtain ⟨⟨hv6,hvv⟩,hs6,hall⟩:=hf2
        refine .inr (.inr (.inr ⟨n,s,.tmp u,hop,?_,keyS s hs6 (by simp [SOp.looks,hop,SO.tmps,SX.tmps]) hall⟩))
        show (lk (envT l vals st.env j) u).ids=[]
        have e2:=env_late D hlen (vals:=vals) (env:=st.env) hsj (t:=u) (by simp [SOp.looks,hop,SO.tmps,SX.tmps]) ⟨_,hvv,.inl rfl⟩ l.length (Nat.le_of_lt (List.getElem?_eq_some_iff.1 hsj).1) (Nat.le_refl _)
        have this:=chk_far hchk hvv hv6
        rw [e2] at this
        cases hi:(lk (envT l vals st.env j) u).ids with
        |nil=>rfl
        |cons a t=>exact absurd (by rw [hi];simp) (this a (by rw [hi];simp))
      · rename_i n s v hop
        simp only [Bool.and_eq_true,List.all_eq_true,List.contains_iff_mem,decide_eq_true_eq,List.isEmpty_iff] at hf2
        obtain ⟨hv,hs6,hall⟩:=hf2
        exact .inr (.inr (.inr ⟨n,s,.val v,hop,hv,keyS s hs6 (by simp [SOp.looks,hop,SO.tmps,SX.tmps]) hall⟩))
      · cases hf2
    have hdd:∀ (p q:Nat) sp sq,l[p]? = some sp→l[q]? = some sq→p<q→∀ d,sp.dst=some d→sq.dst≠some d:=fun p q sp sq h1 h2 h3 d h4=>(pair_lt (D.pair p q sp sq h1 h2) h3).1 d h4
    have hA:si.op.isLoad=true→∀ id∈si.op.reads (St.ev ⟨envT l vals st.env i,hps i,st.lo,st.mks⟩),∀ b,(hps i)[id]? = some b→(hps k)[id]? = some b:=by
      intro hload id hid b hb
      have hlt:=hread hload id hid
      rcases Nat.le_total k i with hki | hik
      · obtain ⟨_,hq⟩:=hps_keep (id:=id) hs hdd i hki (by omega) (fun j sj q1 q2 hsj hhv=>by
          rcases hgrow hload j sj hsj (.inl ⟨q1,q2⟩) hhv with h | h
          · exact .inl h
          · rcases hfar id hid j sj hsj h with h | h
            · exact .inr (.inr (.inl h))
            · exact .inr (.inr (.inr h)))
        rw [hq hlt] at hb
        exact hb
      · obtain ⟨_,hq⟩:=hps_keep (id:=id) hs hdd k hik (by omega) (fun j sj q1 q2 hsj hhv=>by
          cases hfa:sj.freshApp l i j with
          |true=>exact .inr (.inl rfl)
          |false=>
            rcases hgrow hload j sj hsj (.inr ⟨q1,q2,hfa⟩) hhv with h | h
            · exact .inl h
            · rcases hfar id hid j sj hsj h with h | h
              · exact .inr (.inr (.inl h))
              · exact .inr (.inr (.inr h)))
        rw [hq (List.getElem?_eq_some_iff.1 hb).1]
        exact hb
    obtain ⟨e1,e2⟩:=step_light (hp2:=hps k) (lo':=st.lo) (mk':=st.mks) hh hstep henv' hA
    refine go k _ rfl e2 hk ?_ ?_
    · intro j sj hj hsj hq
      rw [getD_set hib]
      split
      · rfl
      · exact hk1 j sj hj hsj hq
    · intro j sj hj hsj hq
      rw [getD_set hib,if_neg]
      · exact hk2 j sj hj hsj hq
      · rintro rfl
        rw [hsi] at hsj;injection hsj with hsj;subst hsj
        rw [hh] at hq;cases hq
theorem ready_all {ops:Array Oper} (hedge:∀ (j:Nat) o,ops[j]? = some o→∀ e∈ons o,e<j) {Lb:Array Bool} (hsz:Lb.size=ops.size) (hr:Region.ready .any ops Lb=[]):∀ j,j<ops.size→Lb.getD j false=true:=by
  intro j
  induction j using Nat.strongRecOn with
  |_ j ih=>
    intro hj
    cases hL:Lb.getD j false with
    |true=>rfl
    |false=>
      exfalso
      have hmem:j∈Region.ready .any ops Lb:=by
        refine mem_ready.2 ⟨?_,ops[j],Array.getElem?_eq_getElem hj,?_⟩
        · rw [Array.getD_eq_getD_getElem?] at hL ⊢
          rw [Array.getElem?_eq_getElem (by omega)] at hL ⊢
          exact hL
        · intro e he hb
          have hlt:e.on<j:=hedge j ops[j] (Array.getElem?_eq_getElem hj) e.on (by
            simp only [ons,List.mem_map,List.mem_filter]
            exact ⟨e,⟨by simpa using he,hb⟩,rfl⟩)
          exact ih e.on hlt (by omega)
      rw [hr] at hmem
      cases hmem
theorem count_set {Lb:Array Bool} {i:Nat} (hi:i<Lb.size) (hf:Lb.getD i false=false):(Lb.setIfInBounds i true).toList.count true=Lb.toList.count true+1:=by
  rw [Array.toList_setIfInBounds,List.count_set (by simpa using hi)]
  have h1:Lb.toList[i]'(by simpa using hi)=false:=by
    rw [Array.getD_eq_getD_getElem?,Array.getElem?_eq_getElem hi] at hf
    simpa using hf
  rw [h1]
  simp
theorem draw_ok {chk:List (Nat × Nat)} {ops:Array Oper} {l:List SOp} (hD:drawOk chk ops l=true) (hlen:l.length=ops.size) (hcs:∀ (i:Nat) so,l[i]? = some so→∃ o,ops[i]? = some o∧csop P fid nt ops o=some so.base)
    {st st':St} {m0:Mem} {a0:Act} {w00:World} (ht:Trace P fid true l st st') (hchk:chkOk chk st'.env=true) (S:SInv P fid fr0 fr w0 nt m0 st a0 w00) {Q:Exit→Act→World→Prop}
    (hQ:∀ m' a' w',Fwd fr st.lo m0 m'→st'.lo=st.lo→SInv P fid fr0 fr w0 nt m' st' a' w'→Q .normal a' w'):wpAnyIn (FF ro) n P .any ops Q ops.size (Array.replicate ops.size false) a0 w00.drew:=by
  obtain ⟨vals,hps,h0,hs,rfl⟩:=trace_fn ht
  have D:=drawn_of hD hlen
  have fin:∀ Lb a w,RI P fid fr w0 nt ops l vals hps st m0 a0.defers Lb a w→Region.ready .any ops Lb=[]→Q .normal a w:=by
    intro Lb a w R hr
    have hall:=ready_all D.edge R.size hr
    have hall':∀ (j:Nat) sj,l[j]? = some sj→Lb.getD j false=true:=fun j sj h=>hall j (by have:=(List.getElem?_eq_some_iff.1 h).1;omega)
    obtain ⟨m,k,hmP,hmcd,hE,HH,hk,hk1,hk2,htm,hot⟩:=R.mem
    have heq:hps l.length=hps k:=hps_const hs hk (Nat.le_refl _) (by
      intro j sj h1 h2 hsj
      cases hq:sj.op.heavy with
      |false=>rfl
      |true=>
        have e1:=hall' j sj hsj
        have e2:=hk2 j sj h1 hsj hq
        rw [e1] at e2;cases e2)
    have hl1:st.lo≤(hps l.length).length:=by
      rw [heq,←HH.len]
      have h1:m0.bl.length≤m.bl.length:=by
        rcases Nat.eq_zero_or_pos m0.bl.length with h | h
        · omega
        · have:=hE.le.bl (m0.bl.length - 1) _ (List.getElem?_eq_getElem (by omega))
          have:=(List.getElem?_eq_some_iff.1 this).1
          omega
      have:=S.l
      have:=S.h.len
      omega
    refine hQ m a w (hE.fwd (by rw [S.h.len];exact S.l)) rfl ⟨hmP,hmcd,by show HInv fr w0 m (hps l.length) w [];rw [heq];exact HH,?_,R.n,by rw [R.d];exact S.d,hl1⟩
    intro s
    show C m (lk (envT l vals st.env l.length) s) _
    by_cases hex:∃ (j:Nat) (sj:SOp),l[j]? = some sj∧sj.dst=some s
    · obtain ⟨j,sj,hsj,hd⟩:=hex
      rw [envT_hit hsj hd l.length (List.getElem?_eq_some_iff.1 hsj).1 (fun j' so h1 h2 h3=>(pair_lt (D.pair j j' sj so hsj h3) h1).1 s hd)]
      exact htm j sj s (hall' j sj hsj) hsj hd
    · rw [envT_miss l.length (fun j so h1 h2 h3=>hex ⟨j,so,h2,h3⟩)]
      exact hot s (fun j sj _ hsj hd=>hex ⟨j,sj,hsj,hd⟩)
  have main:∀ fuel Lb a w,RI P fid fr w0 nt ops l vals hps st m0 a0.defers Lb a w→ops.size≤fuel+Lb.toList.count true→wpAnyIn (FF ro) n P .any ops Q fuel Lb a w:=by
    intro fuel
    induction fuel with
    |zero=>
      intro Lb a w R hc
      have hr:Region.ready .any ops Lb=[]:=by
        cases hq:Region.ready .any ops Lb with
        |nil=>rfl
        |cons i q=>
          exfalso
          obtain ⟨hun,_⟩:=mem_ready.1 (show i∈Region.ready .any ops Lb by rw [hq];simp)
          obtain ⟨hib,hif⟩:=getD_true hun
          have h1:=count_set hib hif
          have h2:(Lb.setIfInBounds i true).toList.count true≤(Lb.setIfInBounds i true).toList.length:=List.count_le_length
          have h3:(Lb.setIfInBounds i true).toList.length=Lb.size:=by simp
          rw [h1,h3] at h2
          have:=R.size
          omega
      exact ⟨hr,fin Lb a w R hr⟩
    |succ fuel ih=>
      intro Lb a w R hc
      refine ⟨fun hr=>fin Lb a w R hr,fun i hi=>?_⟩
      obtain ⟨hun,_⟩:=mem_ready.1 hi
      obtain ⟨hib,hif⟩:=getD_true hun
      refine draw_step D hlen hcs hs hchk R hi ?_
      intro a' w' R'
      refine ih _ a' w' R' ?_
      rw [count_set hib hif]
      omega
  refine main ops.size _ a0 w00.drew ?_ (by omega)
  have hfalse:∀ j,(Array.replicate ops.size false).getD j false=false:=by
    intro j
    rw [Array.getD_eq_getD_getElem?,Array.getElem?_replicate]
    split<;>rfl
  refine ⟨by simp,?_,⟨m0,0,S.P,S.cd,Ext.refl _ _,by rw [h0];exact S.h.drew,Nat.zero_le _,?_,?_,?_,?_⟩,S.n,rfl⟩
  · intro j o h;rw [hfalse] at h;cases h
  · intro j sj h;omega
  · intro j sj _ _ _;exact hfalse j
  · intro j sj t h;rw [hfalse] at h;cases h
  · intro s _;exact S.e s
end
end Go.Proofs.Ytfbfbennheeglaa
