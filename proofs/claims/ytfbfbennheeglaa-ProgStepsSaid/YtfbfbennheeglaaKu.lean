import Derived.Test.YtfbfbennheeglaaKk
import Derived.Maps.RangeRun
import Derived.MapKept
import Derived.RangeFuncRecord
namespace Go.Proofs.Ytfbfbennheeglaa
set_option linter.unusedSimpArgs false
set_option linter.unusedVariables false
open Go.RowKit
section
variable {P:Program} {fid:FuncId→Option Nat} {fr:Nat→Prop} {w0 w:World} {m:Mem} {hp hp':List Blk} {env:List (Nat × AV)} {a:Act} {o:Oper} {v:AV} {l0:Nat} {mk:List Mark} {fl:List Nat}
theorem kc_int {t:TypeId} (h:kcOf P t=some 1):∃ k,P.underlying t=some (.int k):=by
 unfold kcOf at h
 split at h
 ·exact ⟨_,by assumption⟩
 ·cases h
 ·simp only [obI] at h
  obtain ⟨l,_,h⟩:=h
  split at h
  ·cases h
  ·injection h with h;omega
 ·cases h
theorem kc_str {t:TypeId} (h:kcOf P t=some 2):P.underlying t=some .string:=by
 unfold kcOf at h
 split at h
 ·cases h
 ·assumption
 ·simp only [obI] at h
  obtain ⟨l,_,h⟩:=h
  split at h
  ·cases h
  ·injection h with h;omega
 ·cases h
theorem kc_struct {t:TypeId} {n:Nat} (h:kcOf P t=some (3+n)):∃ fs l,P.underlying t=some (.struct fs)∧encD l=n∧leafT P 4 t=some l:=by
 unfold kcOf at h
 split at h
 ·injection h with h;omega
 ·injection h with h;omega
 ·rename_i fs hf
  simp only [obI] at h
  obtain ⟨l,hl,h⟩:=h
  split at h
  ·cases h
  ·injection h with h;exact ⟨fs,l,hf,by omega,hl⟩
 ·cases h
theorem leaf_eq {x y:AV} {u v:Value} (h:aeq x y=some true) (hx:C m x u) (hy:C m y v):u=v:=by
 cases x<;>cases y<;>simp only [aeq,reduceCtorEq] at h
 all_goals simp only [C] at hx hy;subst hx;subst hy
 ·simpa using h
 ·split at h
  ·rename_i hk;subst hk;simpa using h
  ·cases h
 ·simpa using h
theorem leaves_eq:∀ {xs ys:List AV} {g k:Nat→Option Value},aeqL xs ys=some true→CL m xs g→CL m ys k→∀ i,i<xs.length→g i=k i
 | [],ys,g,k,h,_,_,i,hi=>by simp at hi
 |x::xs,[],g,k,h,_,_,i,hi=>by simp [aeqL] at h
 |x::xs,y::ys,g,k,h,h1,h2,i,hi=>by
  simp only [aeqL,obI,omI] at h
  obtain ⟨b,hb,c,hc,hbc⟩:=h
  simp only [Bool.and_eq_true] at hbc
  obtain ⟨rfl,rfl⟩:=hbc
  simp only [CL] at h1 h2
  obtain ⟨⟨u,hu,hCu⟩,h1⟩:=h1
  obtain ⟨⟨u',hu',hCu'⟩,h2⟩:=h2
  cases i with
  |zero=>rw [hu,hu',leaf_eq hb hCu hCu']
  |succ i=>exact leaves_eq hc h1 h2 i (by simpa using hi)
theorem keq_eq {x y:AV} {u v:Value} (h:keq x y=some true) (hx:C m x u) (hy:C m y v):u=v:=by
 by_cases hxa:∃ cs ds,x=.agg cs∧y=.agg ds
 ·obtain ⟨cs,ds,rfl,rfl⟩:=hxa
  simp only [keq] at h
  simp only [C] at hx hy
  obtain ⟨_,us,rfl,s1,c1⟩:=hx
  obtain ⟨_,vs,rfl,s2,c2⟩:=hy
  have hl:=aeqL_len h
  congr 1
  apply Array.ext (by omega)
  intro i h1 h2
  have:=leaves_eq h c1 c2 i (by omega)
  rw [Array.getElem?_eq_getElem h1,Array.getElem?_eq_getElem h2] at this
  exact Option.some.inj this
 ·have h':aeq x y=some true:=by
   cases x<;>cases y<;>first | exact h | exact absurd ⟨_,_,rfl,rfl⟩ hxa
  exact leaf_eq h' hx hy
theorem leaf_bits {x:AV} {u:Value} (h:leafc x=true) (hx:C m x u) (n:Nat):Instr.sameBits n u u=true:=by
 cases x<;>simp only [leafc,Bool.false_eq_true] at h
 all_goals simp only [C] at hx;subst hx
 all_goals cases n<;>simp [Instr.sameBits,beq_toListBytes]
theorem key_bits {x:AV} {u:Value} {kc:Nat} (h:kOk kc x=true) (hx:C m x u):Instr.sameBits 10000 u u=true:=by
 cases x<;>simp only [kOk,Bool.false_eq_true] at h
 case int=>exact leaf_bits (x:=.int _ _) rfl hx _
 case str=>exact leaf_bits (x:=.str _) rfl hx _
 case agg cs=>
  simp only [Bool.and_eq_true,List.all_eq_true] at h
  simp only [C] at hx
  obtain ⟨_,us,rfl,s1,c1⟩:=hx
  rw [CL_iff] at c1
  show (us.size == us.size && (us.toList.zip us.toList).all fun (x,y)=>Instr.sameBits 9999 x y)=true
  simp only [beq_self_eq_true,Bool.true_and,List.all_eq_true]
  rintro ⟨p,q⟩ hpq
  obtain ⟨i,hi,e⟩:=List.mem_iff_getElem.1 hpq
  simp only [List.getElem_zip,Prod.mk.injEq] at e
  obtain ⟨e1,e2⟩:=e
  simp only [List.length_zip,Nat.min_self,Array.length_toList] at hi
  obtain ⟨x,hx2⟩:∃ x,cs[i]? = some x:=⟨cs[i]'(by omega),List.getElem?_eq_getElem (by omega)⟩
  obtain ⟨u,hu,hC⟩:=c1 i x hx2
  have hp:p=u:=by
   rw [Array.getElem?_eq_getElem hi] at hu
   rw [←e1];exact Option.some.inj hu
  have hq:q=u:=by
   rw [Array.getElem?_eq_getElem hi] at hu
   rw [←e2];exact Option.some.inj hu
  subst hp;subst hq
  exact leaf_bits (h.2 x (List.mem_of_getElem? hx2)) hC _
def hits (f:Option Nat) (i:Nat) (es:List MapEntry):Option (Nat × Value):=f.bind fun j=>(es[j]?).map fun e=>(i+j,e.val)
theorem hits_succ (f:Option Nat) (i:Nat) (e:MapEntry) (es:List MapEntry):hits (f.map (·+1)) i (e::es)=hits f (i+1) es:=by
 cases f with
 |none=>rfl
 |some j=>simp [hits];congr 1;funext;congr 1;omega
theorem find_asking {t:TypeId} {k:AV} {u:Value} (he:∀ x v b,keq k x=some b→C m x v→(Op.equal t u v).run P w=.ok b w):∀ (ks:List AV) (es:List MapEntry) (f:Option Nat) (i:Nat),kfind k ks=some f→CL m ks (fun i=>(es[i]?).map (·.key))→ks.length=es.length→(Instr.findAsking t u es i).run P w=.ok (hits f i es) w
 | [],[],f,i,h,_,_=>by simp only [kfind] at h;injection h with h;subst h;rfl
 | [],_::_,_,_,_,_,h=>by simp at h
 |_::_,[],_,_,_,_,h=>by simp at h
 |x::ks,e::es,f,i,h,hc,hl=>by
  simp only [kfind,obI] at h
  obtain ⟨b,hb,h⟩:=h
  simp only [CL,List.getElem?_cons_zero,Option.map_some] at hc
  obtain ⟨⟨y,hy,hCy⟩,hc⟩:=hc
  injection hy with hy;subst hy
  simp only [Instr.findAsking,Sem.run_bind,he x _ b hb hCy,Result.andThen_ok]
  cases b
  ·simp only [Bool.false_eq_true,if_false,omI] at h ⊢
   obtain ⟨f',hf,rfl⟩:=h
   rw [hits_succ]
   exact find_asking he ks es f' (i+1) hf (by simpa using hc) (by simpa using hl)
  ·simp only [if_true] at h ⊢
   injection h with h;subst h
   simp [hits]
theorem find_now {d:TypeDesc} {k:AV} {u:Value} (he:∀ x v b,keq k x=some b→C m x v→Instr.sameNow d u v=some b):∀ (ks:List AV) (es:List MapEntry) (f:Option Nat) (i:Nat),kfind k ks=some f→CL m ks (fun i=>(es[i]?).map (·.key))→ks.length=es.length→Instr.findNow d u es i=some (hits f i es)
 | [],[],f,i,h,_,_=>by simp only [kfind] at h;injection h with h;subst h;rfl
 | [],_::_,_,_,_,_,h=>by simp at h
 |_::_,[],_,_,_,_,h=>by simp at h
 |x::ks,e::es,f,i,h,hc,hl=>by
  simp only [kfind,obI] at h
  obtain ⟨b,hb,h⟩:=h
  simp only [CL,List.getElem?_cons_zero,Option.map_some] at hc
  obtain ⟨⟨y,hy,hCy⟩,hc⟩:=hc
  injection hy with hy;subst hy
  simp only [Instr.findNow,he x _ b hb hCy]
  cases b
  ·simp only [Bool.false_eq_true,if_false,omI] at h ⊢
   obtain ⟨f',hf,rfl⟩:=h
   rw [hits_succ]
   exact find_now he ks es f' (i+1) hf (by simpa using hc) (by simpa using hl)
  ·simp only [if_true] at h
   injection h with h;subst h
   simp [hits]
theorem find_ok {t:TypeId} {kc:Nat} {k:AV} {u:Value} (hk:kcOf P t=some kc) {ks:List AV} {f:Option Nat} (hf:kget kc k ks=some f) (hC:C m k u) {es:List MapEntry} (hks:CL m ks (fun i=>(es[i]?).map (·.key))) (hl:ks.length=es.length):(Instr.findKey t u es).run P w=.ok (hits f 0 es) w:=by
 unfold kget at hf
 split at hf
 case isFalse=>cases hf
 rename_i hok
 cases k<;>simp only [kOk,Bool.false_eq_true] at hok
 case int q n=>
  have:kc=1:=by simpa using hok
  subst this
  obtain ⟨q',ht⟩:=kc_int hk
  simp only [C] at hC;subst hC
  have:=find_now (m:=m) (d:=.int q') (k:=.int q n) (u:=.int q n) (fun x v b h hx=>by
   cases x<;>simp only [keq,aeq,reduceCtorEq] at h
   simp only [C] at hx;subst hx
   split at h
   ·rename_i hh;subst hh;simp [Instr.sameNow];simpa using h
   ·cases h) ks es f 0 hf hks hl
  simp [Instr.findKey,run_underlying ht,this]
 case str s=>
  have:kc=2:=by simpa using hok
  subst this
  have ht:=kc_str hk
  simp only [C] at hC;subst hC
  have:=find_now (m:=m) (d:=.string) (k:=.str s) (u:=.string ⟨s.toArray⟩) (fun x v b h hx=>by
   cases x<;>simp only [keq,aeq,reduceCtorEq] at h
   simp only [C] at hx;subst hx
   injection h with h;subst h
   simp [Instr.sameNow,beq_toListBytes,ByteArray.toList_eq]) ks es f 0 hf hks hl
  simp [Instr.findKey,run_underlying ht,this]
 case agg cs=>
  simp only [Bool.and_eq_true,beq_iff_eq] at hok
  obtain ⟨hkc,hlf⟩:=hok
  subst hkc
  obtain ⟨fs,l,ht,hen,hlt⟩:=kc_struct hk
  simp only [C] at hC
  obtain ⟨hoc,us,rfl,s1,c1⟩:=hC
  have hE:l=cs.map digA:=encD_inj (leafT_le 4 t l hlt) (fun x hx=>by simp at hx;obtain ⟨a,_,rfl⟩:=hx;exact digA_le a) (by rw [hen,encA_map])
  have hq:∀ x v b,keq (.agg cs) x=some b→C m x v→(Op.equal t (.agg us) v).run P w=.ok b w:=by
   intro x v b h hx
   cases x<;>simp only [keq,aeq,reduceCtorEq] at h
   rename_i ds
   simp only [C] at hx
   obtain ⟨_,vs,rfl,s2,c2⟩:=hx
   obtain ⟨p,q,e1,e2,e3⟩:=eqT_ok (P:=P) (m:=m) (w:=w) 4 t l cs ds b 10000 0 us vs hlt (by omega) hE (by simpa using c1) (by simpa using c2) h
   have hagg:(isAgg t).run P w=.ok true w:=by simp [isAgg,run_underlying ht]
   have hlen:szOf P t=some l.length:=by
    simp only [leafT,ht] at hlt
    split at hlt
    ·cases hlt
    ·simp only [obI] at hlt
     obtain ⟨l',_,hlt⟩:=hlt
     split at hlt
     ·rename_i hz;injection hlt with hlt;subst hlt;exact hz
     ·cases hlt
   have hl1:l.length=us.size:=by rw [hE,s1];simp
   have hl2:l.length=vs.size:=by rw [hE,s2,←aeqL_len h];simp
   have hsz:=szOf_run hlen w
   simp only [Go.part,Sem.run_bind,hagg,hsz,Result.andThen_ok,if_true] at e1 e2
   have g1:p=.agg us:=by simp at e1;rw [←e1,hl1];simp
   have g2:q=.agg vs:=by simp at e2;rw [←e2,hl2];simp
   rw [g1,g2] at e3
   exact e3
  cases hes:es with
  |nil=>
   subst hes
   have:ks=[]:=by simpa using hl
   subst this
   simp only [kfind] at hf;injection hf with hf;subst hf
   simp [Instr.findKey,run_underlying ht,Instr.findNow,hits]
  |cons e es'=>
   have hnow:Instr.findNow (.struct fs) (.agg us) (e::es') 0=none:=by simp [Instr.findNow,Instr.sameNow]
   have:=find_asking (P:=P) (w:=w) (m:=m) hq ks es f 0 hf hks hl
   rw [hes] at this
   simp [Instr.findKey,run_underlying ht,hnow,this]
theorem check_flat (b:Bool) (n:Nat) {t:TypeId} {u:Value} (hk:(∃ k,P.underlying t=some (.int k))∨P.underlying t=some .bool∨P.underlying t=some .string):(Instr.checkKey b (n+1) t u).run P w=.ok () w:=by
 rcases hk with ⟨k,h⟩ | h | h<;>simp [Instr.checkKey,run_underlying h]
def ChkT (P:Program) (m:Mem) (w:World) (d:Nat):Prop:=∀ (t:TypeId) (l:List Nat) (as:List AV) (e off:Nat) (xs:Array Value) (b:Bool),leafT P d t=some l→d≤e→l=as.map digA→CL m as (fun j=>xs[off+j]?)→∃ u,(Go.part t xs off).run P w=.ok u w∧(Instr.checkKey b e t u).run P w=.ok () w
theorem chkFields {d e:Nat} {xs:Array Value} {b:Bool} (hT:ChkT P m w d) (he:d≤e):∀ (fs:List Field) (i:Nat) (l:List Nat) (as:List AV),leafF P (leafT P d) i fs=some l→l=as.map digA→CL m as (fun j=>xs[i+j]?) →
  Sem.run P (forIn fs PUnit.unit fun f __s=>
      if f.name≠ "_" then do
       let __do_lift ← Go.part f.type xs f.offset
       Instr.checkKey b e f.type __do_lift
       pure (ForInStep.yield PUnit.unit)
      else pure (ForInStep.yield PUnit.unit)) w=.ok PUnit.unit w
 | [],i,l,as,hf,hl,_=>by simp
 |f::fs,i,l,as,hf,hl,h1=>by
  simp only [leafF] at hf
  split at hf
  case isFalse=>cases hf
  rename_i hn
  simp only [Bool.and_eq_true,bne_iff_ne,ne_eq,beq_iff_eq] at hn
  obtain ⟨f1,f2⟩:=hn
  simp only [obI,omI] at hf
  obtain ⟨a,ha,c,hc,rfl⟩:=hf
  have e1:a=(as.take a.length).map digA:=by rw [List.map_take,←hl];simp
  have e2:c=(as.drop a.length).map digA:=by rw [List.map_drop,←hl];simp
  obtain ⟨u,p1,p2⟩:=hT f.type a (as.take a.length) e i xs b ha he e1 (CL_take h1 _)
  have ih:=chkFields (b:=b) hT he fs (i+a.length) c (as.drop a.length) hc e2 (by simpa only [Nat.add_assoc] using CL_drop h1 a.length)
  simp only [List.forIn_cons,ne_eq,f1,not_false_eq_true,if_true,Sem.run_bind,f2,p1,p2,Result.andThen_ok,Sem.run_pure]
  simpa only [ne_eq] using ih
theorem chk_one {t:TypeId} {as:List AV} {e off n:Nat} {xs:Array Value} {b:Bool} (he:1≤e) (hk:(∃ k,P.underlying t=some (.int k))∨P.underlying t=some .bool∨P.underlying t=some .string) (hl:[n]=as.map digA) (h1:CL m as (fun j=>xs[off+j]?)):∃ u,(Go.part t xs off).run P w=.ok u w∧(Instr.checkKey b e t u).run P w=.ok () w:=by
 obtain ⟨d,rfl⟩:∃ d,e=d+1:=⟨e - 1,by omega⟩
 have hal:as.length=1:=by have:=congrArg List.length hl;simpa using this.symm
 match as,hal with
 | [a],_=>
  simp only [CL] at h1
  obtain ⟨⟨u,hu,hCu⟩,_⟩:=h1
  simp only [Nat.add_zero] at hu
  exact ⟨u,by simp [Go.part,isAgg_flat hk w,hu],check_flat _ _ hk⟩
theorem chkT_ok:∀ d,ChkT P m w d
 |0=>fun t l as e off xs b h=>by simp [leafT] at h
 |d+1=>by
  intro t l as e off xs b h he hl h1
  rw [leafT] at h
  split at h
  ·rename_i k hk
   injection h with h;subst h
   exact chk_one (by omega) (.inl ⟨k,hk⟩) hl h1
  ·rename_i hk
   injection h with h;subst h
   exact chk_one (by omega) (.inr (.inl hk)) hl h1
  ·rename_i hk
   injection h with h;subst h
   exact chk_one (by omega) (.inr (.inr hk)) hl h1
  ·rename_i fs hk
   split at h
   ·cases h
   simp only [obI] at h
   obtain ⟨l',hl',h⟩:=h
   split at h
   case isFalse=>cases h
   rename_i hz
   injection h with h;subst h
   obtain ⟨e,rfl⟩:∃ e',e=e'+1:=⟨e - 1,by omega⟩
   have hagg:(isAgg t).run P w=.ok true w:=by simp [isAgg,run_underlying hk]
   have hsz:=szOf_run hz w
   have hla:as.length=l'.length:=by rw [hl];simp
   have hcut:CL m as (fun j=>(xs.extract off (off+l'.length))[0+j]?):=by
    rw [CL_iff] at h1 ⊢
    intro j x hx
    obtain ⟨u,hu,hCu⟩:=h1 j x hx
    refine ⟨u,?_,hCu⟩
    have hj:j<as.length:=by
     rcases Nat.lt_or_ge j as.length with h | h
     ·exact h
     ·rw [List.getElem?_eq_none h] at hx;cases hx
    have hb:=(Array.getElem?_eq_some_iff.1 hu).1
    rw [Nat.zero_add,Array.getElem?_extract,if_pos (by omega)]
    exact hu
   refine ⟨.agg (xs.extract off (off+l'.length)),by simp [Go.part,hagg,hsz],?_⟩
   have:=chkFields (P:=P) (m:=m) (w:=w) (b:=b) (e:=e) (chkT_ok d) (by omega) fs.toList 0 l' as hl' hl hcut
   simp only [Instr.checkKey,Sem.run_bind,run_underlying hk,Result.andThen_ok,←Array.forIn_toList]
   rw [this]
   simp
  ·cases h
theorem check_ok (b:Bool) {t:TypeId} {kc:Nat} {k:AV} {u:Value} (hk:kcOf P t=some kc) (hok:kOk kc k=true) (hC:C m k u):(Instr.checkKey b 10000 t u).run P w=.ok () w:=by
 cases k<;>simp only [kOk,Bool.false_eq_true] at hok
 case int q n=>
  have:kc=1:=by simpa using hok
  subst this
  exact check_flat _ _ (.inl (kc_int hk))
 case str s=>
  have:kc=2:=by simpa using hok
  subst this
  exact check_flat _ _ (.inr (.inr (kc_str hk)))
 case agg cs=>
  simp only [Bool.and_eq_true,beq_iff_eq] at hok
  obtain ⟨hkc,hlf⟩:=hok
  subst hkc
  obtain ⟨fs,l,ht,hen,hlt⟩:=kc_struct hk
  simp only [C] at hC
  obtain ⟨hoc,us,rfl,s1,c1⟩:=hC
  have hE:l=cs.map digA:=encD_inj (leafT_le 4 t l hlt) (fun x hx=>by simp at hx;obtain ⟨a,_,rfl⟩:=hx;exact digA_le a) (by rw [hen,encA_map])
  obtain ⟨p,e1,e2⟩:=chkT_ok (P:=P) (m:=m) (w:=w) 4 t l cs 10000 0 us b hlt (by omega) hE (by simpa using c1)
  have hagg:(isAgg t).run P w=.ok true w:=by simp [isAgg,run_underlying ht]
  have hlen:szOf P t=some l.length:=by
   simp only [leafT,ht] at hlt
   split at hlt
   ·cases hlt
   ·simp only [obI] at hlt
    obtain ⟨l',_,hlt⟩:=hlt
    split at hlt
    ·rename_i hz;injection hlt with hlt;subst hlt;exact hz
    ·cases hlt
  have hl1:l.length=us.size:=by rw [hE,s1];simp
  have hsz:=szOf_run hlen w
  simp only [Go.part,Sem.run_bind,hagg,hsz,Result.andThen_ok,if_true] at e1
  have g1:p=.agg us:=by simp at e1;rw [←e1,hl1];simp
  rw [g1] at e2
  exact e2
theorem kget_ok {kc:Nat} {k:AV} {ks:List AV} {f:Option Nat} (h:kget kc k ks=some f):kOk kc k=true∧kfind k ks=some f:=by
 unfold kget at h
 split at h
 ·exact ⟨by assumption,h⟩
 ·cases h
theorem kfind_at {k:AV}:∀ {ks:List AV} {j:Nat},kfind k ks=some (some j)→∃ x,ks[j]? = some x∧keq k x=some true
 | [],j,h=>by simp [kfind] at h
 |x::ks,j,h=>by
  simp only [kfind,obI] at h
  obtain ⟨b,hb,h⟩:=h
  cases b
  ·simp only [Bool.false_eq_true,if_false,omI] at h
   obtain ⟨f',hf,h⟩:=h
   cases f' with
   |none=>simp at h
   |some i=>
    simp at h
    subst h
    obtain ⟨y,h1,h2⟩:=kfind_at hf
    exact ⟨y,by simpa using h1,h2⟩
  ·simp only [if_true] at h
   injection h with h;injection h with h;subst h
   exact ⟨x,rfl,hb⟩
theorem zvOf_ok (hcd:m.cd=fid) {t:TypeId} {z:AV} (h:zvOf P fid t=some z):∃ zv,(∀ w,(zeroValue t).run P w=.ok zv w)∧C m z zv:=by
 simp only [zvOf,obI] at h
 obtain ⟨zv,⟨i,hi,hz⟩,h⟩:=h
 refine ⟨zv,fun w=>by simp [zeroValue,typeInfo,hi,hz],?_⟩
 split at h
 ·rename_i cs
  simp only [omI] at h
  obtain ⟨l,hl,rfl⟩:=h
  obtain ⟨k1,k2,k3⟩:=absL_ok hcd _ _ hl
  simp only [C]
  exact ⟨k3,cs,rfl,by simpa using k2.symm,by simpa using k1⟩
 ·exact (absv_ok hcd h).1
theorem HInv.putFloat (H:HInv fr w0 m hp w fl) {g:Nat} (hg:g∈fl) (o:Obj):HInv fr w0 m hp (w.putObj g o) fl:=by
 have hne:∀ k,k≠g→(w.putObj g o).heap[k]? = w.heap[k]?:=fun k hk=>World.putObj_heap_other hk
 have hs:(w.putObj g o).heap.size=w.heap.size:=World.putObj_size
 refine ⟨H.os,H.tape,H.output,by rw [hs];exact H.size,fun q hq=>⟨by rw [hs];exact (H.fix q hq).1,(hne q (fun e=>(H.fown g hg).1 (e ▸ hq))).trans (H.fix q hq).2⟩,H.len,?_,?_,fun id q hq=>by rw [hs];exact H.own id q hq,H.nd,H.dj,H.fpz,fun q hq=>by rw [hs];exact H.fown q hq,H.fnd,H.fdj⟩
 ·intro b i u hu
  have:b≠g:=fun e=>by subst e;rw [(H.fown b hg).2.2 i] at hu;cases hu
  rw [World.cell?_of_block (w:=w) (a:=⟨b,i,none⟩) (hne b this)];exact H.im b i u hu
 ·intro id b e hb he
  exact (H.blk id b e hb he).mono (Mem.le.refl m) (fun q hq=>hne q (fun e=>H.fdj id q hq (e ▸ hg)))
theorem RL_unk:∀ {vs:List AV} {g:Nat→Option Value} {f:List Nat},RL m w vs g f→RL m w (vs.map fun _=>.unk) g []
 | [],g,f,h=>by simp [RL]
 |x::vs,g,f,h=>by
  simp only [RL] at h
  obtain ⟨f1,f2,rfl,⟨u,hu,_⟩,h2⟩:=h
  simp only [List.map_cons,RL]
  exact ⟨[],[],rfl,⟨u,hu,by simp [R,C]⟩,RL_unk h2⟩
theorem HInv.frzMap (H:HInv fr w0 m hp w fl) {id:Nat} {ks vs:List AV} (hb:hp[id]? = some (.mp ks vs)):∃ m',Ext fr m m'∧m'.bl=m.bl∧HInv fr w0 m' (hp.set id (.mp ks (frzL vs))) w fl:=by
 obtain ⟨e,he,hB⟩:=H.at_ hb
 obtain ⟨g,es,f',q1,q2,q3,q4,q5,q6,q7,q8⟩:=hB
 have hsub:∀ q∈f',q∈m.fp id:=fun q hq=>by rw [q2];simp [hq]
 have hnd:=H.nd id
 rw [q2,List.nodup_cons] at hnd
 have hle:m.le { m with im:=fun b o=>if b∈f' then w.cell? ⟨b,o,none⟩ else m.im b o }:=
  ⟨rfl,rfl,fun b o u h=>by
   show (if _ then _ else _)=_
   split
   ·exact H.im b o u h
   ·exact h,fun _ _ h=>h⟩
 have Hk:=H.turn (f:=[g]) (g:=fl) (i:=id) (b:=.mp ks (vs.map fun _=>.unk)) he (fun q hq=>by
   simp only [List.singleton_append,List.mem_cons] at hq
   rcases hq with rfl | hq
   ·exact .inl (by rw [q2];simp)
   ·exact .inr hq) (by
   rw [List.singleton_append,List.nodup_cons]
   exact ⟨fun h=>H.fdj id g (by rw [q2];simp) h,H.fnd⟩) ⟨g,es,[],q1,rfl,q3,q4,by simpa using q5,q6,RL_unk q7,q8⟩
 have hle2:Mem.le { m with fp:=fun k=>if k=id then [g] else m.fp k } { m with im:=fun b o=>if b∈f' then w.cell? ⟨b,o,none⟩ else m.im b o,fp:=fun k=>if k=id then [g] else m.fp k }:=⟨rfl,rfl,hle.im,fun _ _ h=>h⟩
 have hnew:∀ k q,q∈(if k=id then [g] else m.fp k)→q ∉ f':=by
  intro k q hq hf
  split at hq
  ·rw [List.mem_singleton] at hq;subst hq;exact hnd.1 hf
  ·rename_i hne;exact hne (H.dj k id q hq (hsub q hf))
 refine ⟨{ m with im:=fun b o=>if b∈f' then w.cell? ⟨b,o,none⟩ else m.im b o,fp:=fun k=>if k=id then [g] else m.fp k },⟨hle.trans (le_fp _),fun b hb o=>?_⟩,rfl,?_⟩
 ·show (if _ then _ else _)=_
  rw [if_neg]
  intro h;exact (H.own id b (hsub b h)).1 hb
 ·refine ⟨Hk.os,Hk.tape,Hk.output,Hk.size,Hk.fix,by simpa using Hk.len,?_,?_,?_,Hk.nd,Hk.dj,fun k hk=>Hk.fpz k (by simpa using hk),?_,Hk.fnd,Hk.fdj⟩
  ·intro b o u h
   change (if _ then _ else _)=_ at h
   split at h
   ·exact h
   ·exact H.im b o u h
  ·intro k b' e' h he'
   by_cases hk:id=k
   ·subst hk
    rw [List.getElem?_set_self (List.getElem?_eq_some_iff.1 hb).1] at h
    injection h with h;subst h
    change m.bl[id]? = some e' at he'
    rw [he] at he';injection he' with he';subst he'
    refine ⟨g,es,[],q1,by simp,q3,q4,by rw [frzL,(frzL_len vs).1];exact q5,CL_mono (hle.trans (le_fp _)) _ _ _ (fun _ _ h=>h) q6,?_,q8⟩
    refine RL_of_CL _ _ (frzL_ok (hle.trans (le_fp _)) vs _ f' q7 (fun q hq o=>?_))
    show (if _ then _ else _)=_
    rw [if_pos hq]
   ·rw [List.getElem?_set_ne hk] at h
    exact (Hk.blk k b' e' (by rw [List.getElem?_set_ne hk];exact h) he').mono hle2 (fun _ _=>rfl)
  ·intro k q hg
   obtain ⟨p1,p2,p3⟩:=Hk.own k q hg
   refine ⟨p1,p2,fun o=>?_⟩
   show (if _ then _ else _)=_
   rw [if_neg (hnew k q hg)]
   exact p3 o
  ·intro q hg
   obtain ⟨p1,p2,p3⟩:=H.fown q hg
   refine ⟨p1,p2,fun o=>?_⟩
   show (if _ then _ else _)=_
   rw [if_neg]
   ·exact p3 o
   ·intro hgi;exact H.fdj id q (hsub q hgi) hg
theorem go_mkmap {t:TypeId} (hop:o.op=.makeMap t none) (hs:astep hp (St.ev ⟨env,hp,l0,mk⟩) .mkmap=some (v,hp')) (H:HInv fr w0 m hp w []):Goes P o a w fr w0 m v hp':=by
 simp only [astep,Option.some.injEq,Prod.mk.injEq] at hs
 obtain ⟨rfl,rfl⟩:=hs
 have H1:=H.alloc0 (.map #[] 0)
 have H2:=HInv.adopt (fl:=[]) (b:=.mp [] []) (x:=⟨none,some w.heap.size,0,0,0⟩) (f:=[w.heap.size]) (by simpa using H1) ⟨w.heap.size,#[],[],rfl,rfl,heap_alloc_new w _,rfl,rfl,by simp [CL],by simp [RL],fun i x h=>by simp at h⟩
 refine ⟨_,.map (some w.heap.size),_,_,?_,.inl rfl,ext_app _ _,?_,H2⟩
 ·simp [execOp,hop,Instr.makeMap,newObj,Sem.run]
 ·simp only [C]
  exact ⟨_,fp_new H.len _,w.heap.size,rfl,rfl⟩
theorem go_cap (hcd:m.cd=fid) {t:TypeId} {d:TypeId} {x:Operand} {x':SX} (hop:o.op=.call { callee:=.builtin .cap,args:=#[x],argTypes:=#[t] }) (ht:P.underlying t=some (.slice d)) (h1:opd fid x=some x')
  (hs:astep hp (St.ev ⟨env,hp,l0,mk⟩) (.cap x')=some (v,hp')) (H:HInv fr w0 m hp w []) (E:EnvOk m env a.tmps):Goes P o a w fr w0 m v hp':=by
 have k1:=opd_ok (st:=⟨env,hp,l0,mk⟩) hcd h1 E
 simp only [astep] at hs
 split at hs
 ·rename_i hx
  rw [hx] at k1
  simp only [C] at k1
  injection hs with hs
  simp only [Prod.mk.injEq] at hs
  obtain ⟨rfl,rfl⟩:=hs
  exact goes_pure H (u:=.int .i64 0) (by simp [execOp,hop,k1,resolve,invoke,builtin,Builtin.cap_,run_underlying ht,goInt]) (by simp [C])
 ·cases hs
theorem go_rng {t kt et:TypeId} {x:Operand} {x':SX} (hop:o.op=.range t x) (ht:P.underlying t=some (.map kt et)) (h1:opd fid x=some x') (hcd:m.cd=fid) (hs:astep hp (St.ev ⟨env,hp,l0,mk⟩) (.rng x')=some (v,hp')) (H:HInv fr w0 m hp w []) (E:EnvOk m env a.tmps):Goes P o a w fr w0 m v hp':=by
 have k1:=opd_ok (st:=⟨env,hp,l0,mk⟩) hcd h1 E
 simp only [astep] at hs
 split at hs
 case h_2=>cases hs
 rename_i id hx
 rw [hx] at k1
 simp only [C] at k1
 obtain ⟨e,he,g,heg,hu⟩:=k1
 split at hs
 case h_2=>cases hs
 rename_i ks vs hb
 injection hs with hs
 simp only [Prod.mk.injEq] at hs
 obtain ⟨rfl,rfl⟩:=hs
 obtain ⟨g',es,f',q1,q2,q3,q4,q5,q6,q7,q8⟩:=H.blk id _ e hb he
 rw [heg] at q1;injection q1 with q1;subst q1
 have H1:=H.alloc0 (.mapIter (some g) es.size #[] es.size)
 have H2:=HInv.adopt (fl:=[]) (b:=.it id ks.length []) (x:=⟨none,some w.heap.size,0,0,0⟩) (f:=[w.heap.size]) (by simpa using H1) ⟨w.heap.size,e,g,rfl,rfl,he,heg,by rw [heap_alloc_new,q4]⟩
 refine ⟨_,.pointer (some ⟨w.heap.size,0,none⟩),_,_,?_,.inl rfl,ext_app _ _,?_,H2⟩
 ·simp [execOp,hop,Instr.range,run_underlying ht,hu,getObj,newObj,Sem.run,q3]
 ·simp only [C]
  exact ⟨_,fp_new H.len _,w.heap.size,rfl,rfl⟩
theorem go_entry {x:Operand} {x':SX} (hop:o.op=.entry x) (h1:opd fid x=some x') (hcd:m.cd=fid) (hs:astep hp (St.ev ⟨env,hp,l0,mk⟩) (.entry x')=some (v,hp')) (H:HInv fr w0 m hp w []) (E:EnvOk m env a.tmps):Goes P o a w fr w0 m v hp':=by
 have k1:=opd_ok (st:=⟨env,hp,l0,mk⟩) hcd h1 E
 simp only [astep] at hs
 split at hs
 case h_2=>cases hs
 rename_i id hx
 rw [hx] at k1
 simp only [C] at k1
 obtain ⟨e,he,g,heg,hu⟩:=k1
 split at hs
 case h_2=>cases hs
 rename_i mid n seen hb
 split at hs
 case h_2=>cases hs
 rename_i ks vs hb2
 split at hs
 case isFalse=>cases hs
 rename_i hn
 simp only [obI,omI] at hs
 obtain ⟨i,hi,k,hk,y,hy,hs⟩:=hs
 simp only [Prod.mk.injEq] at hs
 obtain ⟨rfl,rfl⟩:=hs
 obtain ⟨g',em,bm,q1,q2,q3,q4,q5⟩:=H.blk id _ e hb he
 rw [heg] at q1;injection q1 with q1;subst q1
 obtain ⟨g2,es,f',r1,r2,r3,r4,r5,r6,r7,r8⟩:=H.blk mid _ em hb2 q3
 rw [q4] at r1;injection r1 with r1;subst r1
 obtain ⟨u,hu1,hCk⟩:=CL_iff.1 r6 i k hk
 obtain ⟨x0,hx0,rfl⟩:=omI.1 hu1
 have hC:C m (.tup [k,if noinl y then y else .unk]) (.tuple #[x0.key,x0.val]):=by
  simp only [C]
  refine ⟨_,rfl,rfl,?_⟩
  simp only [CL,and_true]
  refine ⟨⟨_,rfl,hCk⟩,⟨_,rfl,?_⟩⟩
  split
  ·rename_i hni
   obtain ⟨f1,f2,_,ha,hb'⟩:=CL_get r7 i
   have hil:i<vs.length:=(List.getElem?_eq_some_iff.1 hy).1
   rw [List.drop_eq_getElem_cons hil] at hb'
   have hyi:vs[i]=y:=by have:=List.getElem?_eq_getElem hil;rw [hy] at this;exact (Option.some.inj this).symm
   simp only [RL] at hb'
   obtain ⟨fa,fb,_,⟨u2,hu2,hR⟩,_⟩:=hb'
   rw [hyi] at hR
   have hti:(vs.take i).length=i:=by simp;omega
   rw [hti] at hu2
   simp only [Nat.add_zero,hx0,Option.map_some,Option.some.injEq] at hu2
   subst hu2
   exact (C_of_R _ _ _ hni hR).1
  ·simp [C]
 obtain ⟨seen',rfl⟩:∃ s',seen=s'++[i]:=by
  have hne:seen≠[]:=fun h=>by rw [h] at hi;cases hi
  refine ⟨seen.dropLast,?_⟩
  rw [List.getLast?_eq_some_getLast hne] at hi
  injection hi with hi
  rw [←hi];exact (List.dropLast_concat_getLast hne).symm
 have hborn:=r8 i x0 hx0
 have hnod:(es.toList.map (·.born)).Nodup:=by
  have:es.toList.map (·.born)=List.range es.size:=by
   apply List.ext_getElem?
   intro j
   rw [List.getElem?_map,Array.getElem?_toList]
   by_cases hj:j<es.size
   ·rw [List.getElem?_range hj,Array.getElem?_eq_getElem hj]
    simp only [Option.map_some]
    rw [r8 j es[j] (Array.getElem?_eq_getElem hj)]
   ·rw [Array.getElem?_eq_none (by omega),List.getElem?_eq_none (by simp;omega)];rfl
  rw [this];exact List.nodup_range
 have hrun:=run_entry_at (P:=P) w g bm n seen'.toArray es es.size x0 (by
  rw [q5,hborn,←r4,hn]
  congr 2
  simp) r3 (by rw [←Array.getElem?_toList] at hx0;exact List.mem_of_getElem? hx0) hnod
 exact goes_pure H (u:=.tuple #[x0.key,x0.val]) (by simp [execOp,hop,hu,hrun]) hC
theorem RL_at {m:Mem} {w:World} {y:AV}:∀ {vs:List AV} {j:Nat} {g:Nat→Option Value} {f:List Nat},RL m w vs g f→vs[j]? = some y→∃ fa fb fc u,f=fa++(fb++fc)∧g j=some u∧R m w y u fb ∧
  ∀ (m':Mem) (w':World) (y':AV) (u':Value) (fb':List Nat) (g':Nat→Option Value),m.le m'→(∀ q∈fa++fc,w'.heap[q]? = w.heap[q]?)→(∀ i,i≠j→∀ x,g i=some x→g' i=some x)→g' j=some u'→R m' w' y' u' fb'→RL m' w' (vs.set j y') g' (fa++(fb'++fc))
 | [],j,g,f,h,hj=>by simp at hj
 |x::vs,0,g,f,h,hj=>by
  simp at hj;subst hj
  simp only [RL] at h
  obtain ⟨f1,f2,rfl,⟨u,hu,hR⟩,h2⟩:=h
  refine ⟨[],f1,f2,u,rfl,hu,hR,fun m' w' y' u' fb' g' hm hw hg hu' hR'=>?_⟩
  simp only [List.set_cons_zero,RL,List.nil_append]
  exact ⟨fb',f2,rfl,⟨u',hu',hR'⟩,RL_mono hm (fun q hq=>hw q (by simp [hq])) (fun i z hz=>hg (i+1) (by omega) z hz) h2⟩
 |x::vs,j+1,g,f,h,hj=>by
  simp only [RL] at h
  obtain ⟨f1,f2,rfl,⟨u1,hu1,hR1⟩,h2⟩:=h
  obtain ⟨fa,fb,fc,u,rfl,hu,hR,hset⟩:=RL_at h2 (by simpa using hj)
  refine ⟨f1++fa,fb,fc,u,by simp,hu,hR,fun m' w' y' u' fb' g' hm hw hg hu' hR'=>?_⟩
  simp only [List.set_cons_succ,RL,List.append_assoc]
  refine ⟨f1,_,rfl,⟨u1,hg 0 (by omega) _ hu1,R_mono hm (fun q hq=>hw q (by simp [hq])) hR1⟩,?_⟩
  exact hset m' w' y' u' fb' (fun i=>g' (i+1)) hm (fun q hq=>hw q (by simp at hq ⊢;rcases hq with h | h<;>simp [h])) (fun i hi z hz=>hg (i+1) (by omega) z hz) hu' hR'
theorem run_look {t kt et:TypeId} {g c:Nat} {es:Array MapEntry} {key zv:Value} {f:Option Nat} (ok:Bool) (ht:P.underlying t=some (.map kt et)) (hb:w.heap[g]? = some (.map es c)) (hc:∀ b,(Instr.checkKey b 10000 kt key).run P w=.ok () w)
  (hf:(Instr.findKey kt key es.toList).run P w=.ok (hits f 0 es.toList) w) (hz:(zeroValue et).run P w=.ok zv w):
  (Instr.lookup t (.map (some g)) key ok).run P w=.ok (match hits f 0 es.toList with
   |some (_,v)=>if ok then .tuple #[v,.bool true] else v
   |none=>if ok then .tuple #[zv,.bool false] else zv) w:=by
 simp only [Instr.lookup,Sem.run_bind,run_underlying ht,Result.andThen_ok,getObj,Sem.run,hb,Result.andThen,hc,hf]
 cases hq:hits f 0 es.toList with
 |none=>simp [hz,hc,hf,hq]
 |some p=>obtain ⟨i,v⟩:=p;simp [hc,hf,hq]
theorem tell_ok {v:AV} {u:Value} (ok b:Bool) (h:C m v u):C m (tellK ok v b) (if ok then .tuple #[u,.bool b] else u):=by
 unfold tellK
 cases ok
 ·exact h
 ·simp only [if_true,C]
  exact ⟨_,rfl,rfl,by simp [CL,C,h]⟩
theorem go_look (hcd:m.cd=fid) {u:Bool} {t kt et:TypeId} {kc:Nat} {z:AV} {ok:Bool} {x i:Operand} {x' i':SX} (hop:o.op=.lookup t x i ok) (ht:P.underlying t=some (.map kt et)) (hk:kcOf P kt=some kc) (hz:zvOf P fid et=some z) (h1:opd fid x=some x') (h2:opd fid i=some i')
  (hs:astep hp (St.ev ⟨env,hp,l0,mk⟩) (.look u kc z ok x' i')=some (v,hp')) (H:HInv fr w0 m hp w []) (E:EnvOk m env a.tmps):Goes P o a w fr w0 m v hp':=by
 have k1:=opd_ok (st:=⟨env,hp,l0,mk⟩) hcd h1 E
 have k2:=opd_ok (st:=⟨env,hp,l0,mk⟩) hcd h2 E
 obtain ⟨zv,hzv,hzC⟩:=zvOf_ok hcd hz
 simp only [astep] at hs
 split at hs
 case h_2=>cases hs
 rename_i id hx
 rw [hx] at k1
 simp only [C] at k1
 obtain ⟨e,he,g,heg,hu⟩:=k1
 split at hs
 case h_2=>cases hs
 rename_i ks vs hb
 simp only [obI] at hs
 obtain ⟨f,hf,hs⟩:=hs
 obtain ⟨g',es,f',q1,q2,q3,q4,q5,q6,q7,q8⟩:=H.blk id _ e hb he
 rw [heg] at q1;injection q1 with q1;subst q1
 obtain ⟨hko,hkf⟩:=kget_ok hf
 have hfind:=find_ok (P:=P) (w:=w) (m:=m) hk hf k2 (es:=es.toList) (by simpa only [Array.getElem?_toList] using q6) (by simpa using q4)
 have hrun:=run_look (P:=P) ok ht q3 (fun b=>check_ok b hk hko k2) hfind (hzv w)
 cases f with
 |none=>
  simp only at hs
  injection hs with hs
  simp only [Prod.mk.injEq] at hs
  obtain ⟨rfl,rfl⟩:=hs
  simp only [hits,Option.bind_none] at hrun
  exact goes_pure H (by simp [execOp,hop,hu,hrun]) (tell_ok ok false hzC)
 |some j=>
  simp only [obI] at hs
  obtain ⟨y,hy,hs⟩:=hs
  obtain ⟨fa,fb,fc,uu,rfl,huu,hR,hset⟩:=RL_at q7 hy
  obtain ⟨x0,hx0,rfl⟩:=omI.1 huu
  have hhit:hits (some j) 0 es.toList=some (j,x0.val):=by simp [hits,hx0]
  rw [hhit] at hrun
  simp only at hrun
  cases u
  ·simp only [Bool.false_eq_true,if_false] at hs
   split at hs
   case isFalse=>cases hs
   rename_i hni
   injection hs with hs
   simp only [Prod.mk.injEq] at hs
   obtain ⟨rfl,rfl⟩:=hs
   exact goes_pure H (by simp [execOp,hop,hu,hrun]) (tell_ok ok true (C_of_R _ _ _ hni hR).1)
  ·simp only [if_true] at hs
   split at hs
   case h_2=>cases hs
   rename_i y' hp1 hup
   split at hs
   case isFalse=>cases hs
   rename_i hni
   injection hs with hs
   simp only [Prod.mk.injEq] at hs
   obtain ⟨rfl,rfl⟩:=hs
   have Hk:=H.kill id
   rw [q2,List.append_nil] at Hk
   have Hk2:=Hk.perm (fl':=(g::(fa++fc))++fb) (by
    simp only [List.cons_append]
    refine List.Perm.cons g ?_
    rw [List.append_assoc]
    exact List.Perm.append_left fa List.perm_append_comm)
   have hRL:RL { m with fp:=fun k=>if k=id then [] else m.fp k } w [y] (fun i=>if i=0 then some x0.val else none) fb:=by
    simp only [RL]
    exact ⟨fb,[],by simp,⟨x0.val,rfl,R_mono (le_fp _) (fun _ _=>rfl) hR⟩,rfl⟩
   obtain ⟨m2,f3,E2,i2,p2,H2,R2,l2,o2,lx,hlx⟩:=unpk_ok (f0:=g::(fa++fc)) [y] Hk2 hRL
   rw [hup] at H2 R2
   simp only at H2 R2
   obtain ⟨hCr,hf3⟩:=CL_of_RL _ _ _ (by simp only [allL,Bool.and_true];exact hni) R2
   subst hf3
   simp only [CL] at hCr
   obtain ⟨⟨u3,hu3,hC3⟩,_⟩:=hCr
   simp only [if_true,Option.some.injEq] at hu3
   subst hu3
   have hx2:m2.bl[id]? = some e:=E2.le.bl id e he
   have Efull:Ext fr m m2:=(ext_fp _).trans E2
   have hRs:=hset m2 w y' x0.val [] (fun i=>(es[i]?).map (·.val)) Efull.le (fun _ _=>rfl) (fun i _ x h=>h) (by rw [hx0];rfl) (R_of_C _ _ hC3)
   have H3:=H2.turn (f:=g::(fa++fc)) (g:=[]) (i:=id) (b:=.mp ks (vs.set j y')) hx2 (fun q hq=>.inr (by simpa using hq)) (by simpa using H2.fnd)
    ⟨g,es,fa++fc,heg,rfl,q3,q4,by simpa using q5,CL_mono Efull.le _ _ _ (fun _ _ h=>h) q6,by simpa using hRs,q8⟩
   refine ⟨_,_,w,_,by simp [execOp,hop,hu,hrun],.inl rfl,Efull.trans (ext_fp _),tell_ok ok true (C_mono (le_fp _) _ _ hC3),H3⟩
theorem run_setMap {r c:Nat} {es:Array MapEntry} (o:Obj) (hb:w.heap[r]? = some (.map es c)):(setObj r o).run P w=.ok () (w.putObj r o):=by simp [setObj,Sem.run,hb,World.putObj]
theorem run_upd_new {t kt et:TypeId} {g c:Nat} {es:Array MapEntry} {key val:Value} (ht:P.underlying t=some (.map kt et)) (hb:w.heap[g]? = some (.map es c)) (hc:∀ b,(Instr.checkKey b 10000 kt key).run P w=.ok () w)
  (hf:(Instr.findKey kt key es.toList).run P w=.ok none w):(Instr.mapUpdate t (.map (some g)) key val).run P w=.ok () (w.putObj g (.map (es.push { key,val,born:=c }) (c+1))):=by
 simp only [Instr.mapUpdate,Sem.run_bind,run_underlying ht,Result.andThen_ok,getObj,Sem.run,hb,Result.andThen,hc,hf,run_setMap _ hb]
theorem run_upd_old {t kt et:TypeId} {g c j:Nat} {es:Array MapEntry} {key val v0:Value} {x0:MapEntry} (ht:P.underlying t=some (.map kt et)) (hb:w.heap[g]? = some (.map es c)) (hc:∀ b,(Instr.checkKey b 10000 kt key).run P w=.ok () w)
  (hf:(Instr.findKey kt key es.toList).run P w=.ok (some (j,v0)) w) (hx:es[j]? = some x0) (hbits:Instr.sameBits 10000 x0.key key=true):(Instr.mapUpdate t (.map (some g)) key val).run P w=.ok () (w.putObj g (.map (es.modify j fun e=>{ e with key:=key,val:=val }) c)):=by
 simp only [Instr.mapUpdate,Sem.run_bind,run_underlying ht,Result.andThen_ok,getObj,Sem.run,hb,Result.andThen,hc,hf,hx,Option.map_some,Option.getD_some,Instr.keyThatStays,hbits,if_true,Sem.run_pure,run_setMap _ hb]
theorem go_upd (hcd:m.cd=fid) {t kt et:TypeId} {kc:Nat} {x k y:Operand} {x' k' y':SX} (hop:o.op=.mapUpdate t x k y∨o.op=.insert t x k y) (ht:P.underlying t=some (.map kt et)) (hk:kcOf P kt=some kc) (h1:opd fid x=some x') (h2:opd fid k=some k') (h3:opd fid y=some y')
  (hs:astep hp (St.ev ⟨env,hp,l0,mk⟩) (.upd kc x' k' y')=some (v,hp')) (H:HInv fr w0 m hp w []) (E:EnvOk m env a.tmps):Goes P o a w fr w0 m v hp':=by
 have k1:=opd_ok (st:=⟨env,hp,l0,mk⟩) hcd h1 E
 have k2:=opd_ok (st:=⟨env,hp,l0,mk⟩) hcd h2 E
 have k3:=opd_ok (st:=⟨env,hp,l0,mk⟩) hcd h3 E
 simp only [astep] at hs
 split at hs
 case h_2=>cases hs
 rename_i id hx
 rw [hx] at k1
 simp only [C] at k1
 obtain ⟨e,he,g,heg,hu⟩:=k1
 simp only [obI] at hs
 obtain ⟨r,hr,hs⟩:=hs
 split at hs
 case h_2=>cases hs
 rename_i ks vs hb
 simp only [omI] at hs
 obtain ⟨f,hf,hs⟩:=hs
 obtain ⟨m1,f1,E1,i1,b1,H1,R1,l1⟩:=pks_ok (f0:=[]) (f:=[]) (x':=r.1) (hp':=r.2) hr H (R_of_C _ _ k3)
 rw [List.nil_append] at H1
 have he1:m1.bl[id]? = some e:=by rw [b1];exact he
 obtain ⟨g',es,f',q1,q2,q3,q4,q5,q6,q7,q8⟩:=H1.blk id _ e hb he1
 rw [heg] at q1;injection q1 with q1;subst q1
 obtain ⟨hko,hkf⟩:=kget_ok hf
 have k2':=C_mono E1.le _ _ k2
 have hfind:=find_ok (P:=P) (w:=w) (m:=m1) hk hf k2' (es:=es.toList) (by simpa only [Array.getElem?_toList] using q6) (by simpa using q4)
 have hck:∀ b,(Instr.checkKey b 10000 kt (a.eval k)).run P w=.ok () w:=fun b=>check_ok b hk hko k2'
 have hgs:g<w.heap.size:=(Array.getElem?_eq_some_iff.1 q3).1
 have hexec:∀ w',(Instr.mapUpdate t (.map (some g)) (a.eval k) (a.eval y)).run P w=.ok () w'→(execOp a.eval o).run P w=.ok .skip w':=by
  intro w' hw
  rcases hop with hop | hop<;>simp [execOp,hop,hu,hw]
 have Hk:=H1.kill id
 rw [q2] at Hk
 cases f with
 |none=>
  simp only [Prod.mk.injEq] at hs
  obtain ⟨rfl,rfl⟩:=hs
  rw [show hits none 0 es.toList=none from rfl] at hfind
  have hrun:=run_upd_new (val:=a.eval y) ht q3 hck hfind
  have H2:=Hk.putFloat (g:=g) (by simp) (.map (es.push { key:=a.eval k,val:=a.eval y,born:=es.size }) (es.size+1))
  have hnd:=H2.fnd
  rw [List.cons_append,List.nodup_cons] at hnd
  have hne:∀ q∈f'++f1,q≠g:=fun q hq e=>hnd.1 (e ▸ hq)
  have hle:m1.le { m1 with fp:=fun k=>if k=id then [] else m1.fp k }:=le_fp _
  have H3:=H2.turn (f:=g::(f'++f1)) (g:=[]) (i:=id) (b:=.mp (ks++[St.ev ⟨env,hp,l0,mk⟩ k']) (vs++[r.1])) he1 (fun q hq=>.inr (by simpa using hq)) (by simpa using H2.fnd)
   ⟨g,es.push { key:=a.eval k,val:=a.eval y,born:=es.size },f'++f1,heg,rfl,by rw [World.putObj_heap_same hgs];simp,by simp [q4],by simp [q5],?_,?_,?_⟩
  rw [List.set_set] at H3
  refine ⟨.skip,undef,_,_,hexec _ hrun,.inr ⟨rfl,rfl⟩,(E1.trans (ext_fp _)).trans (ext_fp _),by simp [C,undef,CL],H3⟩
  ·rw [CL_iff] at q6 ⊢
   intro i z hz
   rcases get_app hz with ⟨hi,hz⟩ | ⟨rfl,rfl⟩
   ·obtain ⟨u,hu',hC⟩:=q6 i z hz
    refine ⟨u,?_,C_mono hle _ _ hC⟩
    rw [Array.getElem?_push,if_neg (by omega)];exact hu'
   ·exact ⟨a.eval k,by rw [q4];simp,C_mono hle _ _ k2'⟩
  ·rw [RL_append]
   refine ⟨f',f1,rfl,RL_mono hle (fun q hq=>World.putObj_heap_other (hne q (by simp [hq]))) (fun i u hu'=>?_) q7,?_⟩
   ·have hi:i<es.size:=by
     obtain ⟨x0,hx0,_⟩:=omI.1 hu'
     exact (Array.getElem?_eq_some_iff.1 hx0).1
    rw [Array.getElem?_push,if_neg (by omega)];exact hu'
   ·simp only [RL]
    exact ⟨f1,[],by simp,⟨a.eval y,by rw [Nat.add_zero,q5];simp,R_mono hle (fun q hq=>World.putObj_heap_other (hne q (by simp [hq]))) R1⟩,rfl⟩
  ·intro i z hz
   rw [Array.getElem?_push] at hz
   split at hz
   ·injection hz with hz;subst hz;rename_i h;exact h.symm
   ·exact q8 i z hz
 |some j=>
  simp only [Prod.mk.injEq] at hs
  obtain ⟨rfl,rfl⟩:=hs
  obtain ⟨kx,hkx,hkeq⟩:=kfind_at hkf
  obtain ⟨u0,hu0,hCk⟩:=CL_iff.1 q6 j kx hkx
  obtain ⟨x0,hx0,rfl⟩:=omI.1 hu0
  have hsame:a.eval k=x0.key:=keq_eq hkeq k2' hCk
  have hhit:hits (some j) 0 es.toList=some (j,x0.val):=by simp [hits,hx0]
  rw [hhit] at hfind
  have hrun:=run_upd_old (val:=a.eval y) ht q3 hck hfind hx0 (by rw [←hsame];exact key_bits hko k2')
  have hjl:j<vs.length:=by rw [q5,←q4];exact (List.getElem?_eq_some_iff.1 hkx).1
  obtain ⟨fa,fb,fc,uu,rfl,huu,hR,hset⟩:=RL_at q7 (List.getElem?_eq_getElem hjl)
  have H2:=Hk.putFloat (g:=g) (by simp) (.map (es.modify j fun e=>{ e with key:=a.eval k,val:=a.eval y }) es.size)
  have hnd:=H2.fnd
  rw [List.cons_append,List.nodup_cons] at hnd
  have hne:∀ q∈(fa++(fb++fc))++f1,q≠g:=fun q hq e=>hnd.1 (e ▸ hq)
  have hle:m1.le { m1 with fp:=fun k=>if k=id then [] else m1.fp k }:=le_fp _
  have hmod:∀ i,(es.modify j fun e=>{ e with key:=a.eval k,val:=a.eval y })[i]? = if j=i then (es[i]?).map (fun e=>{ e with key:=a.eval k,val:=a.eval y }) else es[i]?:=fun i=>by rw [Array.getElem?_modify]
  have hRs:=hset { m1 with fp:=fun k=>if k=id then [] else m1.fp k } (w.putObj g (.map (es.modify j fun e=>{ e with key:=a.eval k,val:=a.eval y }) es.size)) r.1 (a.eval y) f1 (fun i=>((es.modify j fun e=>{ e with key:=a.eval k,val:=a.eval y })[i]?).map (·.val)) hle
   (fun q hq=>World.putObj_heap_other (hne q (by simp at hq ⊢;rcases hq with h | h<;>simp [h]))) (fun i hi z hz=>by rw [hmod,if_neg (fun e=>hi e.symm)];exact hz) (by rw [hmod,if_pos rfl,hx0];rfl)
   (R_mono hle (fun q hq=>World.putObj_heap_other (hne q (by simp [hq]))) R1)
  have hperm:(g::(fa++(f1++fc))).Nodup:=by
   rw [List.nodup_cons]
   refine ⟨fun h=>hne g (by simp at h ⊢;rcases h with h | h | h<;>simp [h]) rfl,?_⟩
   refine List.Nodup.sublist (l₂:=fa++(f1++(fb++fc))) ?_ ?_
   ·exact List.Sublist.append_left (List.Sublist.append_left (List.sublist_append_right fb fc) f1) fa
   ·refine (List.Perm.nodup_iff ?_).1 hnd.2
    rw [List.append_assoc]
    exact List.Perm.append_left fa List.perm_append_comm
  have H3:=H2.turn (f:=g::(fa++(f1++fc))) (g:=[]) (i:=id) (b:=.mp ks (vs.set j r.1)) he1 (fun q hq=>.inr (by simp at hq ⊢;rcases hq with h | h | h | h<;>simp [h])) (by simpa using hperm)
   ⟨g,es.modify j fun e=>{ e with key:=a.eval k,val:=a.eval y },fa++(f1++fc),heg,rfl,by rw [World.putObj_heap_same hgs];simp,by simp [q4],by simp [q5],?_,hRs,?_⟩
  rw [List.set_set] at H3
  refine ⟨.skip,undef,_,_,hexec _ hrun,.inr ⟨rfl,rfl⟩,(E1.trans (ext_fp _)).trans (ext_fp _),by simp [C,undef,CL],H3⟩
  ·rw [CL_iff] at q6 ⊢
   intro i z hz
   obtain ⟨u,hu',hC⟩:=q6 i z hz
   refine ⟨u,?_,C_mono hle _ _ hC⟩
   rw [hmod]
   split
   ·rename_i hji
    subst hji
    rw [hx0] at hu' ⊢
    simp only [Option.map_some,Option.some.injEq] at hu' ⊢
    rw [hsame];exact hu'
   ·exact hu'
  ·intro i z hz
   rw [hmod] at hz
   split at hz
   ·obtain ⟨x1,hx1,rfl⟩:=omI.1 hz
    exact q8 i x1 hx1
   ·exact q8 i z hz
end
end Go.Proofs.Ytfbfbennheeglaa
