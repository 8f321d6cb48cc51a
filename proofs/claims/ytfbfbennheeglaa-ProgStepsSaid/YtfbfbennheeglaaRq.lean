import Derived.Test.YtfbfbennheeglaaKz
import Derived.ProofKit
import Derived.OpenShut
import Derived.ShutString
import Derived.WideShapes
import Derived.Below
namespace Go.Proofs.Ytfbfbennheeglaa
set_option linter.unusedSimpArgs false
set_option linter.unusedVariables false
open Go.RowKit Go.WideShapes Go.ChangeShapes
inductive Ty where
 |int (k:IntKind)
 |bool
 |str
 |sl (sz:Nat) (e:List Ty)
mutual
def Fit:Ty→AV→Prop
 | .int k,v=>∃ n,v=.int k n∧(Lit.int k n).wf=true
 | .bool,v=>∃ b,v=.bool b
 | .str,v=>∃ s,v=.str s∧s.length≤maxLen
 | .sl sz e,v=>∃ rows:List (List AV),v=.sl sz rows.flatten∧rows.length≤maxLen∧∀ r∈rows,FitL e r
def FitL:List Ty→List AV→Prop
 | [],vs=>vs=[]
 |t::ts,vs=>∃ v us,vs=v::us∧Fit t v∧FitL ts us
end
theorem FitL_len:∀ {ts:List Ty} {vs:List AV},FitL ts vs→vs.length=ts.length
 | [],vs,h=>by simp only [FitL] at h;subst h;rfl
 |t::ts,vs,h=>by
  simp only [FitL] at h
  obtain ⟨v,us,rfl,_,h⟩:=h
  simp [FitL_len h]
theorem FitL_append:∀ {ts us:List Ty} {vs ws:List AV},FitL ts vs→FitL us ws→FitL (ts++us) (vs++ws)
 | [],us,vs,ws,h,k=>by simp only [FitL] at h;subst h;exact k
 |t::ts,us,vs,ws,h,k=>by
  simp only [FitL] at h
  obtain ⟨v,xs,rfl,h1,h⟩:=h
  exact ⟨v,xs++ws,rfl,h1,FitL_append h k⟩
mutual
theorem Fit_okc:∀ {t:Ty} {v:AV},Fit t v→v.okc=true
 | .int k,v,h=>by obtain ⟨n,rfl,_⟩:=h;rfl
 | .bool,v,h=>by obtain ⟨n,rfl⟩:=h;rfl
 | .str,v,h=>by obtain ⟨n,rfl,_⟩:=h;rfl
 | .sl sz e,v,h=>by obtain ⟨n,rfl,_⟩:=h;rfl
end
theorem FitL_okc:∀ {ts:List Ty} {vs:List AV},FitL ts vs→vs.all AV.okc=true
 | [],vs,h=>by simp only [FitL] at h;subst h;rfl
 |t::ts,vs,h=>by
  simp only [FitL] at h
  obtain ⟨v,us,rfl,h1,h⟩:=h
  simp [Fit_okc h1,FitL_okc h]
def descF (P:Program) (g:TypeId→Option (List Ty)):List Field→Nat→Option (List Ty)
 | [],_=>some []
 |f::fs,off=>if f.offset=off then (g f.type).bind fun a=>if a.length=P.cellsOf f.type then (descF P g fs (off+a.length)).map (a++·) else none else none
def desc (P:Program):Nat→TypeId→Option (List Ty)
 |0,_=>none
 |n+1,t=>match P.underlying t with
  |some (.int k)=>some [.int k]
  |some .bool=>some [.bool]
  |some .string=>some [.str]
  |some (.slice e)=>(desc P n e).bind fun es=>if es.length=P.cellsOf e∧0<es.length then some [.sl es.length es] else none
  |some (.struct fs)=>(descF P (desc P n) fs.toList 0).bind fun ts=>if ts.length=P.cellsOf t then some ts else none
  |_=>none
theorem CL_app {m:Mem} {a b:List AV} {g:Nat→Option Value} (h1:CL m a g) (h2:CL m b (fun i=>g (a.length+i))):CL m (a++b) g:=by
 rw [CL_iff] at *
 intro i x hx
 rw [List.getElem?_append] at hx
 split at hx
 ·exact h1 i x hx
 ·obtain ⟨u,h3,h4⟩:=h2 _ x hx
  exact ⟨u,by rwa [show a.length+(i - a.length)=i by omega] at h3,h4⟩
section
variable {P:Program} {W:World} {m:Mem} {H:Type} {enc:TypeId × Value→H} {sp:Nat→Bool}
theorem cells_at {b:Addr} {n:Nat} {cs:List Value} (h:W.cells? 0 b n=some cs):cs.length=n∧∀ i u,cs[i]? = some u→W.cell? (b.add i)=some u:=by
 unfold World.cells? at h
 rw [if_pos (Nat.zero_le _)] at h
 have hl:=mapM_some_length h
 rw [List.length_range] at hl
 refine ⟨hl,fun i u hu=>?_⟩
 have hi:i<n:=by rw [←hl];exact (List.getElem?_eq_some_iff.1 hu).1
 rw [mapM_some_get h i i (by simp [hi]),hu]
theorem open_fit (him:∀ b o u,W.cell? ⟨b,o,none⟩=some u→m.im b o=some u):∀ n t ts fuel cs x,desc P n t=some ts→DataW.trod enc P W 0 sp true fuel t cs=some x →
  ∃ avs,FitL ts avs∧avs.length=cs.length∧CL m avs (fun i=>cs[i]?)
 |0,t,ts,fuel,cs,x,h,_=>by simp [desc] at h
 |n+1,t,ts,fuel,cs,x,h,hx=>by
  unfold desc at h
  split at h
  ·rename_i k hu
   injection h with h;subst h
   obtain ⟨z,rfl,_,hw⟩:=DataW.trod_int hu hx
   exact ⟨[.int k z],⟨_,_,rfl,⟨z,rfl,hw⟩,rfl⟩,rfl,by simp [CL,C]⟩
  ·rename_i hu
   injection h with h;subst h
   obtain ⟨z,rfl,_⟩:=DataW.trod_bool hu hx
   exact ⟨[.bool z],⟨_,_,rfl,⟨z,rfl⟩,rfl⟩,rfl,by simp [CL,C]⟩
  ·rename_i hu
   injection h with h;subst h
   obtain ⟨z,rfl,_,hz⟩:=DataW.trod_string hu hx
   exact ⟨[.str z.data.toList],⟨_,_,rfl,⟨_,rfl,by simpa using hz⟩,rfl⟩,rfl,by simp [CL,C]⟩
  ·rename_i e hu
   simp only [obI] at h
   obtain ⟨es,he,h⟩:=h
   split at h
   ·rename_i hc
    obtain ⟨hc1,hc2⟩:=hc
    injection h with h;subst h
    rcases DataW.trod_slice hu hx with ⟨rfl,_⟩ | ⟨a,len,cap,elems,rest,n',_,rfl,_,_,hlc,hcm,hel,hget,_⟩
    ·refine ⟨[.sl es.length []],⟨_,_,rfl,⟨[],rfl,by simp,by simp⟩,rfl⟩,rfl,?_⟩
     simp only [CL,C]
     exact ⟨⟨_,rfl,by simp,none,0,0,rfl,by simp,fun _=>rfl,Nat.le_refl _,fun h=>absurd rfl h⟩,trivial⟩
    ·have elem:∀ i,i<len→∃ ci xi,W.cells? 0 (a.add (i*es.length)) es.length=some ci∧DataW.trod enc P W 0 sp true n' e ci=some xi:=by
      intro i hi
      have:=hget i hi
      rw [List.getElem?_eq_getElem (by omega),obI] at this
      obtain ⟨ci,h1,h2⟩:=this
      exact ⟨ci,_,by rw [hc1];exact h1,h2⟩
     have key:∀ k,k≤len→∃ rows:List (List AV),rows.length=k∧(∀ r∈rows,FitL es r)∧rows.flatten.length=k*es.length∧(0<k→∃ b o,a=⟨b,o,none⟩)∧CL m rows.flatten (fun i=>m.im a.block (a.off+i)):=by
      intro k
      induction k with
      |zero=>intro _;exact ⟨[],rfl,by simp,by simp,by omega,by simp [CL]⟩
      |succ k ih=>
       intro hk
       obtain ⟨rows,h1,h2,h3,h4,h5⟩:=ih (by omega)
       obtain ⟨ci,xi,h6,h7⟩:=elem k (by omega)
       obtain ⟨avs,h8,h9,h10⟩:=open_fit him n e es n' ci xi he h7
       obtain ⟨h11,h12⟩:=cells_at h6
       have hspot:a.spot=none:=by
        obtain ⟨ci0,xi0,q1,q2⟩:=elem 0 (by omega)
        obtain ⟨q3,q4⟩:=cells_at q1
        have q5:=q4 0 (ci0[0]'(by omega)) (List.getElem?_eq_getElem _)
        simp only [Nat.zero_mul,Addr.add,if_true] at q5
        unfold World.cell? at q5
        split at q5
        ·split at q5
         ·cases q5
         ·rename_i hs;simpa using hs
        ·cases q5
       refine ⟨rows++[avs],by simp [h1],?_,by simp [h3,h9,h11,Nat.add_mul],fun _=>⟨a.block,a.off,by cases a;simp at hspot;simp [hspot]⟩,?_⟩
       ·intro r hr
        rcases List.mem_append.1 hr with hr | hr
        ·exact h2 r hr
        ·simp at hr;subst hr;exact h8
       ·rw [List.flatten_append,List.flatten_cons,List.flatten_nil,List.append_nil]
        refine CL_app h5 (CL_ext (fun i u hu=>?_) h10)
        have hu':ci[i]? = some u:=hu
        have:=h12 i u hu'
        refine him _ _ _ ?_
        rw [←this,h3]
        congr 1
        cases a with
        |mk ab ao asp=>
         simp only at hspot
         subst hspot
         simp only [Addr.add]
         by_cases z1:k*es.length=0
         ·by_cases z2:i=0
          ·simp [z1,z2]
          ·simp [z1,z2]
         ·by_cases z2:i=0
          ·simp [z1,z2]
          ·simp [z1,z2,Nat.add_assoc]
     obtain ⟨rows,h1,h2,h3,h4,h5⟩:=key len (Nat.le_refl _)
     refine ⟨[.sl es.length rows.flatten],⟨_,_,rfl,⟨rows,rfl,by omega,h2⟩,rfl⟩,rfl,?_⟩
     simp only [CL,C]
     refine ⟨⟨_,rfl,?_,some a,len,cap,rfl,h3,fun hz=>?_,hlc,fun hz=>?_⟩,trivial⟩
     ·rw [List.all_eq_true]
      intro v hv
      obtain ⟨r,hr,hvr⟩:=List.mem_flatten.1 hv
      have:=FitL_okc (h2 r hr)
      rw [List.all_eq_true] at this
      exact this v hvr
     ·rw [hz] at h3
      rcases Nat.mul_eq_zero.1 h3.symm with h | h
      ·exact h
      ·omega
     ·have:0<len:=by
       rcases Nat.eq_zero_or_pos len with h | h
       ·subst h
        have:rows=[]:=List.eq_nil_of_length_eq_zero h1
        subst this
        exact absurd rfl hz
       ·exact h
      obtain ⟨b,o,rfl⟩:=h4 this
      exact ⟨b,o,rfl,h5⟩
   ·cases h
  ·rename_i fs hu
   simp only [obI] at h
   obtain ⟨ts',hd,h⟩:=h
   split at h
   ·rename_i hl
    injection h with h;subst h
    obtain ⟨xs,n',_,_,hcs,hxl,hget⟩:=DataW.trod_struct hu hx
    have hall:∀ f∈fs.toList,∃ y,DataW.trod enc P W 0 sp true n' f.type ((cs.drop f.offset).take (P.cellsOf f.type))=some y:=by
     intro f hf
     obtain ⟨i,hi,rfl⟩:=List.getElem_of_mem hf
     have h1:=hget i (fs.toList[i]) (by simp at hi ⊢)
     rw [h1]
     have:i<xs.length:=by rw [hxl];simpa using hi
     exact ⟨_,List.getElem?_eq_getElem this⟩
    have key:∀ (l:List Field) off us,descF P (desc P n) l off=some us→(∀ f∈l,f∈fs.toList)→∃ avs,FitL us avs∧CL m avs (fun i=>cs[off+i]?):=by
     intro l
     induction l with
     |nil=>intro off us h _;simp only [descF] at h;injection h with h;subst h;exact ⟨[],rfl,by simp [CL]⟩
     |cons f l ih=>
      intro off us h hin
      simp only [descF] at h
      split at h
      ·rename_i hoff
       simp only [obI] at h
       obtain ⟨a,ha,h⟩:=h
       split at h
       ·rename_i hal
        simp only [omI] at h
        obtain ⟨vs,hv,rfl⟩:=h
        obtain ⟨y,hy⟩:=hall f (hin f (by simp))
        obtain ⟨a1,q1,q2,q3⟩:=open_fit him n f.type a n' _ y ha hy
        obtain ⟨a2,q4,q5⟩:=ih _ vs hv (fun g hg=>hin g (by simp [hg]))
        refine ⟨a1++a2,FitL_append q1 q4,CL_app (CL_ext (fun i u hu=>?_) q3) ?_⟩
        ·simp only [List.getElem?_take,List.getElem?_drop] at hu
         split at hu
         ·rw [hoff] at hu;exact hu
         ·cases hu
        ·rw [FitL_len q1]
         simpa [Nat.add_assoc] using q5
       ·cases h
      ·cases h
    obtain ⟨avs,h1,h2⟩:=key fs.toList 0 ts' hd (fun _ h=>h)
    exact ⟨avs,h1,by rw [FitL_len h1,hl,hcs],by simpa using h2⟩
   ·cases h
  ·cases h
def mem0 (P:Program) (fid:FuncId→Option Nat) (W:World):Mem:=⟨P,fid,fun b o=>W.cell? ⟨b,o,none⟩,[],fun _=>[]⟩
theorem hinv0 (fid:FuncId→Option Nat):HInv (fun g=>g<W.heap.size) W (mem0 P fid W) [] W []:=
 ⟨rfl,rfl,rfl,Nat.le_refl _,fun g h=>⟨h,rfl⟩,rfl,fun _ _ _ h=>h,fun id b e h=>by simp at h,fun id g h=>by simp [mem0] at h,fun _=>by simp [mem0],fun i j g h=>by simp [mem0] at h,fun _ _=>rfl,fun g h=>by simp at h,by simp,fun id g h=>by simp [mem0] at h⟩
theorem law_calls {fid:FuncId→Option Nat} {T:Nat→Option Entry} (G:Good P fid T) {f:FuncId} {k:Nat} (hf:fid f=some k) {as:List AV} (hr:runP T k as []=some (.bool true,[])) {args:Array Value} (hC:CL (mem0 P fid W) as (fun i=>args[i]?)) (hs:args.size=as.length):
  Calls P f args W fun e W'=>e=.returned (.bool true)∧Below W.heap.size W W':=by
 have:=run_ok G hf hr _ W (mem0 P fid W) W args rfl rfl (hinv0 fid) hC hs
 refine (callsIn_wide.1 this).mono ?_
 rintro e W' ⟨u,m',fl,rfl,_,_,HH,hR⟩
 simp only [R,C] at hR
 exact ⟨by rw [hR.2],⟨HH.os,HH.tape,HH.output,HH.size,fun g hg=>(HH.fix g hg).2⟩⟩
theorem open_one {fid:FuncId→Option Nat} {r:Reach} {b0:Nat} {n:Nat} {t:TypeId} {ty:Ty} {v:Value} {d:DataW H} {p:List MemPlace} (hd:desc P n t=some [ty]) (hns:∀ fs,P.underlying t≠some (.struct fs)) (hv:Value.okWide P W r b0 t v) (h:DataW.Trod enc P W 0 sp true t v d p):
  ∃ av,Fit ty av∧C (mem0 P fid W) av v:=by
 obtain ⟨fuel,hf⟩:=h
 obtain ⟨avs,h1,h2,h3⟩:=open_fit (m:=mem0 P fid W) (fun _ _ _ h=>h) n t _ fuel _ _ hd hf
 simp only [FitL] at h1
 obtain ⟨av,us,rfl,h1,rfl⟩:=h1
 refine ⟨av,h1,?_⟩
 simp only [CL] at h3
 obtain ⟨⟨u,h4,h5⟩,_⟩:=h3
 have:v.cells.toList=[v]:=by
  cases n with
  |zero=>simp [desc] at hd
  |succ n=>
   unfold desc at hd
   split at hd
   ·rename_i k hu;obtain ⟨z,rfl⟩:=okWide_int hu hv;rfl
   ·rename_i hu;obtain ⟨z,rfl⟩:=okWide_bool hu hv;rfl
   ·rename_i hu;obtain ⟨z,rfl⟩:=okWide_string hu hv;rfl
   ·rename_i e hu;obtain ⟨a,b,c,rfl⟩:=okWide_slice hu hv;rfl
   ·rename_i fs hu;exact absurd hu (hns fs)
   ·cases hd
 rw [this] at h4
 simp at h4
 subst h4
 exact h5
theorem open_st {fid:FuncId→Option Nat} {r:Reach} {b0:Nat} {n:Nat} {t:TypeId} {fs:Array Field} {ts:List Ty} {v:Value} {d:DataW H} {p:List MemPlace} (hu:P.underlying t=some (.struct fs)) (hd:desc P n t=some ts) (hv:Value.okWide P W r b0 t v) (h:DataW.Trod enc P W 0 sp true t v d p):
  ∃ avs,FitL ts avs∧C (mem0 P fid W) (.agg avs) v:=by
 obtain ⟨fuel,hf⟩:=h
 obtain ⟨avs,h1,h2,h3⟩:=open_fit (m:=mem0 P fid W) (fun _ _ _ h=>h) n t _ fuel _ _ hd hf
 obtain ⟨cs,rfl,_⟩:=okWide_struct hu hv
 refine ⟨avs,h1,?_⟩
 simp only [C]
 exact ⟨FitL_okc h1,cs,rfl,by simpa [Value.cells] using h2.symm,by simpa [Value.cells] using h3⟩
end
theorem fit_int {v:AV} (h:Fit (.int .i64) v):∃ n:Int,v=.int .i64 n∧-9223372036854775808≤n∧n≤9223372036854775807:=by
 obtain ⟨n,rfl,hw⟩:=h
 refine ⟨n,rfl,?_⟩
 simp only [Lit.wf,Bool.and_eq_true,decide_eq_true_eq] at hw
 have h1:IntKind.i64.min = -9223372036854775808:=rfl
 have h2:IntKind.i64.max=9223372036854775807:=rfl
 rw [h1,h2] at hw
 exact hw
theorem fit_ints {v:AV} (h:Fit (.sl 1 [.int .i64]) v):∃ l:List Int,v=.sl 1 (ints l)∧l.length≤9223372036854775807∧∀ n∈l,-9223372036854775808≤n∧n≤9223372036854775807:=by
 obtain ⟨rows,rfl,hl,hr⟩:=h
 have:∃ l:List Int,rows.flatten=ints l∧l.length=rows.length∧∀ n∈l,-9223372036854775808≤n∧n≤9223372036854775807:=by
  clear hl
  induction rows with
  |nil=>exact ⟨[],rfl,rfl,by simp⟩
  |cons r rows ih=>
   obtain ⟨l,h1,h2,h3⟩:=ih (fun r hr'=>hr r (by simp [hr']))
   have h4:=hr r (by simp)
   simp only [FitL] at h4
   obtain ⟨v,us,rfl,h5,rfl⟩:=h4
   obtain ⟨n,rfl,h6⟩:=fit_int h5
   refine ⟨n::l,by simp [h1,ints_cons],by simp [h2],fun x hx=>?_⟩
   rcases List.mem_cons.1 hx with rfl | hx
   ·exact h6
   ·exact h3 x hx
 obtain ⟨l,h1,h2,h3⟩:=this
 exact ⟨l,by rw [h1],by rw [h2];unfold maxLen at hl;omega,h3⟩
abbrev Txt:=List UInt8
def strs (l:List Txt):List AV:=l.map .str
theorem strs_length (l:List Txt):(strs l).length=l.length:=by simp [strs]
theorem strs_flat (l:List Txt):(strs l).all flat=true:=by simp [strs,flat]
theorem strs_okc (l:List Txt):(strs l).all AV.okc=true:=flat_okc (strs_flat l)
theorem strs_idsL (l:List Txt):idsL (strs l)=[]:=flat_idsL (strs_flat l)
theorem strs_noid (l:List Txt):noidL (strs l)=true:=flat_noidL (strs_flat l)
theorem strs_noid' (l:List Txt):allL pnoid (strs l)=true:=flat_noidL (strs_flat l)
theorem strs_noinl (l:List Txt):noinlL (strs l)=true:=flat_noinlL (strs_flat l)
theorem strs_noinl' (l:List Txt):allL pnoinl (strs l)=true:=flat_noinlL (strs_flat l)
theorem strs_noimm (l:List Txt):allL pnoimm (strs l)=true:=flat_noimmL (strs_flat l)
theorem strs_idlt' (n:Nat) (l:List Txt):allL (pidlt n) (strs l)=true:=flat_idltL (strs_flat l)
theorem strs_frz' (l:List Txt):mapL frz1 (strs l)=strs l:=flat_frzL (strs_flat l)
theorem strs_ren' (r:Nat→Nat) (l:List Txt):mapL (ren1 r) (strs l)=strs l:=flat_renL (strs_flat l)
theorem strs_fz (hp:List Blk) (l:List Txt):fzL hp (strs l)=some (strs l):=flat_fzL (strs_flat l)
theorem strs_pk (n:Nat) (hp:List Blk) (l:List Txt):pkL n hp (strs l)=some (strs l,hp):=flat_pkL (strs_flat l)
theorem strs_pks (hp:List Blk) (l:List Txt):pksL hp (strs l)=some (strs l,hp):=flat_pksL (strs_flat l)
theorem strs_thaw (hp:List Blk) (l:List Txt):thawL hp (strs l)=(strs l,hp):=flat_thawL (strs_flat l)
theorem strs_rdc {l:List Txt} {i:Nat} (h:i<l.length):rdc ((strs l).drop i) none=some (.str (l.getD i [])):=by
 simp [rdc,strs,List.head?_drop,List.getD_eq_getElem?_getD,h]
attribute [go_sem] strs_okc strs_idsL strs_noid strs_noid' strs_noinl strs_noinl' strs_noimm strs_idlt' strs_frz' strs_ren' strs_fz strs_pk strs_pks strs_thaw strs_length
structure Req where
 id:Int
 kind:Int
 qk:Int
 frm:Int
 to:Int
 words:List Txt
 radius:Int
 most:Int
deriving DecidableEq,Inhabited
def reqS (r:Req):List AV:=[.int .i64 r.id,.int .i64 r.kind,.int .i64 r.qk,.int .i64 r.frm,.int .i64 r.to,.sl 1 (strs r.words),.int .i64 r.radius,.int .i64 r.most]
def reqV (r:Req):List AV:=[.int .i64 r.id,.int .i64 r.kind,.int .i64 r.qk,.int .i64 r.frm,.int .i64 r.to,.vec 1 (strs r.words),.int .i64 r.radius,.int .i64 r.most]
def reqsS (l:List Req):List AV:=l.flatMap reqS
def reqsV (l:List Req):List AV:=l.flatMap reqV
theorem reqsS_cons (r:Req) (l:List Req):reqsS (r::l)=reqS r++reqsS l:=rfl
theorem reqsV_cons (r:Req) (l:List Req):reqsV (r::l)=reqV r++reqsV l:=rfl
theorem reqsS_app (a b:List Req):reqsS a++reqsS b=reqsS (a++b):=by simp [reqsS]
theorem reqsV_app (a b:List Req):reqsV a++reqsV b=reqsV (a++b):=by simp [reqsV]
theorem reqsS_one (r:Req):reqS r=reqsS [r]:=by simp [reqsS]
theorem reqsV_one (r:Req):reqV r=reqsV [r]:=by simp [reqsV]
theorem reqsS_len (l:List Req):(reqsS l).length=l.length*8:=by
 induction l with
 |nil=>rfl
 |cons r l ih=>rw [reqsS_cons,List.length_append,ih];simp [reqS];omega
theorem reqsV_len (l:List Req):(reqsV l).length=l.length*8:=by
 induction l with
 |nil=>rfl
 |cons r l ih=>rw [reqsV_cons,List.length_append,ih];simp [reqV];omega
theorem mul8_div (n:Nat):n*8 / 8=n:=by omega
theorem allL_append (p:AV→Bool) (a b:List AV):allL p (a++b)=(allL p a && allL p b):=by
 induction a with
 |nil=>simp [allL]
 |cons x a ih=>simp [allL,ih,Bool.and_assoc]
theorem mapL_append (f:AV→AV) (a b:List AV):mapL f (a++b)=mapL f a++mapL f b:=by
 induction a with
 |nil=>rfl
 |cons x a ih=>simp [mapL,ih]
theorem idsL_append (a b:List AV):idsL (a++b)=idsL a++idsL b:=by
 induction a with
 |nil=>rfl
 |cons x a ih=>simp [idsL,ih]
theorem reqsS_noid' (l:List Req):allL pnoid (reqsS l)=true:=by
 induction l with
 |nil=>rfl
 |cons r l ih=>rw [reqsS_cons,allL_append,ih];simp [reqS,allL,AV.allv,pnoid,strs_noid']
theorem reqsV_noid' (l:List Req):allL pnoid (reqsV l)=true:=by
 induction l with
 |nil=>rfl
 |cons r l ih=>rw [reqsV_cons,allL_append,ih];simp [reqV,allL,AV.allv,pnoid,strs_noid']
theorem reqsS_noinl' (l:List Req):allL pnoinl (reqsS l)=true:=by
 induction l with
 |nil=>rfl
 |cons r l ih=>rw [reqsS_cons,allL_append,ih];simp [reqS,allL,AV.allv,pnoinl,strs_noinl']
theorem reqsV_noinl' (l:List Req):allL pnoinl (reqsV l)=l.isEmpty:=by
 cases l with
 |nil=>rfl
 |cons r l=>rw [reqsV_cons,allL_append];simp [reqV,allL,AV.allv,pnoinl]
theorem reqsV_noimm' (l:List Req):allL pnoimm (reqsV l)=true:=by
 induction l with
 |nil=>rfl
 |cons r l ih=>rw [reqsV_cons,allL_append,ih];simp [reqV,allL,AV.allv,pnoimm,strs_noimm]
theorem reqsS_idlt' (n:Nat) (l:List Req):allL (pidlt n) (reqsS l)=true:=idltL_noid _ (reqsS_noid' l)
theorem reqsV_idlt' (n:Nat) (l:List Req):allL (pidlt n) (reqsV l)=true:=idltL_noid _ (reqsV_noid' l)
theorem reqsS_ren' (f:Nat→Nat) (l:List Req):mapL (ren1 f) (reqsS l)=reqsS l:=renL_noid _ (reqsS_noid' l)
theorem reqsV_ren' (f:Nat→Nat) (l:List Req):mapL (ren1 f) (reqsV l)=reqsV l:=renL_noid _ (reqsV_noid' l)
theorem reqsS_ids (l:List Req):idsL (reqsS l)=[]:=noidL_ids _ (reqsS_noid' l)
theorem reqsV_ids (l:List Req):idsL (reqsV l)=[]:=noidL_ids _ (reqsV_noid' l)
theorem reqsS_frz' (l:List Req):mapL frz1 (reqsS l)=reqsS l:=by
 induction l with
 |nil=>rfl
 |cons r l ih=>rw [reqsS_cons,mapL_append,ih];simp [reqS,mapL,AV.mapv,frz1,strs_frz']
theorem reqsV_frz' (l:List Req):mapL frz1 (reqsV l)=reqsS l:=by
 induction l with
 |nil=>rfl
 |cons r l ih=>rw [reqsV_cons,reqsS_cons,mapL_append,ih];simp [reqV,reqS,mapL,AV.mapv,frz1,strs_frz']
theorem reqsS_okc (l:List Req):(reqsS l).all AV.okc=true:=by
 induction l with
 |nil=>rfl
 |cons r l ih=>rw [reqsS_cons,List.all_append,ih];simp [reqS,AV.okc]
theorem reqsV_okc (l:List Req):(reqsV l).all AV.okc=true:=by
 induction l with
 |nil=>rfl
 |cons r l ih=>rw [reqsV_cons,List.all_append,ih];simp [reqV,AV.okc]
theorem reqsS_drop (l:List Req) (i:Nat):(reqsS l).drop (i*8)=reqsS (l.drop i):=by
 induction i generalizing l with
 |zero=>simp
 |succ i ih=>cases l with
  |nil=>simp [reqsS]
  |cons r l=>
   rw [reqsS_cons,show (i+1)*8=(reqS r).length+i*8 by simp [reqS];omega,←List.drop_drop,List.drop_left]
   exact ih l
theorem reqsV_drop (l:List Req) (i:Nat):(reqsV l).drop (i*8)=reqsV (l.drop i):=by
 induction i generalizing l with
 |zero=>simp
 |succ i ih=>cases l with
  |nil=>simp [reqsV]
  |cons r l=>
   rw [reqsV_cons,show (i+1)*8=(reqV r).length+i*8 by simp [reqV];omega,←List.drop_drop,List.drop_left]
   exact ih l
theorem reqsS_take (l:List Req) (i:Nat):(reqsS l).take (i*8)=reqsS (l.take i):=by
 induction i generalizing l with
 |zero=>simp [reqsS]
 |succ i ih=>cases l with
  |nil=>simp [reqsS]
  |cons r l=>
   rw [reqsS_cons,show (i+1)*8=(reqS r).length+i*8 by simp [reqS];omega,List.take_length_add_append,ih,List.take_succ_cons,reqsS_cons]
theorem reqsV_take (l:List Req) (i:Nat):(reqsV l).take (i*8)=reqsV (l.take i):=by
 induction i generalizing l with
 |zero=>simp [reqsV]
 |succ i ih=>cases l with
  |nil=>simp [reqsV]
  |cons r l=>
   rw [reqsV_cons,show (i+1)*8=(reqV r).length+i*8 by simp [reqV];omega,List.take_length_add_append,ih,List.take_succ_cons,reqsV_cons]
theorem reqsS_fz (hp:List Blk):∀ l:List Req,fzL hp (reqsS l)=some (reqsS l)
 | []=>rfl
 |r::l=>by
  have:=reqsS_fz hp l
  rw [reqsS_cons]
  simp [reqS,fzL,fz,strs_noid,this]
theorem reqsS_pk (n:Nat) (hp:List Blk):∀ l:List Req,pkL n hp (reqsS l)=some (reqsS l,hp)
 | []=>rfl
 |r::l=>by
  have:=reqsS_pk n hp l
  rw [reqsS_cons]
  simp [reqS,pkL,pk,this]
theorem reqsV_pk (n:Nat) (hp:List Blk):∀ l:List Req,pkL n hp (reqsV l)=some (reqsV l,hp)
 | []=>rfl
 |r::l=>by
  have:=reqsV_pk n hp l
  rw [reqsV_cons]
  simp [reqV,pkL,pk,this]
theorem reqS_len (r:Req):(reqS r).length=8:=rfl
theorem reqV_len (r:Req):(reqV r).length=8:=rfl
theorem reqS_fz (hp:List Blk) (r:Req):fzL hp (reqS r)=some (reqS r):=by rw [reqsS_one];exact reqsS_fz hp _
theorem reqS_okc (r:Req):(reqS r).all AV.okc=true:=rfl
theorem reqV_okc (r:Req):(reqV r).all AV.okc=true:=rfl
theorem reqS_noid' (r:Req):allL pnoid (reqS r)=true:=by rw [reqsS_one];exact reqsS_noid' _
theorem reqV_noid' (r:Req):allL pnoid (reqV r)=true:=by rw [reqsV_one];exact reqsV_noid' _
theorem reqS_noinl' (r:Req):allL pnoinl (reqS r)=true:=by rw [reqsS_one];exact reqsS_noinl' _
theorem reqS_ids (r:Req):idsL (reqS r)=[]:=by rw [reqsS_one];exact reqsS_ids _
theorem reqS_idlt' (n:Nat) (r:Req):allL (pidlt n) (reqS r)=true:=by rw [reqsS_one];exact reqsS_idlt' n _
theorem reqS_ren' (f:Nat→Nat) (r:Req):mapL (ren1 f) (reqS r)=reqS r:=by rw [reqsS_one];exact reqsS_ren' f _
theorem reqS_frz' (r:Req):mapL frz1 (reqS r)=reqS r:=by rw [reqsS_one];exact reqsS_frz' _
theorem reqS_pks (hp:List Blk) (r:Req):pksL hp (reqS r)=some (reqS r,hp):=by simp [reqS,pksL,pks,pk]
theorem reqS_pk (n:Nat) (hp:List Blk) (r:Req):pkL n hp (reqS r)=some (reqS r,hp):=by rw [reqsS_one];exact reqsS_pk n hp _
theorem reqS_unpk (hp:List Blk) (r:Req):unpk hp (reqS r)=(reqS r,hp):=by simp [reqS,unpk]
attribute [go_sem] reqS_len reqV_len reqS_fz reqS_okc reqV_okc reqS_noid' reqV_noid' reqS_noinl' reqS_ids reqS_idlt' reqS_ren' reqS_frz' reqS_pks reqS_pk reqS_unpk
attribute [go_sem] reqsV_noimm' allL_append mapL_append idsL_append reqsS_noid' reqsV_noid' reqsS_noinl' reqsV_noinl' reqsS_idlt' reqsV_idlt' reqsS_ren' reqsV_ren' reqsS_ids reqsV_ids reqsS_frz' reqsV_frz' reqsS_okc reqsV_okc reqsS_fz reqsS_pk reqsV_pk reqsS_len reqsV_len mul8_div reqsS_app reqsV_app reqsS_drop reqsV_drop reqsS_take reqsV_take
theorem fit_str {v:AV} (h:Fit .str v):∃ s:Txt,v=.str s∧s.length≤9223372036854775807:=by
 obtain ⟨s,rfl,hs⟩:=h
 exact ⟨s,rfl,by unfold maxLen at hs;omega⟩
theorem fit_strs {v:AV} (h:Fit (.sl 1 [.str]) v):∃ l:List Txt,v=.sl 1 (strs l)∧l.length≤9223372036854775807∧∀ s∈l,s.length≤9223372036854775807:=by
 obtain ⟨rows,rfl,hl,hr⟩:=h
 have:∃ l:List Txt,rows.flatten=strs l∧l.length=rows.length∧∀ s∈l,s.length≤9223372036854775807:=by
  clear hl
  induction rows with
  |nil=>exact ⟨[],rfl,rfl,by simp⟩
  |cons r rows ih=>
   obtain ⟨l,h1,h2,h3⟩:=ih (fun r hr'=>hr r (by simp [hr']))
   have h4:=hr r (by simp)
   simp only [FitL] at h4
   obtain ⟨v,us,rfl,h5,rfl⟩:=h4
   obtain ⟨s,rfl,h6⟩:=fit_str h5
   refine ⟨s::l,by simp [h1,strs],by simp [h2],fun x hx=>?_⟩
   rcases List.mem_cons.1 hx with rfl | hx
   ·exact h6
   ·exact h3 x hx
 obtain ⟨l,h1,h2,h3⟩:=this
 exact ⟨l,by rw [h1],by rw [h2];unfold maxLen at hl;omega,h3⟩
def I64 (n:Int):Prop:=-9223372036854775808≤n∧n≤9223372036854775807
end Go.Proofs.Ytfbfbennheeglaa
