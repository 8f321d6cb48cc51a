import Derived.Test.YtfbfbennheeglaaKf
import Derived.WalkSpells
import Derived.Laws.Slices
import Derived.Laws.Strings
import Derived.Laws.MakeOwn
import Derived.Laws.StructEq
import Derived.ChangeKeysEq
namespace Go.Proofs.Ytfbfbennheeglaa
set_option linter.unusedSimpArgs false
set_option linter.unusedVariables false
open Go.RowKit
theorem RL_congr {m:Mem} {w:World}:∀ {cs:List AV} {g g':Nat→Option Value} {f:List Nat},(∀ i,i<cs.length→g' i=g i)→RL m w cs g f→RL m w cs g' f
  | [],_,_,_,_,h=>by simpa [RL] using h
  |x::xs,g,g',f,hg,h=>by
    simp only [RL] at h ⊢
    obtain ⟨f1,f2,rfl,⟨u,h1,h2⟩,h3⟩:=h
    exact ⟨f1,f2,rfl,⟨u,(hg 0 (by simp)).trans h1,h2⟩,RL_congr (fun i hi=>hg (i+1) (by simp;omega)) h3⟩
theorem setAll_length:∀ (us cs:List AV) (o:Nat),(setAll cs o us).length=cs.length
  | [],_,_=>rfl
  |u::us,cs,o=>by simp only [setAll];rw [setAll_length us];simp
theorem setAll_eq:∀ (us cs:List AV) (o:Nat),o+us.length≤cs.length→setAll cs o us=cs.take o++us++cs.drop (o+us.length)
  | [],cs,o,_=>by simp [setAll]
  |u::us,cs,o,h=>by
    simp only [List.length_cons] at h
    simp only [setAll]
    rw [setAll_eq us (cs.set o u) (o+1) (by simp;omega)]
    apply List.ext_getElem?
    intro i
    simp only [List.getElem?_append,List.length_append,List.length_take,List.length_set,List.getElem?_take,List.getElem?_drop,List.getElem?_set,List.length_cons]
    by_cases c1:i<o
    · simp [show i<min (o+1) cs.length by omega,show i<min (o+1) cs.length+us.length by omega,show i<o+1 by omega,show ¬ o=i by omega,show i<min o cs.length by omega,show i<min o cs.length+(us.length+1) by omega,c1]
    · by_cases c2:i=o
      · subst c2
        simp [show i<min (i+1) cs.length by omega,show i<min (i+1) cs.length+us.length by omega,show i<cs.length by omega,show ¬ i<min i cs.length by omega,show i<min i cs.length+(us.length+1) by omega,show i - min i cs.length=0 by omega]
      · by_cases c3:i<o+1+us.length
        · simp [show ¬ i<min (o+1) cs.length by omega,show i<min (o+1) cs.length+us.length by omega,show ¬ i<min o cs.length by omega,show i<min o cs.length+(us.length+1) by omega]
          rw [show i - min o cs.length=(i - min (o+1) cs.length)+1 by omega]
          simp
        · simp [show ¬ i<min (o+1) cs.length+us.length by omega,show ¬ i<min o cs.length+(us.length+1) by omega,show ¬ o=o+1+us.length+(i - (min (o+1) cs.length+us.length)) by omega]
          congr 1
          omega
theorem setAll_okc:∀ (us cs:List AV) (o:Nat),cs.all AV.okc=true→us.all AV.okc=true→(setAll cs o us).all AV.okc=true
  | [],_,_,h,_=>h
  |u::us,cs,o,h,k=>by
    simp only [setAll]
    simp only [List.all_cons,Bool.and_eq_true] at k
    refine setAll_okc us _ _ ?_ k.2
    rw [List.all_eq_true] at h ⊢
    intro x hx
    rcases List.mem_or_eq_of_mem_set hx with hx | rfl
    · exact h x hx
    · exact k.1
theorem addr_add (b o i:Nat):(⟨b,o,none⟩:Addr).add i=⟨b,o+i,none⟩:=by unfold Addr.add;split<;>simp_all
theorem len_div {cs:List AV} {n sz:Nat} (h:cs.length=n*sz) (h0:cs=[]→n=0):cs.length / sz=n:=by
  rcases Nat.eq_zero_or_pos sz with hs | hs
  · subst hs
    have:cs=[]:=List.eq_nil_of_length_eq_zero (by simpa using h)
    rw [h0 this];simp
  · rw [h,Nat.mul_div_cancel _ hs]
theorem CL_list {m:Mem}:∀ (cs:List AV) (g:Nat→Option Value),CL m cs g→∃ vs:List Value,vs.length=cs.length∧(∀ (i:Nat) u,vs[i]? = some u→g i=some u)∧CL m cs (fun i=>vs[i]?)
  | [],_,_=>⟨[],rfl,by simp,by simp [CL]⟩
  |x::xs,g,h=>by
    simp only [CL] at h
    obtain ⟨⟨u,hu,hC⟩,hCL⟩:=h
    obtain ⟨vs,h1,h2,h3⟩:=CL_list xs _ hCL
    refine ⟨u::vs,by simp [h1],?_,?_⟩
    · intro i v hv
      cases i with
      |zero=>simp at hv;subst hv;exact hu
      |succ i=>simp at hv;exact h2 i v hv
    · simp only [CL]
      exact ⟨⟨u,by simp,hC⟩,by simpa using h3⟩
theorem RL_list {m:Mem} {w:World}:∀ (cs:List AV) (g:Nat→Option Value) (f:List Nat),RL m w cs g f→∃ vs:List Value,vs.length=cs.length∧(∀ (i:Nat) u,vs[i]? = some u→g i=some u)∧RL m w cs (fun i=>vs[i]?) f
  | [],_,f,h=>⟨[],rfl,by simp,by simpa [RL] using h⟩
  |x::xs,g,f,h=>by
    simp only [RL] at h
    obtain ⟨f1,f2,rfl,⟨u,hu,hR⟩,hRL⟩:=h
    obtain ⟨vs,h1,h2,h3⟩:=RL_list xs _ f2 hRL
    refine ⟨u::vs,by simp [h1],?_,?_⟩
    · intro i v hv
      cases i with
      |zero=>simp at hv;subst hv;exact hu
      |succ i=>simp at hv;exact h2 i v hv
    · simp only [RL]
      exact ⟨f1,f2,rfl,⟨u,by simp,hR⟩,by simpa using h3⟩
theorem RL_one {m:Mem} {w:World}:∀ {cs:List AV} {g:Nat→Option Value} {f:List Nat},RL m w cs g f→cs.all AV.okc=true→∀ i u,i<cs.length→g i=some u→u.oneCell'=true
  | [],_,_,_,_,i,u,hi,_=>by simp at hi
  |x::xs,g,f,h,hok,i,u,hi,hu=>by
    simp only [RL] at h
    obtain ⟨f1,f2,rfl,⟨u',h1,h2⟩,h3⟩:=h
    simp only [List.all_cons,Bool.and_eq_true] at hok
    cases i with
    |zero=>rw [h1] at hu;injection hu with hu;subst hu;exact R_okc h2 hok.1
    |succ i=>exact RL_one h3 hok.2 i u (by simpa using hi) hu
theorem vs_one {m:Mem} {w:World} {cs:List AV} {vs:List Value} {f:List Nat} (h:RL m w cs (fun i=>vs[i]?) f) (hl:vs.length=cs.length) (hok:cs.all AV.okc=true):∀ u∈vs,u.oneCell'=true:=by
  intro u hu
  obtain ⟨i,hi,rfl⟩:=List.mem_iff_getElem.1 hu
  exact RL_one h hok i _ (by omega) (List.getElem?_eq_getElem hi)
theorem RL_splice {m:Mem} {w:World} {cs us:List AV} {vs ws:List Value} {f fu:List Nat} {o:Nat} (h:RL m w cs (fun i=>vs[i]?) f) (hv:cs.length≤vs.length) (hu:RL m w us (fun i=>ws[i]?) fu) (hw:ws.length=us.length) (hl:o+us.length≤cs.length):
    ∃ fa fb fc,f=fa++(fb++fc)∧RL m w (setAll cs o us) (fun i=>(vs.take o++ws++vs.drop (o+ws.length))[i]?) (fa++(fu++fc)):=by
  obtain ⟨fa,f2,rfl,ha,h2⟩:=CL_get h o
  have hto:(cs.take o).length=o:=by simp;omega
  rw [hto] at h2
  obtain ⟨fb,fc,rfl,hb,hc⟩:=CL_get h2 us.length
  have htu:((cs.drop o).take us.length).length=us.length:=by simp;omega
  rw [htu,List.drop_drop] at hc
  refine ⟨fa,fb,fc,rfl,?_⟩
  rw [setAll_eq us cs o hl,List.append_assoc,RL_append]
  refine ⟨fa,fu++fc,rfl,RL_congr (fun i hi=>?_) ha,?_⟩
  · rw [hto] at hi
    rw [List.append_assoc,List.getElem?_append_left (by simp;omega),List.getElem?_take,if_pos hi]
  · rw [RL_append]
    refine ⟨fu,fc,rfl,RL_congr (fun i hi=>?_) hu,RL_congr (fun i hi=>?_) hc⟩
    · rw [hto,List.append_assoc,List.getElem?_append_right (by simp;omega),List.getElem?_append_left (by simp;omega)]
      congr 1
      simp;omega
    · simp only [hto]
      rw [List.getElem?_append_right (by simp;omega),List.getElem?_drop]
      congr 1
      simp;omega
section
variable {P:Program} {fid:FuncId→Option Nat} {fr:Nat→Prop} {w0 w:World} {m:Mem} {hp hp':List Blk} {env:List (Nat × AV)} {a:Act} {o:Oper} {v:AV} {l0:Nat} {mk:List Mark} {fl:List Nat}
def Goes (P:Program) (o:Oper) (a:Act) (w:World) (fr:Nat→Prop) (w0:World) (m:Mem) (v:AV) (hp':List Blk):Prop:=
  ∃ nx u w' m',(execOp a.eval o).run P w=.ok nx w'∧(nx=.value u∨(nx=.skip∧u=undef))∧Ext fr m m'∧C m' v u∧HInv fr w0 m' hp' w' []
theorem goes_pure (H:HInv fr w0 m hp w []) {v:AV} {u:Value} (hr:(execOp a.eval o).run P w=.ok (.value u) w) (hC:C m v u):Goes P o a w fr w0 m v hp:=
  ⟨_,u,w,m,hr,.inl rfl,Ext.refl fr m,hC,H⟩
theorem tidy_ok {n:Nat}:∀ (k i:Nat) {hp hp':List Blk} {m:Mem},tidy n hp i k=some hp'→HInv fr w0 m hp w fl→∃ m',Ext fr m m'∧m'.im=m.im∧m'.bl=m.bl∧HInv fr w0 m' hp' w fl∧hp'.length=hp.length
  |0,i,hp,hp',m,h,H=>by
    simp only [tidy] at h;injection h with h;subst h
    exact ⟨m,Ext.refl fr m,rfl,rfl,H,rfl⟩
  |k+1,i,hp,hp',m,h,H=>by
    simp only [tidy] at h
    split at h
    · rename_i cs hb
      split at h
      · exact tidy_ok k (i+1) h H
      · rename_i hid
        simp only [obI] at h
        obtain ⟨r,hr,h⟩:=h
        split at h
        · rename_i hok
          obtain ⟨e,he,h1,h2,h3,h4,h5⟩:=H.at_ hb
          rcases h5 with ⟨q1,q2,q3⟩ | ⟨g,q1,q2,q3,_⟩
          · exfalso
            have:cs=[]:=List.eq_nil_of_length_eq_zero (by rw [h2,show e.n=0 by omega];simp)
            subst this
            exact hid rfl
          · obtain ⟨cur,t,f',r1,r2,r3,r4⟩:=q3 rfl
            have Hk:=(H.kill i).perm (fl':=(g::fl)++f') (by rw [r3];simpa using List.perm_append_comm)
            obtain ⟨m1,f1,E1,i1,b1,H1,R1,l1,l2,_⟩:=pkL_ok (f0:=g::fl) cs hr Hk (RL_mono (le_fp _) (fun _ _=>rfl) (fun _ _ h=>h) r4)
            have hx:m1.bl[i]? = some e:=by rw [b1];exact he
            have H1n:=H1.fnd
            have H2:=H1.turn (f:=g::f1) (g:=fl) (i:=i) (b:=.row false r.1) hx (fun q hq=>.inr (by simp at hq ⊢;rcases hq with h | h | h<;>simp [h])) (by
                refine (List.Perm.nodup_iff ?_).1 H1n
                simpa using List.perm_append_comm) ⟨hok,by rw [l2];exact h2,fun h=>h3 (List.eq_nil_of_length_eq_zero (by rw [←l2,h];rfl)),h4,.inr ⟨g,q1,q2,fun _=>⟨cur,t,f1,r1,r2,rfl,R1⟩,fun h=>by cases h⟩⟩
            obtain ⟨m3,E3,i3,b3,H3,l3⟩:=tidy_ok k (i+1) h H2
            exact ⟨m3,(((ext_fp _).trans E1).trans (ext_fp _)).trans E3,by rw [i3];exact i1,by rw [b3];exact b1,H3,by rw [l3];simp [l1]⟩
        · cases h
    · exact tidy_ok k (i+1) h H
theorem absv_ok (hcd:m.cd=fid) {v:Value} {x:AV} (h:absv fid v=some x):C m x v∧x.okc=true:=by
  unfold absv at h
  split at h
  case h_9 f fs cs=>
    split at h
    · rename_i hc
      obtain ⟨rfl,rfl⟩:=hc
      simp only [omI] at h
      obtain ⟨k,hk,rfl⟩:=h
      refine ⟨?_,rfl⟩
      simp only [C]
      exact ⟨f,#[],#[],rfl,by rw [hcd];exact hk,rfl,rfl,by simp [CL],by simp [CL]⟩
    · cases h
  all_goals (simp at h;try (subst h;simp [C,AV.okc]))
theorem absL_ok (hcd:m.cd=fid):∀ (vs:List Value) (xs:List AV),absL fid vs=some xs→CL m xs (fun i=>vs[i]?)∧xs.length=vs.length∧xs.all AV.okc=true
  | [],xs,h=>by simp only [absL] at h;injection h with h;subst h;simp [CL]
  |v::vs,xs,h=>by
    simp only [absL,obI,omI] at h
    obtain ⟨x,hx,ys,hys,rfl⟩:=h
    obtain ⟨k1,k2⟩:=absv_ok hcd hx
    obtain ⟨h1,h2,h3⟩:=absL_ok hcd vs ys hys
    refine ⟨?_,by simp [h2],by simp [k2,h3]⟩
    simp only [CL]
    exact ⟨⟨v,by simp,k1⟩,by simpa using h1⟩
theorem opd_ok {st:St} (hcd:m.cd=fid) {x:Operand} {y:SX} (h:opd fid x=some y) (E:EnvOk m st.env a.tmps):C m (st.ev y) (a.eval x):=by
  unfold opd at h
  split at h
  · injection h with h;subst h;exact E _
  · simp only [omI] at h
    obtain ⟨v,hv,rfl⟩:=h
    exact (absv_ok hcd hv).1
  · rename_i f
    simp only [omI] at h
    obtain ⟨k,hk,rfl⟩:=h
    simp only [St.ev,C]
    exact ⟨f,#[],#[],rfl,by rw [hcd];exact hk,rfl,rfl,by simp [CL],by simp [CL]⟩
  · cases h
theorem opds_ok {st:St} (hcd:m.cd=fid):∀ (xs:List Operand) (ys:List SX),opds fid xs=some ys→EnvOk m st.env a.tmps→CL m (ys.map st.ev) (fun i=>(xs.map a.eval)[i]?)∧ys.length=xs.length
  | [],ys,h,E=>by simp only [opds] at h;injection h with h;subst h;simp [CL]
  |x::xs,ys,h,E=>by
    simp only [opds,obI,omI] at h
    obtain ⟨y,hy,zs,hzs,rfl⟩:=h
    obtain ⟨h1,h2⟩:=opds_ok hcd xs zs hzs E
    refine ⟨?_,by simp [h2]⟩
    simp only [List.map_cons,CL]
    exact ⟨⟨a.eval x,by simp,opd_ok hcd hy E⟩,by simpa using h1⟩
theorem opdo_ok {st:St} (hcd:m.cd=fid) {x:Option Operand} {y:Option SX} (h:opdo fid x=some y) (E:EnvOk m st.env a.tmps):(x=none∧y=none)∨∃ x' y',x=some x'∧y=some y'∧C m (st.ev y') (a.eval x'):=by
  cases x with
  |none=>simp only [opdo] at h;injection h with h;exact .inl ⟨rfl,h.symm⟩
  |some x=>
    simp only [opdo,omI] at h
    obtain ⟨y',hy,rfl⟩:=h
    exact .inr ⟨x,y',rfl,rfl,opd_ok hcd hy E⟩
theorem tc_bool {t:TypeId} (h:tcOf P t=some 1):P.underlying t=some .bool:=by
  unfold tcOf at h
  split at h<;>first | assumption | (simp at h;done) | (simp only [obI] at h;obtain ⟨l,_,h⟩:=h;split at h<;>simp at h<;>omega)
theorem tc_ptr {t:TypeId} (h:tcOf P t=some 2):∃ e,P.underlying t=some (.pointer e):=by
  unfold tcOf at h
  split at h<;>first | exact ⟨_,by assumption⟩ | (simp at h;done) | (simp only [obI] at h;obtain ⟨l,_,h⟩:=h;split at h<;>simp at h<;>omega)
theorem tc_struct {t:TypeId} {n:Nat} (h:tcOf P t=some (3+n)):∃ l,leafA P t=some l∧encD l=n∧P.eqGuardType P.depth t=false∧((∃ fs,P.underlying t=some (.struct fs))∨∃ k e,P.underlying t=some (.array k e)):=by
  have key:∀ {o:Option Nat},o=((leafA P t).bind fun l=>if P.eqGuardType P.depth t=true then none else some (3+encD l))→o=some (3+n)→∃ l,leafA P t=some l∧encD l=n∧P.eqGuardType P.depth t=false:=by
    intro o ho h
    rw [ho] at h
    simp only [obI] at h
    obtain ⟨l,hl,h⟩:=h
    split at h
    · cases h
    · rename_i hg
      injection h with h
      exact ⟨l,hl,by omega,by simpa using hg⟩
  unfold tcOf at h
  split at h
  · simp at h;omega
  · simp at h;omega
  · simp at h;omega
  · simp at h;omega
  · rename_i fs hf
    obtain ⟨l,q1,q2,q3⟩:=key rfl h
    exact ⟨l,q1,q2,q3,.inl ⟨fs,hf⟩⟩
  · rename_i k e hf
    obtain ⟨l,q1,q2,q3⟩:=key rfl h
    exact ⟨l,q1,q2,q3,.inr ⟨k,e,hf⟩⟩
  · cases h
theorem isAgg_flat {t:TypeId} (h:(∃ k,P.underlying t=some (.int k))∨P.underlying t=some .bool∨P.underlying t=some .string) (w:World):(isAgg t).run P w=.ok false w:=by
  rcases h with ⟨k,h⟩ | h | h<;>simp [isAgg,run_underlying h]
theorem szOf_run {t:TypeId} {s:Nat} (h:szOf P t=some s) (w:World):(sizeOf t).run P w=.ok s w:=by
  simp only [szOf,omI] at h
  obtain ⟨i,hi,rfl⟩:=h
  simp [sizeOf,typeInfo,hi]
theorem aeqL_len:∀ {as bs:List AV} {r:Bool},aeqL as bs=some r→as.length=bs.length
  | [],[],_,_=>rfl
  | [],_::_,_,h=>by simp [aeqL] at h
  |_::_,[],_,h=>by simp [aeqL] at h
  |a::as,b::bs,r,h=>by
    simp only [aeqL,obI,omI] at h
    obtain ⟨x,hx,y,hy,_⟩:=h
    have:=aeqL_len hy
    simp [this]
theorem aeqL_split:∀ {as bs:List AV} {r:Bool} (k:Nat),aeqL as bs=some r→∃ x y,aeqL (as.take k) (bs.take k)=some x∧aeqL (as.drop k) (bs.drop k)=some y∧(x && y)=r
  |as,bs,r,0,h=>⟨true,r,by simp [aeqL],by simpa using h,by simp⟩
  | [],[],r,k+1,h=>by
    simp only [aeqL,Option.some.injEq] at h
    exact ⟨true,true,by simp [aeqL],by simp [aeqL],by simpa using h⟩
  | [],_::_,_,_+1,h=>by simp [aeqL] at h
  |_::_,[],_,_+1,h=>by simp [aeqL] at h
  |a::as,b::bs,r,k+1,h=>by
    simp only [aeqL,obI,omI] at h
    obtain ⟨x,hx,y,hy,rfl⟩:=h
    obtain ⟨x1,y1,h1,h2,rfl⟩:=aeqL_split k hy
    refine ⟨x && x1,y1,?_,by simpa using h2,by rw [Bool.and_assoc]⟩
    simp only [List.take_succ_cons,aeqL,hx,h1,Option.bind_some,Option.map_some]
theorem encA_map:∀ as:List AV,encA as=encD (as.map digA)
  | []=>rfl
  |a::as=>by simp only [encA,encD,List.map_cons,encA_map as]
theorem digA_le (a:AV):digA a≤2:=by unfold digA;split<;>omega
theorem encD_inj:∀ {l k:List Nat},(∀ x∈l,x≤2)→(∀ x∈k,x≤2)→encD l=encD k→l=k
  | [],[],_,_,_=>rfl
  | [],_::_,_,_,h=>by simp only [encD] at h;omega
  |_::_,[],_,_,h=>by simp only [encD] at h;omega
  |x::l,y::k,h1,h2,h=>by
    have a:=h1 x (by simp)
    have b:=h2 y (by simp)
    simp only [encD] at h
    rw [encD_inj (l:=l) (k:=k) (fun z hz=>h1 z (by simp [hz])) (fun z hz=>h2 z (by simp [hz])) (by omega),show x=y by omega]
theorem leafF_le {g:TypeId→Option (List Nat)} (hg:∀ t l,g t=some l→∀ x∈l,x≤2):∀ {fs:List Field} {i:Nat} {l:List Nat},leafF P g i fs=some l→∀ x∈l,x≤2
  | [],i,l,h=>by simp only [leafF,Option.some.injEq] at h;subst h;simp
  |f::fs,i,l,h=>by
    simp only [leafF] at h
    split at h
    · simp only [obI,omI] at h
      obtain ⟨a,ha,b,hb,rfl⟩:=h
      intro x hx
      rcases List.mem_append.1 hx with hx | hx
      · exact hg _ _ ha x hx
      · exact leafF_le hg hb x hx
    · cases h
theorem leafT_le:∀ (d:Nat) (t:TypeId) (l:List Nat),leafT P d t=some l→∀ x∈l,x≤2
  |0,_,_,h=>by simp [leafT] at h
  |d+1,t,l,h=>by
    rw [leafT] at h
    split at h
    · injection h with h;subst h;simp
    · injection h with h;subst h;simp
    · injection h with h;subst h;simp
    · split at h
      · cases h
      · simp only [obI] at h
        obtain ⟨l',hl',h⟩:=h
        split at h
        · injection h with h;subst h
          exact leafF_le (leafT_le d) hl'
        · cases h
    · cases h
def EqT (P:Program) (m:Mem) (w:World) (d:Nat):Prop:=∀ (t:TypeId) (l:List Nat) (as bs:List AV) (r:Bool) (e off:Nat) (xs ys:Array Value),leafT P d t=some l→d≤e→l=as.map digA→CL m as (fun j=>xs[off+j]?)→CL m bs (fun j=>ys[off+j]?)→aeqL as bs=some r→∃ u v,(Go.part t xs off).run P w=.ok u w∧(Go.part t ys off).run P w=.ok v w∧(Op.equalIn e t u v).run P w=.ok r w
theorem eqFields_ok {d e:Nat} {xs ys:Array Value} (hT:EqT P m w d) (he:d≤e):∀ (fs:List Field) (i:Nat) (l:List Nat) (as bs:List AV) (r:Bool),leafF P (leafT P d) i fs=some l→l=as.map digA→CL m as (fun j=>xs[i+j]?)→CL m bs (fun j=>ys[i+j]?)→aeqL as bs=some r→(Op.eqFields e xs ys fs).run P w=.ok r w
  | [],i,l,as,bs,r,hf,hl,_,_,h=>by
    simp only [leafF,Option.some.injEq] at hf
    subst hf
    obtain rfl:as=[]:=by simpa using hl.symm
    obtain rfl:bs=[]:=by have:=aeqL_len h;simpa using this.symm
    simp only [aeqL,Option.some.injEq] at h;subst h;simp [Op.eqFields]
  |f::fs,i,l,as,bs,r,hf,hl,h1,h2,h=>by
    simp only [leafF] at hf
    split at hf
    case isFalse=>cases hf
    rename_i hn
    simp only [Bool.and_eq_true,bne_iff_ne,ne_eq,beq_iff_eq] at hn
    obtain ⟨f1,f2⟩:=hn
    simp only [obI,omI] at hf
    obtain ⟨a,ha,b,hb,rfl⟩:=hf
    have e1:a=(as.take a.length).map digA:=by rw [List.map_take,←hl];simp
    have e2:b=(as.drop a.length).map digA:=by rw [List.map_drop,←hl];simp
    obtain ⟨x,y,q1,q2,rfl⟩:=aeqL_split a.length h
    obtain ⟨u,v,p1,p2,p3⟩:=hT f.type a (as.take a.length) (bs.take a.length) x e i xs ys ha he e1 (CL_take h1 _) (CL_take h2 _) q1
    have ih:=eqFields_ok hT he fs (i+a.length) b (as.drop a.length) (bs.drop a.length) y hb e2 (by simpa only [Nat.add_assoc] using CL_drop h1 a.length) (by simpa only [Nat.add_assoc] using CL_drop h2 a.length) q2
    simp only [Op.eqFields,if_pos f1,Sem.run_bind,f2,p1,p2,p3,Result.andThen_ok]
    cases x
    · simp
    · simpa using ih
theorem eqT_one {t:TypeId} {as bs:List AV} {r:Bool} {e off n:Nat} {xs ys:Array Value} (he:1≤e) (hk:(n=0∧∃ k,P.underlying t=some (.int k))∨(n=1∧P.underlying t=some .bool)∨(n=2∧P.underlying t=some .string)) (hl:[n]=as.map digA) (h1:CL m as (fun j=>xs[off+j]?)) (h2:CL m bs (fun j=>ys[off+j]?)) (h:aeqL as bs=some r):∃ u v,(Go.part t xs off).run P w=.ok u w∧(Go.part t ys off).run P w=.ok v w∧(Op.equalIn e t u v).run P w=.ok r w:=by
  obtain ⟨d,rfl⟩:∃ d,e=d+1:=⟨e - 1,by omega⟩
  have hlen:=aeqL_len h
  have hal:as.length=1:=by have:=congrArg List.length hl;simpa using this.symm
  match as,bs,hal,hlen with
  | [a],[b],_,_=>
    simp only [List.map_cons,List.map_nil,List.cons.injEq,and_true] at hl
    simp only [CL] at h1 h2
    obtain ⟨⟨u,hu,hCu⟩,_⟩:=h1
    obtain ⟨⟨v,hv,hCv⟩,_⟩:=h2
    simp only [Nat.add_zero] at hu hv
    simp only [aeqL,obI,omI] at h
    obtain ⟨x,hx,y,hy,rfl⟩:=h
    injection hy with hy
    subst hy
    have hkind:(∃ k,P.underlying t=some (.int k))∨P.underlying t=some .bool∨P.underlying t=some .string:=by
      rcases hk with ⟨_,h⟩ | ⟨_,h⟩ | ⟨_,h⟩
      · exact .inl h
      · exact .inr (.inl h)
      · exact .inr (.inr h)
    have hagg:=isAgg_flat hkind w
    refine ⟨u,v,by simp [Go.part,hagg,hu],by simp [Go.part,hagg,hv],?_⟩
    rw [Bool.and_true]
    cases a<;>cases b<;>simp only [aeq,reduceCtorEq] at hx
    · simp only [C] at hCu hCv;subst hCu;subst hCv
      injection hx with hx;subst hx
      rcases hk with ⟨rfl,k,hk⟩ | ⟨rfl,hk⟩ | ⟨rfl,hk⟩
      · simp [digA] at hl
      · exact run_equalIn_bool' w d _ _ _ hk
      · simp [digA] at hl
    · simp only [C] at hCu hCv;subst hCu;subst hCv
      split at hx
      · rename_i hkk
        subst hkk
        injection hx with hx;subst hx
        rcases hk with ⟨rfl,k,hk⟩ | ⟨rfl,hk⟩ | ⟨rfl,hk⟩
        · exact run_equalIn_int w d _ _ _ _ _ hk
        · simp [digA] at hl
        · simp [digA] at hl
      · cases hx
    · simp only [C] at hCu hCv;subst hCu;subst hCv
      injection hx with hx;subst hx
      rcases hk with ⟨rfl,k,hk⟩ | ⟨rfl,hk⟩ | ⟨rfl,hk⟩
      · simp [digA] at hl
      · simp [digA] at hl
      · rw [run_equalIn_string w d _ _ _ hk]
        simp [ByteArray.toList_eq]
theorem eqT_ok:∀ d,EqT P m w d
  |0=>fun t l as bs r e off xs ys h=>by simp [leafT] at h
  |d+1=>by
    intro t l as bs r e off xs ys h he hl h1 h2 hr
    rw [leafT] at h
    split at h
    · rename_i k hk
      injection h with h;subst h
      exact eqT_one (n:=0) (by omega) (.inl ⟨rfl,k,hk⟩) hl h1 h2 hr
    · rename_i hk
      injection h with h;subst h
      exact eqT_one (n:=1) (by omega) (.inr (.inl ⟨rfl,hk⟩)) hl h1 h2 hr
    · rename_i hk
      injection h with h;subst h
      exact eqT_one (n:=2) (by omega) (.inr (.inr ⟨rfl,hk⟩)) hl h1 h2 hr
    · rename_i fs hk
      split at h
      · cases h
      rename_i hs
      simp only [obI] at h
      obtain ⟨l',hl',h⟩:=h
      split at h
      case isFalse=>cases h
      rename_i hz
      injection h with h;subst h
      obtain ⟨e,rfl⟩:∃ e',e=e'+1:=⟨e - 1,by omega⟩
      have hagg:(isAgg t).run P w=.ok true w:=by simp [isAgg,run_underlying hk]
      have hsz:=szOf_run hz w
      have hfo:P.fieldsOf t=fs:=by simp [Program.fieldsOf,hk]
      have hlen:=aeqL_len hr
      have hla:as.length=l'.length:=by rw [hl];simp
      have cut:∀ (zs:Array Value) (cs:List AV),cs.length=l'.length→CL m cs (fun j=>zs[off+j]?)→CL m cs (fun j=>(zs.extract off (off+l'.length))[0+j]?):=fun zs cs hc hC=>by
        rw [CL_iff] at hC ⊢
        intro j x hx
        obtain ⟨u,hu,hCu⟩:=hC j x hx
        refine ⟨u,?_,hCu⟩
        have hj:j<cs.length:=by
          rcases Nat.lt_or_ge j cs.length with h | h
          · exact h
          · rw [List.getElem?_eq_none h] at hx;cases hx
        have hb:=(Array.getElem?_eq_some_iff.1 hu).1
        rw [Nat.zero_add,Array.getElem?_extract,if_pos (by omega)]
        exact hu
      refine ⟨.agg (xs.extract off (off+l'.length)),.agg (ys.extract off (off+l'.length)),by simp [Go.part,hagg,hsz],by simp [Go.part,hagg,hsz],?_⟩
      rw [run_equalIn_struct w e t _ _ (by rw [hfo];exact hk) (by simpa using hs),hfo]
      exact eqFields_ok (eqT_ok d) (by omega) fs.toList 0 l' as bs r hl' hl (cut xs as hla h1) (cut ys bs (by omega) h2) hr
    · cases h
theorem eqItems_eq (d:Nat) (e:TypeId) (c:Nat) (xs ys:Array Value):∀ is:List Nat,Op.eqItems d e c xs ys is=Op.eqFields d xs ys (is.map fun i=>⟨ "x",e,i*c,false,"","",0⟩)
  | []=>rfl
  |i::is=>by
    rw [List.map_cons,Op.eqItems,Op.eqFields,if_pos (show ("x":String)≠ "_" by decide),eqItems_eq d e c xs ys is]
theorem leafA_le {t:TypeId} {l:List Nat} (h:leafA P t=some l):∀ x∈l,x≤2:=by
  unfold leafA at h
  split at h
  · simp only [obI] at h
    obtain ⟨_,_,h⟩:=h
    exact leafF_le (leafT_le 3) h
  · exact leafT_le 4 t l h
theorem eq_agg {e:Nat} (he:3≤e) {t:TypeId} {l:List Nat} {as bs:List AV} {r:Bool} {us vs:Array Value} (h:leafA P t=some l) (hk:(∃ fs,P.underlying t=some (.struct fs))∨∃ k e,P.underlying t=some (.array k e)) (hl:l=as.map digA) (h1:CL m as (fun j=>us[0+j]?)) (h2:CL m bs (fun j=>vs[0+j]?)) (hr:aeqL as bs=some r):(Op.equalIn (e+1) t (.agg us) (.agg vs)).run P w=.ok r w:=by
  unfold leafA at h
  rcases hk with ⟨fs,hk⟩ | ⟨k,el,hk⟩
  · rw [hk] at h
    simp only at h
    rw [leafT,hk] at h
    simp only at h
    split at h
    · cases h
    rename_i hs
    simp only [obI] at h
    obtain ⟨l',hl',h⟩:=h
    split at h
    case isFalse=>cases h
    injection h with h;subst h
    have hfo:P.fieldsOf t=fs:=by simp [Program.fieldsOf,hk]
    rw [run_equalIn_struct w e t _ _ (by rw [hfo];exact hk) (by simpa using hs),hfo]
    exact eqFields_ok (eqT_ok 3) he fs.toList 0 l' as bs r hl' hl h1 h2 hr
  · rw [hk] at h
    simp only [obI] at h
    obtain ⟨s,hs,h⟩:=h
    simp only [szOf,omI] at hs
    obtain ⟨i,hi,rfl⟩:=hs
    rw [run_equalIn_array w e us vs hk hi,eqItems_eq,show P.cellsOf el=i.size by simp [Program.cellsOf,hi]]
    exact eqFields_ok (eqT_ok 3) he _ 0 l as bs r h hl h1 h2 hr
theorem run_eql_ptr_nil (w:World) {t e:TypeId} (h:P.underlying t=some (.pointer e)) (b:Option Addr):(Op.equal t (.pointer b) (.pointer none)).run P w=.ok b.isNone w:=by
  have key:∀ d,(Op.equalIn (d+1) t (.pointer b) (.pointer none)).run P w=.ok b.isNone w:=by
    intro d
    cases b<;>simp [Op.equalIn,run_underlying h]
  exact key 9999
def toV:AV→Value
  | .bool b=>.bool b
  | .int k n=>.int k n
  | .str s=>.string ⟨s.toArray⟩
  |_=>undef
theorem abin_ok {tc:Nat} {op:BinOp} {t:TypeId} {x y:AV} {u v:Value} {z:AV} (ht:tcOf P t=some tc) (hx:C m x u) (hy:C m y v) (h:abin tc op x y=some z) (px py:Operand):
    ∃ r,(eqGuard op t px py u v).run P w=.ok () w∧(binOp op t u v).run P w=.ok r w∧C m z r:=by
  refine ⟨toV z,?_⟩
  cases x<;>cases y<;>simp only [abin,reduceCtorEq] at h
  · rename_i b1 b2
    simp only [C] at hx hy;subst hx;subst hy
    split at h
    · cases h
    · rename_i htc
      have htc:tc=1:=by omega
      subst htc
      have hb:=tc_bool ht
      refine ⟨by simp [go_sem],?_⟩
      cases op<;>simp only [reduceCtorEq,Option.some.injEq] at h<;>subst h
      · exact ⟨run_eql_bool w t b1 b2 hb,by simp [C,toV]⟩
      · exact ⟨run_neq_bool w t b1 b2 hb,by simp [C,toV]⟩
  · rename_i k1 n1 k2 n2
    simp only [C] at hx hy;subst hx;subst hy
    refine ⟨by simp [go_sem],?_⟩
    cases op<;>simp only at h
    all_goals first
      | (split at h
         · cases h
         · rename_i hb
           injection h with h
           subst h
           exact ⟨by simp [go_sem,binOp,Op.shift,hb,toV],by simp [C,toV]⟩)
      | (split at h
         · rename_i hk
           subst hk
           first
             | (injection h with h
                subst h
                exact ⟨by simp [go_sem,Op.intArith,toV],by simp [C,toV]⟩)
             | (split at h
                · cases h
                · rename_i h0
                  injection h with h
                  subst h
                  exact ⟨by simp [go_sem,Op.intDiv,h0,toV],by simp [C,toV]⟩)
             |cases h
         · cases h)
  · rename_i s1 s2
    simp only [C] at hx hy;subst hx;subst hy
    refine ⟨by simp [go_sem],?_⟩
    have hbl:∀ l:List UInt8,(ByteArray.mk l.toArray).size=l.length:=fun l=>by simp [ByteArray.size]
    have hap:∀ l k:List UInt8,(ByteArray.mk l.toArray)++(ByteArray.mk k.toArray)=ByteArray.mk (l++k).toArray:=fun l k=>by
      apply ByteArray.ext;simp
    cases op<;>simp only [reduceCtorEq,Option.some.injEq] at h
    all_goals first
      | (split at h
         · rename_i hle
           injection h with h
           subst h
           refine ⟨?_,by simp [C,toV]⟩
           have hn:¬ (9223372036854775807:Int)<(s1.length:Int)+(s2.length:Int):=by omega
           simp [go_sem,Op.stringOp,hbl,hn,hap,toV]
         · cases h)
      | (subst h;exact ⟨by simp [binOp,Op.stringOp,toV],by simp [C,toV]⟩)
      |skip
  all_goals
    simp only [C] at hx hy
    split at h
    · cases h
    · rename_i htc
      first
        | (rename_i as bs
           have htc:tc=3+encA as:=by omega
           subst htc
           obtain ⟨l,q1,q2,q5,qk⟩:=tc_struct ht
           have q2:l=as.map digA:=encD_inj (leafA_le q1) (fun x hx=>by obtain ⟨a,_,rfl⟩:=List.mem_map.1 hx;exact digA_le a) (by rw [q2,encA_map])
           obtain ⟨_,us,rfl,_,hu⟩:=hx
           obtain ⟨_,vs,rfl,_,hv⟩:=hy
           refine ⟨run_eqGuard_agg w op t px py us vs q5,?_⟩
           have key:∀ b,aeqL as bs=some b→(Op.equalIn 10000 t (.agg us) (.agg vs)).run P w=.ok b w:=by
             intro b hb
             exact eq_agg (e:=9999) (by omega) q1 qk q2 (by simpa using hu) (by simpa using hv) hb
           cases op<;>simp only [reduceCtorEq,omI] at h
           · obtain ⟨b,hb,rfl⟩:=h
             exact ⟨by rw [run_eql_struct,key b hb];rfl,by simp [C,toV]⟩
           · obtain ⟨b,hb,rfl⟩:=h
             exact ⟨by rw [run_neq_struct,key b hb];rfl,by simp [C,toV]⟩)
        | (have htc : tc = 2 := by omega
           subst htc
           obtain ⟨e,he⟩:=tc_ptr ht
           first
             | (obtain ⟨_,b,o,rfl,_⟩:=hx)
             | (obtain ⟨e1,_,b,_,rfl⟩:=hx)
             |subst hx
           subst hy
           refine ⟨by simp [go_sem],?_⟩
           cases op<;>simp only [reduceCtorEq,Option.some.injEq] at h<;>subst h
           all_goals exact ⟨by simp [binOp,run_eql_ptr_nil w he,toV],by simp [C,toV]⟩)
end
section
variable {P:Program} {fid:FuncId→Option Nat} {fr:Nat→Prop} {w0 w:World} {m:Mem} {hp hp':List Blk} {env:List (Nat × AV)} {a:Act} {o:Oper} {v:AV} {l0:Nat} {mk:List Mark} {fl:List Nat}
theorem row_at (H:HInv fr w0 m hp w fl) {id:Nat} {cs:List AV} (hb:rowc hp id=some cs):∃ e q,hp[id]? = some (.row q cs)∧m.bl[id]? = some e∧cs.all AV.okc=true∧cs.length=e.n*e.sz∧(cs=[]→e.n=0)∧e.n≤e.cap ∧
    ((e.b=none∧e.cap=0∧cs=[])∨∃ g f,e.b=some g∧e.a=some ⟨g,0,none⟩∧RL m w cs (fun i=>w.cell? ⟨g,i,none⟩) f):=by
  simp only [rowc,obI] at hb
  obtain ⟨b,hb,hc⟩:=hb
  cases b<;>simp only [Blk.cells,reduceCtorEq,Option.some.injEq] at hc
  subst hc
  rename_i q cs
  obtain ⟨e,he,h1,h2,h3,h4,h5⟩:=H.at_ hb
  refine ⟨e,q,hb,he,h1,h2,h3,h4,?_⟩
  rcases h5 with ⟨q1,q2,q3⟩ | ⟨g,q1,q2,q3,q4⟩
  · exact .inl ⟨q1,q2,List.eq_nil_of_length_eq_zero (by rw [h2,show e.n=0 by omega];simp)⟩
  · refine .inr ⟨g,?_⟩
    cases q with
    |false=>
      obtain ⟨cur,t,f',r1,r2,r3,r4⟩:=q3 rfl
      exact ⟨f',q1,q2,RL_mono (Mem.le.refl m) (fun _ _=>rfl) (fun i u hu=>by simp [World.cell?,r1];exact hu) r4⟩
    |true=>exact ⟨[],q1,q2,RL_of_CL _ _ (CL_ext (fun i u hu=>H.im _ _ _ hu) (q4 rfl).2)⟩
theorem slc_ok (H:HInv fr w0 m hp w fl) {x:AV} {u:Value} {sz:Nat} {xs:List AV} (hsz:0<sz) (hC:C m x u) (hs:slc hp sz x=some xs):
    ∃ (ad:Option Addr) (n c:Nat) (vs:List Value) (f:List Nat),u=.slice ad n c∧n≤c∧xs.length=n*sz∧vs.length=xs.length∧(∀ (j:Nat) v,vs[j]? = some v→∃ a',ad=some a'∧w.cell? (a'.add j)=some v)∧RL m w xs (fun i=>vs[i]?) f∧xs.all AV.okc=true:=by
  cases x<;>simp only [slc,reduceCtorEq] at hs
  · injection hs with hs;subst hs
    simp only [C] at hC
    exact ⟨none,0,0,[],[],hC,Nat.le_refl _,by simp,rfl,by simp,by simp [RL],rfl⟩
  · rename_i s cs
    split at hs
    · rename_i hc
      injection hs with hs;subst hs
      simp only [C] at hC
      obtain ⟨h2,ad,n,c,rfl,h3,h4,h5,h6⟩:=hC
      by_cases hne:cs=[]
      · subst hne
        have:n=0:=h4 rfl
        subst this
        exact ⟨ad,0,c,[],[],rfl,h5,by simp,rfl,by simp,by simp [RL],rfl⟩
      · have hss:s=sz:=hc.resolve_right hne
        subst hss
        obtain ⟨b,o,rfl,h7⟩:=h6 hne
        obtain ⟨vs,k1,k2,k3⟩:=CL_list _ _ h7
        exact ⟨_,n,c,vs,[],rfl,h5,h3,k1,fun j v hv=>⟨_,rfl,by rw [addr_add];exact H.im _ _ _ (k2 j v hv)⟩,RL_of_CL _ _ k3,h2⟩
    · cases hs
  · rename_i s id
    split at hs
    · rename_i hss
      subst hss
      simp only [C] at hC
      obtain ⟨e,he,rfl,hes⟩:=hC
      obtain ⟨e',q,hb,he',h1,h2,h3,h4,h5⟩:=row_at H hs
      rw [he] at he';injection he' with he';subst he'
      rw [hes] at h2
      rcases h5 with ⟨q1,q2,rfl⟩ | ⟨g,f,q1,q2,hR⟩
      · exact ⟨e.a,e.n,e.cap,[],[],rfl,h4,h2,rfl,by simp,by simp [RL],rfl⟩
      · obtain ⟨vs,k1,k2,k3⟩:=RL_list _ _ _ hR
        exact ⟨e.a,e.n,e.cap,vs,f,rfl,h4,h2,k1,fun j v hv=>⟨_,q2,by rw [addr_add,Nat.zero_add];exact k2 j v hv⟩,k3,h1⟩
    · cases hs
  · rename_i s id o n
    split at hs
    · rename_i hss
      subst hss
      simp only [obI] at hs
      obtain ⟨cs,hcs,hp1⟩:=hs
      simp only [C] at hC
      obtain ⟨e,he,hes,_,ad,c,rfl,hnc,hco,hca⟩:=hC
      obtain ⟨e',q,hb,he',h1,h2,h3,h4,h5⟩:=row_at H hcs
      rw [he] at he';injection he' with he';subst he'
      simp only [part] at hp1
      split at hp1
      · rename_i hle
        injection hp1 with hp1
        subst hp1
        have hlt:((cs.drop (o*s)).take (n*s)).length=n*s:=by simp;rw [Nat.add_mul] at hle;omega
        have hok:=all_take (all_drop h1 (o*s)) (n*s)
        by_cases hn:n=0
        · subst hn
          exact ⟨ad,0,c,[],[],rfl,hnc,by simp,by simp,by simp,by simp [RL],by simp⟩
        · rcases hca with hc0 | ⟨g',hg',rfl⟩
          · omega
          · rcases h5 with ⟨q1,_⟩ | ⟨g,f,q1,q2,hR⟩
            · rw [q1] at hg';cases hg'
            · rw [q1] at hg';injection hg' with hg';subst hg'
              obtain ⟨fa,fb,rfl,_,hb2⟩:=CL_get hR (o*s)
              obtain ⟨fc,fd,rfl,hc2,_⟩:=CL_get hb2 (n*s)
              have hto:(cs.take (o*s)).length=o*s:=by simp;rw [Nat.add_mul] at hle;omega
              rw [hto] at hc2
              obtain ⟨vs,k1,k2,k3⟩:=RL_list _ _ _ hc2
              exact ⟨_,n,c,vs,fc,rfl,hnc,hlt,k1,fun j v hv=>⟨_,rfl,by rw [addr_add];exact k2 j v hv⟩,k3,hok⟩
      · cases hp1
    · cases hs
theorem sln_ok (H:HInv fr w0 m hp w fl) {x:AV} {u:Value} {n:Nat} (hC:C m x u) (hs:sln hp x=some n):∃ ad c,u=.slice ad n c:=by
  cases x<;>simp only [sln,reduceCtorEq] at hs
  · injection hs with hs;subst hs;simp only [C] at hC;exact ⟨_,_,hC⟩
  · injection hs with hs;subst hs
    simp only [C] at hC
    obtain ⟨h2,ad,n,c,rfl,h3,h4,h5,h6⟩:=hC
    exact ⟨ad,c,by rw [len_div h3 h4]⟩
  · rename_i s id
    simp only [omI] at hs
    obtain ⟨cs,hcs,rfl⟩:=hs
    simp only [C] at hC
    obtain ⟨e,he,rfl,hes⟩:=hC
    obtain ⟨e',q,hb,he',h1,h2,h3,h4,h5⟩:=row_at H hcs
    rw [he] at he';injection he' with he';subst he'
    rw [hes] at h2
    exact ⟨_,_,by rw [len_div h2 h3]⟩
  · injection hs with hs;subst hs
    simp only [C] at hC
    obtain ⟨e,he,hes,_,ad,c,rfl,_⟩:=hC
    exact ⟨ad,c,rfl⟩
theorem szOf_ok {t:TypeId} {s:Nat} (h:szOf P t=some s) (w:World):(sizeOf t).run P w=.ok s w:=by
  simp only [szOf,omI] at h
  obtain ⟨i,hi,rfl⟩:=h
  simp [sizeOf,typeInfo,hi]
theorem ldk_none {t:TypeId} (h:ldk P t=some none) (w:World):(isAgg t).run P w=.ok false w:=by
  unfold ldk at h
  split at h
  · simp [szOf] at h
  · simp [szOf] at h
  · rename_i d h1 h2 hd
    simp only [isAgg,Sem.run_bind,run_underlying hd,Result.andThen_ok]
    rfl
  · cases h
theorem ldk_some {t:TypeId} {k:Nat} (h:ldk P t=some (some k)) (w:World):(isAgg t).run P w=.ok true w∧(sizeOf t).run P w=.ok k w:=by
  unfold ldk at h
  split at h
  · rename_i fs hd
    simp only [szOf,omI] at h
    obtain ⟨_,⟨i,hi,rfl⟩,hk⟩:=h
    injection hk with hk;subst hk
    simp [isAgg,run_underlying hd,sizeOf,typeInfo,hi]
  · rename_i n e hd
    simp only [szOf,omI] at h
    obtain ⟨_,⟨i,hi,rfl⟩,hk⟩:=h
    injection hk with hk;subst hk
    simp [isAgg,run_underlying hd,sizeOf,typeInfo,hi]
  · simp at h
  · cases h
theorem run_fieldAt_ok (w:World) {t:TypeId} {f:Nat} {fd:Field} {s:Nat} (h:fieldOf P t f=some fd) (hs:szOf P fd.type=some s) (hs0:s≠0) (ad:Addr):
    (Instr.fieldAt t (.pointer (some ad)) f).run P w=.ok (.pointer (some (ad.add fd.offset))) w:=by
  unfold fieldOf at h
  split at h
  · rename_i fs hfs
    simp only [szOf,omI] at hs
    obtain ⟨i,hi,rfl⟩:=hs
    simp [Instr.fieldAt,run_underlying hfs,h,Instr.sureAddr,fieldPlace,sizeOf,typeInfo,hi,hs0]
  · cases h
theorem run_loadAt_ok {t:TypeId} {n:Option Nat} (hn:ldk P t=some n) {cs:List AV} {v:AV} (hr:rdc cs n=some v) (hok:cs.all AV.okc=true) {g:Nat→Option Value} (hg:CL m cs g) {b o:Nat}
    (hw:∀ i v,g i=some v→w.cell? ⟨b,o+i,none⟩=some v):∃ u,(Instr.loadAt t (.pointer (some ⟨b,o,none⟩))).run P w=.ok u w∧C m v u:=by
  cases n with
  |none=>
    simp only [rdc] at hr
    cases cs with
    |nil=>cases hr
    |cons x xs=>
      simp at hr;subst hr
      simp only [CL] at hg
      obtain ⟨⟨u,hu1,hC⟩,_⟩:=hg
      refine ⟨u,?_,hC⟩
      have:=hw 0 u hu1
      simp only [Nat.add_zero] at this
      simp [Instr.loadAt,Instr.sureAddr,loadVar,ldk_none hn,this]
  |some k=>
    have hagg:=ldk_some hn w
    simp only [rdc] at hr
    split at hr
    · rename_i hk
      injection hr with hr;subst hr
      obtain ⟨vs,k1,k2,k3⟩:=CL_list _ _ (CL_take hg k)
      have hl:vs.length=k:=by rw [k1];simp;omega
      have hload:=run_loadCells_list (P:=P) w ⟨b,o,none⟩ vs (fun j v hv=>by rw [addr_add];exact hw _ _ (k2 j v hv))
      rw [hl] at hload
      refine ⟨.agg vs.toArray,?_,?_⟩
      · simp [Instr.loadAt,Instr.sureAddr,loadVar,hagg.1,hagg.2,hload]
      · simp only [C]
        exact ⟨all_take hok k,_,rfl,by simp [k1],by simpa using k3⟩
    · cases hr
theorem part_ok {t:TypeId} {n:Option Nat} (hn:ldk P t=some n) {cs:List AV} {off:Nat} {z:AV} (hr:rdc (cs.drop off) n=some z) (hok:cs.all AV.okc=true) {vs:Array Value} (hg:CL m cs (fun i=>vs[i]?)) (hsz:vs.size=cs.length):
    ∃ u,(Go.part t vs off).run P w=.ok u w∧C m z u:=by
  have hd:=CL_drop hg off
  cases n with
  |none=>
    simp only [rdc] at hr
    cases hq:cs.drop off with
    |nil=>rw [hq] at hr;cases hr
    |cons x xs=>
      rw [hq] at hr hd
      simp at hr;subst hr
      simp only [CL] at hd
      obtain ⟨⟨u,hu,hC⟩,_⟩:=hd
      simp only [Nat.add_zero] at hu
      exact ⟨u,by simp [Go.part,ldk_none hn,hu],hC⟩
  |some k=>
    obtain ⟨h1,h2⟩:=ldk_some hn w
    simp only [rdc] at hr
    split at hr
    · rename_i hk
      injection hr with hr;subst hr
      refine ⟨.agg (vs.extract off (off+k)),by simp [Go.part,h1,h2],?_⟩
      simp only [C]
      refine ⟨all_take (all_drop hok _) _,_,rfl,by simp at hk ⊢;omega,?_⟩
      have:=CL_take hd k
      rw [CL_iff] at this ⊢
      intro i x hx
      obtain ⟨u,hu,hC⟩:=this i x hx
      refine ⟨u,?_,hC⟩
      have hi:i<k:=by
        have:=(List.getElem?_eq_some_iff.1 hx).1
        simp at this
        omega
      rw [Array.getElem?_extract,if_pos (by have:=(Array.getElem?_eq_some_iff.1 hu).1;simp at hk;omega)]
      exact hu
    · cases hr
variable (hcd:m.cd=fid)
include hcd
theorem go_move {x:Operand} {y:SX} (hop:o.op=.move x∨o.op=.assign x) (hy:opd fid x=some y) (hs:astep hp (St.ev ⟨env,hp,l0,mk⟩) (.move y)=some (v,hp')) (H:HInv fr w0 m hp w []) (E:EnvOk m env a.tmps):
    Goes P o a w fr w0 m v hp':=by
  simp only [astep,Option.some.injEq,Prod.mk.injEq] at hs
  obtain ⟨rfl,rfl⟩:=hs
  refine goes_pure H (u:=a.eval x) ?_ (opd_ok (st:=⟨env,_,l0,mk⟩) hcd hy E)
  rcases hop with h | h<;>simp [execOp,h]
theorem go_pick {c x z:Operand} {c' x' z':SX} (hop:o.op=.pick c x z) (h1:opd fid c=some c') (h2:opd fid x=some x') (h3:opd fid z=some z') (hs:astep hp (St.ev ⟨env,hp,l0,mk⟩) (.pick c' x' z')=some (v,hp'))
    (H:HInv fr w0 m hp w []) (E:EnvOk m env a.tmps):Goes P o a w fr w0 m v hp':=by
  have k1:=opd_ok (st:=⟨env,hp,l0,mk⟩) hcd h1 E
  have k2:=opd_ok (st:=⟨env,hp,l0,mk⟩) hcd h2 E
  have k3:=opd_ok (st:=⟨env,hp,l0,mk⟩) hcd h3 E
  simp only [astep] at hs
  split at hs
  · rename_i t ht
    rw [ht] at k1
    simp only [C] at k1
    simp only [Option.some.injEq,Prod.mk.injEq] at hs
    obtain ⟨rfl,rfl⟩:=hs
    refine goes_pure H (u:=if t then a.eval x else a.eval z) ?_ ?_
    · simp [execOp,hop,k1,asBool]
    · cases t
      · exact k3
      · exact k2
  · cases hs
theorem go_nilCheck {x:Operand} {x':SX} (hop:o.op=.nilCheck x) (h1:opd fid x=some x') (hs:astep hp (St.ev ⟨env,hp,l0,mk⟩) (.nilCheck x')=some (v,hp')) (H:HInv fr w0 m hp w []) (E:EnvOk m env a.tmps):Goes P o a w fr w0 m v hp':=by
  have k1:=opd_ok (st:=⟨env,hp,l0,mk⟩) hcd h1 E
  simp only [astep] at hs
  split at hs
  · rename_i id off hx
    rw [hx] at k1
    simp only [Option.some.injEq,Prod.mk.injEq] at hs
    obtain ⟨rfl,rfl⟩:=hs
    refine goes_pure H (u:=a.eval x) ?_ k1
    simp only [C] at k1
    obtain ⟨e,_,b,_,hu⟩:=k1
    simp [execOp,hop,hu]
  · rename_i cs hx
    rw [hx] at k1
    simp only [Option.some.injEq,Prod.mk.injEq] at hs
    obtain ⟨rfl,rfl⟩:=hs
    refine goes_pure H (u:=a.eval x) ?_ k1
    simp only [C] at k1
    obtain ⟨_,b,off,hu,_⟩:=k1
    simp [execOp,hop,hu]
  · rename_i f fs cs hx
    rw [hx] at k1
    simp only [Option.some.injEq,Prod.mk.injEq] at hs
    obtain ⟨rfl,rfl⟩:=hs
    refine goes_pure H (u:=a.eval x) ?_ k1
    simp only [C] at k1
    obtain ⟨fn,fs',cs',hu,_⟩:=k1
    simp [execOp,hop,hu]
  · rename_i id hx
    rw [hx] at k1
    simp only [Option.some.injEq,Prod.mk.injEq] at hs
    obtain ⟨rfl,rfl⟩:=hs
    refine goes_pure H (u:=a.eval x) ?_ k1
    simp only [C] at k1
    obtain ⟨e,_,g,_,hu⟩:=k1
    simp [execOp,hop,hu]
  · cases hs
theorem go_bin {op:BinOp} {t t':TypeId} {tc:Nat} {x y:Operand} {x' y':SX} (hop:o.op=.binOp op t x y t') (ht:tcOf P t=some tc) (h1:opd fid x=some x') (h2:opd fid y=some y') (hs:astep hp (St.ev ⟨env,hp,l0,mk⟩) (.bin tc op x' y')=some (v,hp'))
    (H:HInv fr w0 m hp w []) (E:EnvOk m env a.tmps):Goes P o a w fr w0 m v hp':=by
  have k1:=opd_ok (st:=⟨env,hp,l0,mk⟩) hcd h1 E
  have k2:=opd_ok (st:=⟨env,hp,l0,mk⟩) hcd h2 E
  simp only [astep,omI,Prod.mk.injEq] at hs
  obtain ⟨z,hz,rfl,rfl⟩:=hs
  obtain ⟨r,h3,h4,h5⟩:=abin_ok (P:=P) (w:=w) ht k1 k2 hz x y
  exact goes_pure H (u:=r) (by simp [execOp,hop,Sem.run_bind,h3,h4]) h5
theorem go_isnil {op:BinOp} {t t' e:TypeId} {x y:Operand} {x':SX} {neg:Bool} (hop:o.op=.binOp op t x y t') (ht:P.underlying t=some (.slice e)) (hy:isNilSlice y=true) (hneg:(op=.eql∧neg=false)∨(op=.neq∧neg=true)) (h1:opd fid x=some x')
    (hs:astep hp (St.ev ⟨env,hp,l0,mk⟩) (.isnil neg x')=some (v,hp')) (H:HInv fr w0 m hp w []) (E:EnvOk m env a.tmps):Goes P o a w fr w0 m v hp':=by
  have k1:=opd_ok (st:=⟨env,hp,l0,mk⟩) hcd h1 E
  have hyv:a.eval y=.slice none 0 0:=by
    unfold isNilSlice at hy
    split at hy
    · rfl
    · cases hy
  have heq:∀ ad n c,(Op.equal t (.slice ad n c) (.slice none 0 0)).run P w=.ok ad.isNone w:=by
    intro ad n c
    have key:∀ d,(Op.equalIn (d+1) t (.slice ad n c) (.slice none 0 0)).run P w=.ok ad.isNone w:=by
      intro d
      cases ad<;>simp [Op.equalIn,run_underlying ht]
    exact key 9999
  have hrun:∀ ad n c,a.eval x=.slice ad n c→(execOp a.eval o).run P w=.ok (.value (.bool (ad.isNone != neg))) w:=by
    intro ad n c hx
    rcases hneg with ⟨rfl,rfl⟩ | ⟨rfl,rfl⟩
    · simp [execOp,hop,hx,hyv,eqGuard,binOp,heq]
    · simp [execOp,hop,hx,hyv,eqGuard,binOp,heq]
  have fin:∀ (b:Bool) ad n c,a.eval x=.slice ad n c→(b=false→ad.isNone=false)→Goes P o a w fr w0 m (.maybe b neg) hp:=by
    intro b ad n c hx hb
    refine goes_pure H (hrun ad n c hx) ?_
    simp only [C]
    exact ⟨_,rfl,fun h=>by rw [hb h];cases neg<;>rfl⟩
  simp only [astep] at hs
  split at hs
  · rename_i hx
    rw [hx] at k1
    simp only [C] at k1
    simp only [Option.some.injEq,Prod.mk.injEq] at hs
    obtain ⟨rfl,rfl⟩:=hs
    refine goes_pure H (hrun _ _ _ k1) ?_
    simp only [C]
    cases neg<;>rfl
  · rename_i s cs hx
    rw [hx] at k1
    simp only [C] at k1
    obtain ⟨h2,ad,n,c,hu,h3,h4,h5,h6⟩:=k1
    simp only [Option.some.injEq,Prod.mk.injEq] at hs
    obtain ⟨rfl,rfl⟩:=hs
    refine fin _ ad n c hu (fun hb=>?_)
    obtain ⟨b,o,rfl,_⟩:=h6 (by rintro rfl;simp at hb)
    rfl
  · rename_i s id hx
    rw [hx] at k1
    simp only [omI,Prod.mk.injEq] at hs
    obtain ⟨cs,hcs,rfl,rfl⟩:=hs
    simp only [C] at k1
    obtain ⟨e,he,hu,hes⟩:=k1
    obtain ⟨e',q,hb,he',h1,h2,h3,h4,h5⟩:=row_at H hcs
    rw [he] at he';injection he' with he';subst he'
    refine fin _ _ _ _ hu (fun hb=>?_)
    rcases h5 with ⟨q1,q2,rfl⟩ | ⟨g,f,q1,q2,hR⟩
    · simp at hb
    · rw [q2];rfl
  · rename_i s id o2 n hx
    rw [hx] at k1
    simp only [C] at k1
    obtain ⟨e,he,hes,_,ad,c,hu,hnc,hco,hca⟩:=k1
    simp only [Option.some.injEq,Prod.mk.injEq] at hs
    obtain ⟨rfl,rfl⟩:=hs
    refine fin _ ad n c hu (fun hb=>?_)
    have:n≠0:=by simpa using hb
    rcases hca with h | ⟨g,_,rfl⟩
    · omega
    · rfl
  · cases hs
theorem go_un {op:UnOp} {t:TypeId} {x:Operand} {x':SX} (hop:o.op=.unOp op t x) (h1:opd fid x=some x') (hs:astep hp (St.ev ⟨env,hp,l0,mk⟩) (.un op x')=some (v,hp')) (H:HInv fr w0 m hp w []) (E:EnvOk m env a.tmps):Goes P o a w fr w0 m v hp':=by
  have k1:=opd_ok (st:=⟨env,hp,l0,mk⟩) hcd h1 E
  simp only [astep] at hs
  split at hs
  · rename_i b hx
    rw [hx] at k1
    simp only [C] at k1
    simp only [Option.some.injEq,Prod.mk.injEq] at hs
    obtain ⟨rfl,rfl⟩:=hs
    exact goes_pure H (u:=.bool !b) (by simp [execOp,hop,k1,Op.unary]) (by simp [C])
  · rename_i k n hx
    rw [hx] at k1
    simp only [C] at k1
    simp only [Option.some.injEq,Prod.mk.injEq] at hs
    obtain ⟨rfl,rfl⟩:=hs
    exact goes_pure H (u:=.int k (k.wrap (0 - n))) (by simp [execOp,hop,k1,Op.unary,Op.intArith]) (by simp [C])
  · cases hs
theorem go_conv {s d:TypeId} {k k':IntKind} {x:Operand} {x':SX} (hop:o.op=.convert s d x) (hs':P.underlying s=some (.int k')) (hd:P.underlying d=some (.int k)) (h1:opd fid x=some x') (hs:astep hp (St.ev ⟨env,hp,l0,mk⟩) (.conv k x')=some (v,hp'))
    (H:HInv fr w0 m hp w []) (E:EnvOk m env a.tmps):Goes P o a w fr w0 m v hp':=by
  have k1:=opd_ok (st:=⟨env,hp,l0,mk⟩) hcd h1 E
  simp only [astep] at hs
  split at hs
  · rename_i k2 n hx
    rw [hx] at k1
    simp only [C] at k1
    simp only [Option.some.injEq,Prod.mk.injEq] at hs
    obtain ⟨rfl,rfl⟩:=hs
    exact goes_pure H (u:=.int k (k.wrap n)) (by simp [execOp,hop,k1,convert,run_underlying hs',run_underlying hd,Conv.intToInt]) (by simp [C])
  · cases hs
theorem go_same {s d:TypeId} {x:Operand} {x':SX} (hop:o.op=.convert s d x) (hs':P.underlying s=some .string) (hd:P.underlying d=some .string) (h1:opd fid x=some x') (hs:astep hp (St.ev ⟨env,hp,l0,mk⟩) (.same x')=some (v,hp'))
    (H:HInv fr w0 m hp w []) (E:EnvOk m env a.tmps):Goes P o a w fr w0 m v hp':=by
  have k1:=opd_ok (st:=⟨env,hp,l0,mk⟩) hcd h1 E
  simp only [astep] at hs
  split at hs
  · rename_i l hx
    rw [hx] at k1
    simp only [Option.some.injEq,Prod.mk.injEq] at hs
    obtain ⟨rfl,rfl⟩:=hs
    refine goes_pure H (u:=a.eval x) ?_ k1
    simp only [C] at k1
    simp [execOp,hop,k1,convert,run_underlying hs',run_underlying hd]
  · cases hs
theorem go_fieldAddr {t:TypeId} {f:Nat} {fd:Field} {s:Nat} {x:Operand} {x':SX} (hop:o.op=.fieldAddr t x f) (hf:fieldOf P t f=some fd) (hz:szOf P fd.type=some s) (hz0:s≠0) (h1:opd fid x=some x')
    (hs:astep hp (St.ev ⟨env,hp,l0,mk⟩) (.fieldAddr fd.offset x')=some (v,hp')) (H:HInv fr w0 m hp w []) (E:EnvOk m env a.tmps):Goes P o a w fr w0 m v hp':=by
  have k1:=opd_ok (st:=⟨env,hp,l0,mk⟩) hcd h1 E
  simp only [astep] at hs
  split at hs
  · rename_i cs hx
    rw [hx] at k1
    simp only [C] at k1
    obtain ⟨hok,b,off,hu,hCL⟩:=k1
    simp only [Option.some.injEq,Prod.mk.injEq] at hs
    obtain ⟨rfl,rfl⟩:=hs
    refine goes_pure H (u:=.pointer (some ⟨b,off+fd.offset,none⟩)) (by simp [execOp,hop,hu,run_fieldAt_ok w hf hz hz0,addr_add]) ?_
    simp only [C]
    refine ⟨all_drop hok _,b,_,rfl,?_⟩
    have:=CL_drop hCL fd.offset
    simpa only [Nat.add_assoc] using this
  · rename_i id off hx
    rw [hx] at k1
    simp only [C] at k1
    obtain ⟨e,he,b,hb,hu⟩:=k1
    simp only [Option.some.injEq,Prod.mk.injEq] at hs
    obtain ⟨rfl,rfl⟩:=hs
    refine goes_pure H (u:=.pointer (some ⟨b,off+fd.offset,none⟩)) (by simp [execOp,hop,hu,run_fieldAt_ok w hf hz hz0,addr_add]) ?_
    simp only [C]
    exact ⟨e,he,b,hb,rfl⟩
  · cases hs
theorem go_field {t:TypeId} {f:Nat} {fd:Field} {n:Option Nat} {x:Operand} {x':SX} (hop:o.op=.field t x f) (hf:fieldOf P t f=some fd) (hn:ldk P fd.type=some n) (h1:opd fid x=some x')
    (hs:astep hp (St.ev ⟨env,hp,l0,mk⟩) (.field n fd.offset x')=some (v,hp')) (H:HInv fr w0 m hp w []) (E:EnvOk m env a.tmps):Goes P o a w fr w0 m v hp':=by
  have k1:=opd_ok (st:=⟨env,hp,l0,mk⟩) hcd h1 E
  simp only [astep] at hs
  split at hs
  · rename_i cs hx
    rw [hx] at k1
    simp only [C] at k1
    obtain ⟨hok,vs,hu,hsz,hCL⟩:=k1
    simp only [omI,Prod.mk.injEq] at hs
    obtain ⟨z,hz,rfl,rfl⟩:=hs
    obtain ⟨u,hr,hC⟩:=part_ok (P:=P) (w:=w) hn hz hok hCL hsz
    refine goes_pure H (u:=u) ?_ hC
    unfold fieldOf at hf
    split at hf
    · rename_i fs hfs
      simp [execOp,hop,hu,Instr.field,run_underlying hfs,hf,asAgg,hr]
    · cases hf
  · cases hs
theorem go_indexAddr {t e:TypeId} {s:Nat} {x i:Operand} {x' i':SX} (hop:o.op=.indexAddr t x i) (ht:P.underlying t=some (.slice e)) (hz:szOf P e=some s) (hz0:s≠0) (h1:opd fid x=some x') (h2:opd fid i=some i')
    (hs:astep hp (St.ev ⟨env,hp,l0,mk⟩) (.indexAddr s x' i')=some (v,hp')) (H:HInv fr w0 m hp w []) (E:EnvOk m env a.tmps):Goes P o a w fr w0 m v hp':=by
  have k1:=opd_ok (st:=⟨env,hp,l0,mk⟩) hcd h1 E
  have k2:=opd_ok (st:=⟨env,hp,l0,mk⟩) hcd h2 E
  have hsz:=szOf_ok hz
  simp only [astep] at hs
  split at hs
  · rename_i s' cs k j hx hi
    rw [hx] at k1;rw [hi] at k2
    simp only [C] at k1 k2
    split at hs
    · rename_i hss
      subst hss
      split at hs
      · rename_i hc
        obtain ⟨hj0,hjn⟩:=hc
        simp only [Option.some.injEq,Prod.mk.injEq] at hs
        obtain ⟨rfl,rfl⟩:=hs
        obtain ⟨hok,ad,n,c,hu,h3,h4,h5,h6⟩:=k1
        rw [len_div h3 h4] at hjn
        have hne:cs≠[]:=by
          intro he
          have:=h4 he
          omega
        obtain ⟨b,off,rfl,hCL⟩:=h6 hne
        refine goes_pure H (u:=.pointer (some ⟨b,off+j.toNat*s',none⟩)) ?_ ?_
        · simp [execOp,hop,hu,k2,Instr.indexAt,asIntOf,run_underlying ht,hj0,hjn,hsz,addr_add]
        · simp only [C]
          refine ⟨all_drop hok _,b,_,rfl,?_⟩
          have:=CL_drop hCL (j.toNat*s')
          simpa only [Nat.add_assoc] using this
      · cases hs
    · cases hs
  · rename_i s' id k j hx hi
    rw [hx] at k1;rw [hi] at k2
    simp only [C] at k1 k2
    simp only [obI] at hs
    obtain ⟨cs,hcs,hs⟩:=hs
    split at hs
    · rename_i hss
      subst hss
      split at hs
      · rename_i hc
        obtain ⟨hj0,hjn⟩:=hc
        simp only [Option.some.injEq,Prod.mk.injEq] at hs
        obtain ⟨rfl,rfl⟩:=hs
        obtain ⟨en,he,hu,hes⟩:=k1
        obtain ⟨e',q,hb,he',q1,q2,q3,q4,q5⟩:=row_at H hcs
        rw [he] at he';injection he' with he';subst he'
        rw [hes] at q2
        rw [len_div q2 q3] at hjn
        rcases q5 with ⟨_,r2,_⟩ | ⟨g,f,r1,r2,_⟩
        · omega
        · rw [r2] at hu
          refine goes_pure H (u:=.pointer (some ⟨g,j.toNat*s',none⟩)) ?_ ?_
          · simp [execOp,hop,hu,k2,Instr.indexAt,asIntOf,run_underlying ht,hj0,hjn,hsz,addr_add]
          · simp only [C]
            exact ⟨en,he,g,r1,rfl⟩
      · cases hs
    · cases hs
  · rename_i s' id o2 n k j hx hi
    rw [hx] at k1;rw [hi] at k2
    simp only [C] at k1 k2
    split at hs
    · rename_i hss
      subst hss
      split at hs
      · rename_i hc
        obtain ⟨hj0,hjn⟩:=hc
        simp only [Option.some.injEq,Prod.mk.injEq] at hs
        obtain ⟨rfl,rfl⟩:=hs
        obtain ⟨en,he,hes,_,ad,c,hu,hnc,hco,hca⟩:=k1
        obtain ⟨b,heb,rfl⟩:=hca.resolve_left (by omega)
        refine goes_pure H (u:=.pointer (some ⟨b,o2*s'+j.toNat*s',none⟩)) ?_ ?_
        · simp [execOp,hop,hu,k2,Instr.indexAt,asIntOf,run_underlying ht,hj0,hjn,hsz,addr_add]
        · simp only [C]
          exact ⟨en,he,b,heb,rfl⟩
      · cases hs
    · cases hs
  · cases hs
theorem go_indexArr {t e:TypeId} {s len:Nat} {x i:Operand} {x' i':SX} (hop:o.op=.indexAddr t x i) (ht:P.underlying t=some (.array len e)) (hz:szOf P e=some s) (h1:opd fid x=some x') (h2:opd fid i=some i')
    (hs:astep hp (St.ev ⟨env,hp,l0,mk⟩) (.indexArr len s x' i')=some (v,hp')) (H:HInv fr w0 m hp w []) (E:EnvOk m env a.tmps):Goes P o a w fr w0 m v hp':=by
  have k1:=opd_ok (st:=⟨env,hp,l0,mk⟩) hcd h1 E
  have k2:=opd_ok (st:=⟨env,hp,l0,mk⟩) hcd h2 E
  have hsz:=szOf_ok hz
  simp only [astep] at hs
  split at hs
  · rename_i cs k j hx hi
    rw [hx] at k1;rw [hi] at k2
    simp only [C] at k1 k2
    split at hs
    · rename_i hc
      obtain ⟨hj0,hjn⟩:=hc
      simp only [Option.some.injEq,Prod.mk.injEq] at hs
      obtain ⟨rfl,rfl⟩:=hs
      obtain ⟨hok,b,off,hu,hCL⟩:=k1
      refine goes_pure H (u:=.pointer (some ⟨b,off+j.toNat*s,none⟩)) ?_ ?_
      · simp [execOp,hop,hu,k2,Instr.indexAt,asIntOf,run_underlying ht,hj0,hjn,hsz,addr_add,Instr.sureAddr]
      · simp only [C]
        refine ⟨all_drop hok _,b,_,rfl,?_⟩
        have:=CL_drop hCL (j.toNat*s)
        simpa only [Nat.add_assoc] using this
    · cases hs
  · rename_i id off k j hx hi
    rw [hx] at k1;rw [hi] at k2
    simp only [C] at k1 k2
    split at hs
    · rename_i hc
      obtain ⟨hj0,hjn⟩:=hc
      simp only [Option.some.injEq,Prod.mk.injEq] at hs
      obtain ⟨rfl,rfl⟩:=hs
      obtain ⟨en,he,b,heb,hu⟩:=k1
      refine goes_pure H (u:=.pointer (some ⟨b,off+j.toNat*s,none⟩)) ?_ ?_
      · simp [execOp,hop,hu,k2,Instr.indexAt,asIntOf,run_underlying ht,hj0,hjn,hsz,addr_add,Instr.sureAddr]
      · simp only [C]
        exact ⟨en,he,b,heb,rfl⟩
    · cases hs
  · cases hs
theorem go_indexV {t e:TypeId} {s len:Nat} {q:Option Nat} {x i:Operand} {x' i':SX} (hop:o.op=.index t x i) (ht:P.underlying t=some (.array len e)) (hz:szOf P e=some s) (hn:ldk P e=some q) (h1:opd fid x=some x') (h2:opd fid i=some i')
    (hs:astep hp (St.ev ⟨env,hp,l0,mk⟩) (.indexV q len s x' i')=some (v,hp')) (H:HInv fr w0 m hp w []) (E:EnvOk m env a.tmps):Goes P o a w fr w0 m v hp':=by
  have k1:=opd_ok (st:=⟨env,hp,l0,mk⟩) hcd h1 E
  have k2:=opd_ok (st:=⟨env,hp,l0,mk⟩) hcd h2 E
  have hsz:=szOf_ok hz
  simp only [astep] at hs
  split at hs
  · rename_i cs k j hx hi
    rw [hx] at k1;rw [hi] at k2
    simp only [C] at k1 k2
    obtain ⟨hok,vs,hu,hvs,hCL⟩:=k1
    split at hs
    · rename_i hc
      obtain ⟨hj0,hjn⟩:=hc
      simp only [omI,Prod.mk.injEq] at hs
      obtain ⟨z,hz2,rfl,rfl⟩:=hs
      obtain ⟨u,hr,hC⟩:=part_ok (P:=P) (w:=w) hn hz2 hok hCL hvs
      refine goes_pure H (u:=u) ?_ hC
      simp [execOp,hop,hu,k2,Instr.index,asIntOf,run_underlying ht,hj0,hjn,hsz,hr]
    · cases hs
  · cases hs
theorem go_index {t:TypeId} {x i:Operand} {x' i':SX} (hop:o.op=.index t x i) (ht:P.underlying t=some .string) (h1:opd fid x=some x') (h2:opd fid i=some i')
    (hs:astep hp (St.ev ⟨env,hp,l0,mk⟩) (.index x' i')=some (v,hp')) (H:HInv fr w0 m hp w []) (E:EnvOk m env a.tmps):Goes P o a w fr w0 m v hp':=by
  have k1:=opd_ok (st:=⟨env,hp,l0,mk⟩) hcd h1 E
  have k2:=opd_ok (st:=⟨env,hp,l0,mk⟩) hcd h2 E
  simp only [astep] at hs
  split at hs
  · rename_i l k j hx hi
    rw [hx] at k1;rw [hi] at k2
    simp only [C] at k1 k2
    split at hs
    · rename_i hc
      simp only [omI,Prod.mk.injEq] at hs
      obtain ⟨bt,hb,rfl,rfl⟩:=hs
      have hg:(ByteArray.mk l.toArray)[j.toNat]? = some bt:=by
        rw [ByteArray.getElem?_lt' _ _ (by simp [ByteArray.size];omega)]
        congr 1
        have:=(List.getElem?_eq_some_iff.1 hb).2
        rw [←this]
        rfl
      exact goes_pure H (u:=.int .u8 bt.toNat) (by simp [execOp,hop,k1,k2,Instr.index,asIntOf,run_underlying ht,hc.1,hg]) (by simp [C])
    · cases hs
  · cases hs
theorem go_iface {t:TypeId} {x:Operand} {x':SX} (hop:o.op=.makeInterface t x) (hc:P.concrete t=true) (h1:opd fid x=some x') (hs:astep hp (St.ev ⟨env,hp,l0,mk⟩) (.iface t x')=some (v,hp')) (H:HInv fr w0 m hp w []) (E:EnvOk m env a.tmps):Goes P o a w fr w0 m v hp':=by
  have k1:=opd_ok (st:=⟨env,hp,l0,mk⟩) hcd h1 E
  simp only [astep,Option.some.injEq,Prod.mk.injEq] at hs
  obtain ⟨rfl,rfl⟩:=hs
  refine goes_pure H (u:=.iface t (a.eval x)) (by simp [execOp,hop,run_makeInterface _ _ _ hc]) ?_
  simp only [C]
  exact ⟨_,rfl,k1⟩
omit hcd in
theorem run_assert_ok (w:World) {t xt:TypeId} (hc:P.concrete t=true) (u:Value):(Instr.typeAssert (.iface t u) xt t false).run P w=.ok u w:=by
  unfold Program.concrete at hc
  cases hu:P.underlying t with
  |none=>rw [hu] at hc;cases hc
  |some d=>
    rw [hu] at hc
    cases d<;>first | (simp at hc;done) | simp [Instr.typeAssert,run_underlying hu]
theorem go_assert {t xt:TypeId} {x:Operand} {x':SX} (hop:o.op=.typeAssert x xt t false) (hc:P.concrete t=true) (h1:opd fid x=some x') (hs:astep hp (St.ev ⟨env,hp,l0,mk⟩) (.assert t x')=some (v,hp')) (H:HInv fr w0 m hp w []) (E:EnvOk m env a.tmps):Goes P o a w fr w0 m v hp':=by
  have k1:=opd_ok (st:=⟨env,hp,l0,mk⟩) hcd h1 E
  simp only [astep] at hs
  split at hs
  · rename_i t' v' hx
    split at hs
    · rename_i ht
      subst ht
      simp only [Option.some.injEq,Prod.mk.injEq] at hs
      obtain ⟨rfl,rfl⟩:=hs
      rw [hx] at k1
      simp only [C] at k1
      obtain ⟨u,hu,hC⟩:=k1
      exact goes_pure H (u:=u) (by simp [execOp,hop,hu,run_assert_ok w hc]) hC
    · cases hs
  · cases hs
theorem go_extract {i:Nat} {x:Operand} {x':SX} (hop:o.op=.extract x i) (h1:opd fid x=some x') (hs:astep hp (St.ev ⟨env,hp,l0,mk⟩) (.extract i x')=some (v,hp')) (H:HInv fr w0 m hp w []) (E:EnvOk m env a.tmps):Goes P o a w fr w0 m v hp':=by
  have k1:=opd_ok (st:=⟨env,hp,l0,mk⟩) hcd h1 E
  simp only [astep] at hs
  split at hs
  · rename_i vs hx
    rw [hx] at k1
    simp only [C] at k1
    obtain ⟨us,hu,hsz,hCL⟩:=k1
    simp only [omI,Prod.mk.injEq] at hs
    obtain ⟨z,hz,rfl,rfl⟩:=hs
    obtain ⟨u,hu1,hC⟩:=CL_iff.1 hCL i z hz
    exact goes_pure H (u:=u) (by simp [execOp,hop,hu,Instr.extract,hu1]) hC
  · cases hs
theorem go_lens {t:TypeId} {x:Operand} {x':SX} (hop:o.op=.call { callee:=.builtin .len,args:=#[x],argTypes:=#[t] }) (ht:P.underlying t=some .string) (h1:opd fid x=some x')
    (hs:astep hp (St.ev ⟨env,hp,l0,mk⟩) (.len true x')=some (v,hp')) (H:HInv fr w0 m hp w []) (E:EnvOk m env a.tmps):Goes P o a w fr w0 m v hp':=by
  have k1:=opd_ok (st:=⟨env,hp,l0,mk⟩) hcd h1 E
  simp only [astep] at hs
  split at hs
  · rename_i l hx
    rw [hx] at k1
    simp only [C] at k1
    simp only [if_true,Option.some.injEq,Prod.mk.injEq] at hs
    obtain ⟨rfl,rfl⟩:=hs
    have hl:(ByteArray.mk l.toArray).size=l.length:=by simp [ByteArray.size]
    have hr:=run_len_string (P:=P) w t o.type ⟨l.toArray⟩ ht
    rw [hl] at hr
    refine goes_pure H (u:=.int .i64 l.length) ?_ (by simp [C])
    simp only [execOp,hop,resolve,invoke,builtin,Sem.run_bind,Sem.run_pure,Result.andThen_ok,List.map_toArray,List.map_cons,List.map_nil,k1,hr]
    rfl
  · simp at hs
theorem go_lenl {t:TypeId} {d:TypeId} {x:Operand} {x':SX} (hop:o.op=.call { callee:=.builtin .len,args:=#[x],argTypes:=#[t] }) (ht:P.underlying t=some (.slice d)) (h1:opd fid x=some x')
    (hs:astep hp (St.ev ⟨env,hp,l0,mk⟩) (.len false x')=some (v,hp')) (H:HInv fr w0 m hp w []) (E:EnvOk m env a.tmps):Goes P o a w fr w0 m v hp':=by
  have k1:=opd_ok (st:=⟨env,hp,l0,mk⟩) hcd h1 E
  simp only [astep] at hs
  split at hs
  · simp at hs
  · simp only [Bool.false_eq_true,if_false,omI,Prod.mk.injEq] at hs
    obtain ⟨n,hn,rfl,rfl⟩:=hs
    obtain ⟨ad,c,hu⟩:=sln_ok H k1 hn
    exact goes_pure H (u:=.int .i64 n) (by simp [execOp,hop,hu,resolve,invoke,builtin,Builtin.len_,run_underlying ht,goInt]) (by simp [C])
theorem go_mm {mx:Bool} {x y:Operand} {x' y':SX} {ats:Array TypeId} (hop:o.op=.call { callee:=.builtin (if mx then .max else .min),args:=#[x,y],argTypes:=ats }) (h1:opd fid x=some x') (h2:opd fid y=some y')
    (hs:astep hp (St.ev ⟨env,hp,l0,mk⟩) (.mm mx x' y')=some (v,hp')) (H:HInv fr w0 m hp w []) (E:EnvOk m env a.tmps):Goes P o a w fr w0 m v hp':=by
  have k1:=opd_ok (st:=⟨env,hp,l0,mk⟩) hcd h1 E
  have k2:=opd_ok (st:=⟨env,hp,l0,mk⟩) hcd h2 E
  simp only [astep] at hs
  split at hs
  · rename_i k p k' q hx hy
    rw [hx] at k1;rw [hy] at k2
    simp only [C] at k1 k2
    split at hs
    · rename_i hk
      subst hk
      simp only [Option.some.injEq,Prod.mk.injEq] at hs
      obtain ⟨rfl,rfl⟩:=hs
      refine goes_pure H (u:=.int k (if mx then max p q else min p q)) ?_ (by simp [C])
      cases mx
      · simp [execOp,hop,k1,k2,resolve,invoke,builtin,Builtin.min_,Builtin.min2]
        omega
      · simp [execOp,hop,k1,k2,resolve,invoke,builtin,Builtin.max_,Builtin.max2]
        omega
    · cases hs
  · cases hs
theorem go_fn {f:FuncId} {k:Nat} {fs cs:Array Operand} {fs' cs':List SX} (hop:o.op=.makeFunc (.func f) fs cs) (hk:fid f=some k) (h1:opds fid fs.toList=some fs') (h2:opds fid cs.toList=some cs')
    (hs:astep hp (St.ev ⟨env,hp,l0,mk⟩) (.fn k fs' cs')=some (v,hp')) (H:HInv fr w0 m hp w []) (E:EnvOk m env a.tmps):Goes P o a w fr w0 m v hp':=by
  obtain ⟨c1,c2⟩:=opds_ok (st:=⟨env,hp,l0,mk⟩) hcd _ _ h1 E
  obtain ⟨d1,d2⟩:=opds_ok (st:=⟨env,hp,l0,mk⟩) hcd _ _ h2 E
  simp only [astep,Option.some.injEq,Prod.mk.injEq] at hs
  obtain ⟨rfl,rfl⟩:=hs
  refine goes_pure H (u:=.func (.func f) (fs.map a.eval) (cs.map a.eval)) (by simp [execOp,hop,Instr.makeFunc]) ?_
  simp only [C]
  exact ⟨f,_,_,rfl,by rw [hcd];exact hk,by simp [c2],by simp [d2],by simpa using c1,by simpa using d1⟩
end
section
variable {P:Program} {fid:FuncId→Option Nat} {fr:Nat→Prop} {w0 w:World} {m:Mem} {hp hp':List Blk} {env:List (Nat × AV)} {a:Act} {o:Oper} {v:AV} {l0:Nat} {mk:List Mark} {fl:List Nat}
theorem bounds_ok (isS:Bool) {n c c0 l k:Nat} (hnc:n≤c) (hc0:c0≤c) (hn0:n≤c0) {lo hi mx:Option SX} {vl vh vm:Option Operand} {st:St} (hl:(vl=none∧lo=none)∨∃ x' y',vl=some x'∧lo=some y'∧C m (st.ev y') (a.eval x'))
    (hh:(vh=none∧hi=none)∨∃ x' y',vh=some x'∧hi=some y'∧C m (st.ev y') (a.eval x')) (hm:(vm=none∧mx=none)∨∃ x' y',vm=some x'∧mx=some y'∧C m (st.ev y') (a.eval x')) (h:cut3 n c0 (lo.map st.ev) (hi.map st.ev) (mx.map st.ev)=some (l,k)):
    ∃ q,(Instr.sliceBounds isS n c (vl.map a.eval) (vh.map a.eval) (vm.map a.eval)).run P w=.ok (l,k,q) w∧l≤k∧k≤q∧k≤c0∧(mx=none→q=c):=by
  rcases hm with ⟨rfl,rfl⟩ | ⟨xm,ym,rfl,rfl,hm⟩
  · refine ⟨c,?_⟩
    simp only [Option.map_none,cut3] at h ⊢
    rcases hl with ⟨rfl,rfl⟩ | ⟨xl,yl,rfl,rfl,hl⟩<;>rcases hh with ⟨rfl,rfl⟩ | ⟨xh,yh,rfl,rfl,hh⟩
    · simp only [Option.map_none,cut,Option.some.injEq,Prod.mk.injEq] at h
      obtain ⟨rfl,rfl⟩:=h
      exact ⟨by simp [Instr.sliceBounds],Nat.zero_le _,hnc,hn0,by simp⟩
    · simp only [Option.map_none,Option.map_some] at h ⊢
      unfold cut at h
      split at h<;>simp_all
      rename_i kk hv heq
      obtain ⟨hc,rfl,rfl⟩:=h
      simp only [C] at hh
      rw [hh]
      refine ⟨?_,by omega,by omega⟩
      simp [Instr.sliceBounds,Instr.sliceBound,asIntOf,hc.1,show hv≤(c:Int) by omega]
    · simp only [Option.map_none,Option.map_some] at h ⊢
      unfold cut at h
      split at h<;>simp_all
      rename_i kk hv heq
      obtain ⟨hc,rfl,rfl⟩:=h
      simp only [C] at hl
      rw [hl]
      refine ⟨?_,by omega⟩
      simp [Instr.sliceBounds,Instr.sliceBound,asIntOf,hc.1,hc.2]
    · simp only [Option.map_some] at h ⊢
      unfold cut at h
      split at h<;>simp_all
      rename_i k1 l1 k2 h1 e1 e2
      obtain ⟨hc,rfl,rfl⟩:=h
      simp only [C] at hl hh
      rw [hl,hh]
      refine ⟨?_,by omega,by omega,by omega⟩
      simp [Instr.sliceBounds,Instr.sliceBound,asIntOf,show (0:Int)≤h1 by omega,show h1≤(c:Int) by omega,hc.1,show l1≤max h1 0 by omega]
  · simp only [Option.map_some,cut3] at h ⊢
    split at h
    · rename_i heq;cases heq
    · rename_i k3 mv heq
      injection heq with heq
      rw [heq] at hm
      simp only [C] at hm
      split at h
      · rename_i hc
        obtain ⟨rfl,hsome⟩:=hc
        refine ⟨n,?_⟩
        rw [hm]
        rcases hh with ⟨rfl,rfl⟩ | ⟨xh,yh,rfl,rfl,hh⟩
        · simp at hsome
        · rcases hl with ⟨rfl,rfl⟩ | ⟨xl,yl,rfl,rfl,hl⟩
          · simp only [Option.map_none,Option.map_some] at h ⊢
            unfold cut at h
            split at h<;>simp_all
            rename_i kk hv heq'
            obtain ⟨hc,rfl,rfl⟩:=h
            simp only [C] at hh
            rw [hh]
            refine ⟨?_,by omega,by omega⟩
            simp [Instr.sliceBounds,Instr.sliceBound,asIntOf,hc.1,hc.2,show n≤c by omega]
          · simp only [Option.map_some] at h ⊢
            unfold cut at h
            split at h<;>simp_all
            rename_i k1 l1 k2 h1 e1 e2
            obtain ⟨hc,rfl,rfl⟩:=h
            simp only [C] at hl hh
            rw [hl,hh]
            refine ⟨?_,by omega,by omega,by omega⟩
            simp [Instr.sliceBounds,Instr.sliceBound,asIntOf,show (0:Int)≤h1 by omega,show h1≤(n:Int) by omega,hc.1,show l1≤max h1 0 by omega,show n≤c by omega]
      · cases h
    · cases h
theorem go_slice (hcd:m.cd=fid) {t e:TypeId} {s:Nat} {x:Operand} {x':SX} {lo hi mx:Option Operand} {lo' hi' mx':Option SX} (hop:o.op=.slice t x lo hi mx) (ht:P.underlying t=some (.slice e)) (hz:szOf P e=some s) (hz0:s≠0)
    (h1:opd fid x=some x') (h2:opdo fid lo=some lo') (h3:opdo fid hi=some hi') (h4:opdo fid mx=some mx')
    (hs:astep hp (St.ev ⟨env,hp,l0,mk⟩) (.slice s x' lo' hi' mx')=some (v,hp')) (H:HInv fr w0 m hp w []) (E:EnvOk m env a.tmps):Goes P o a w fr w0 m v hp':=by
  have k1:=opd_ok (st:=⟨env,hp,l0,mk⟩) hcd h1 E
  have k2:=opdo_ok (st:=⟨env,hp,l0,mk⟩) hcd h2 E
  have k3:=opdo_ok (st:=⟨env,hp,l0,mk⟩) hcd h3 E
  have k4:=opdo_ok (st:=⟨env,hp,l0,mk⟩) hcd h4 E
  have hsz:=szOf_ok hz
  have hrun:∀ ad n c l k q,a.eval x=.slice ad n c→(Instr.sliceBounds true n c (lo.map a.eval) (hi.map a.eval) (mx.map a.eval)).run P w=.ok (l,k,q) w →
      (execOp a.eval o).run P w=.ok (.value (.slice (if q=l then ad else ad.map (·.add (l*s))) (k - l) (q - l))) w:=by
    intro ad n c l k q hx hb
    simp [execOp,hop,hx,Instr.sliceAt,Instr.slice,run_underlying ht,hb,hsz]
  simp only [astep] at hs
  split at hs
  · rename_i hx
    rw [hx] at k1
    simp only [C] at k1
    split at hs
    · cases hs
    · rename_i hmx
      simp only [omI,Prod.mk.injEq] at hs
      obtain ⟨⟨l,k⟩,hc,rfl,rfl⟩:=hs
      obtain ⟨q,hb,h4,h5,h6,h7⟩:=bounds_ok (P:=P) (w:=w) true (Nat.le_refl 0) (Nat.le_refl 0) (Nat.le_refl 0) k2 k3 k4 hc
      have hq:q=0:=h7 (by cases mx'<;>simp_all)
      have:k=0:=by omega
      subst this
      have:l=0:=by omega
      subst this
      subst hq
      exact goes_pure H (hrun _ _ _ _ _ _ k1 hb) (by simp [C])
  · rename_i s' cs hx
    rw [hx] at k1
    simp only [C] at k1
    obtain ⟨hok,ad,n,c,hu,g3,g4,g5,g6⟩:=k1
    split at hs
    · rename_i hss
      simp only [omI,Prod.mk.injEq] at hs
      obtain ⟨⟨l,k⟩,hc,rfl,rfl⟩:=hs
      have hnn:cs.length=n*s∧cs.length / s=n:=by
        rcases hss with rfl | rfl
        · exact ⟨g3,len_div g3 g4⟩
        · have:=g4 rfl
          subst this
          simp
      rw [hnn.2] at hc
      obtain ⟨q,hb,h4,h5,h6,h7⟩:=bounds_ok (P:=P) (w:=w) true g5 g5 (Nat.le_refl n) k2 k3 k4 hc
      refine goes_pure H (hrun _ _ _ _ _ _ hu hb) ?_
      simp only [C]
      have hlen:((cs.drop (l*s)).take ((k - l)*s)).length=(k - l)*s:=by
        simp only [List.length_take,List.length_drop,hnn.1]
        have:(k - l)*s≤n*s - l*s:=by rw [←Nat.sub_mul];exact Nat.mul_le_mul_right _ (by omega)
        omega
      refine ⟨all_take (all_drop hok _) _,_,_,_,rfl,hlen,fun h=>?_,by omega,?_⟩
      · rw [h] at hlen
        simp only [List.length_nil] at hlen
        rcases Nat.mul_eq_zero.1 hlen.symm with h | h
        · exact h
        · exact absurd h hz0
      · intro hne
        have hkl:l<k:=by
          rcases Nat.lt_or_ge l k with h | h
          · exact h
          · rw [show k - l=0 by omega] at hne;simp at hne
        have hne2:cs≠[]:=by rintro rfl;simp at hne
        obtain ⟨b,off,rfl,hCL⟩:=g6 hne2
        refine ⟨b,off+l*s,?_,?_⟩
        · rw [if_neg (by omega)];simp [addr_add]
        · have:=CL_take (CL_drop hCL (l*s)) ((k - l)*s)
          simpa only [Nat.add_assoc] using this
    · cases hs
  · rename_i s' id hx
    rw [hx] at k1
    simp only [C] at k1
    obtain ⟨e',he,hu,hes⟩:=k1
    split at hs
    · rename_i hss
      subst hss
      simp only [obI,omI,Prod.mk.injEq] at hs
      obtain ⟨cs,hcs,⟨l,k⟩,hc,rfl,rfl⟩:=hs
      obtain ⟨e2,q',hb',he',g1,g2,g3,g4,g5⟩:=row_at H hcs
      rw [he] at he';injection he' with he';subst he'
      rw [hes] at g2
      rw [len_div g2 g3] at hc
      obtain ⟨q,hb,h4,h5,h6,h7⟩:=bounds_ok (P:=P) (w:=w) true g4 g4 (Nat.le_refl _) k2 k3 k4 hc
      refine goes_pure H (hrun _ _ _ _ _ _ hu hb) ?_
      cases hmx:mx' with
      |some y=>simp [C,Value.oneCell']
      |none=>
        have hq:=h7 hmx
        subst hq
        simp only [Option.isSome_none,Bool.false_eq_true,if_false,C]
        refine ⟨e',he,hes,by omega,_,_,rfl,by omega,by omega,?_⟩
        rcases g5 with ⟨r1,r2,_⟩ | ⟨g,f,r1,r2,_⟩
        · left;omega
        · by_cases hql:e'.cap=l
          · left;omega
          · right
            exact ⟨g,r1,by rw [if_neg hql,r2];simp [addr_add]⟩
    · cases hs
  · rename_i s' id o2 n hx
    rw [hx] at k1
    simp only [C] at k1
    obtain ⟨e',he,hes,hs0,ad,c,hu,hnc,hco,hca⟩:=k1
    split at hs
    · rename_i hss
      subst hss
      simp only [obI] at hs
      obtain ⟨cs,hcs,hs⟩:=hs
      split at hs
      case isFalse=>cases hs
      rename_i hn0
      simp only [omI,Prod.mk.injEq] at hs
      obtain ⟨⟨l,k⟩,hc,rfl,rfl⟩:=hs
      obtain ⟨e2,q',hb',he',g1,g2,g3,g4,g5⟩:=row_at H hcs
      rw [he] at he';injection he' with he';subst he'
      rw [hes] at g2
      rw [len_div g2 g3] at hc hn0
      have hfin:∀ l k c0,c0≤c→n≤c0→cut3 n c0 (lo'.map (St.ev ⟨env,hp,l0,mk⟩)) (hi'.map (St.ev ⟨env,hp,l0,mk⟩)) (mx'.map (St.ev ⟨env,hp,l0,mk⟩))=some (l,k)→Goes P o a w fr w0 m (if mx'.isSome=true then .any else .osl s' id (o2+l) (k - l)) hp:=by
        intro l k c0 hcc hnc0 hc
        obtain ⟨q,hb,h4,h5,h6,h7⟩:=bounds_ok (P:=P) (w:=w) true hnc hcc hnc0 k2 k3 k4 hc
        refine goes_pure H (hrun _ _ _ _ _ _ hu hb) ?_
        cases hmx:mx' with
        |some y=>simp [C,Value.oneCell']
        |none=>
          have hq:=h7 hmx
          subst hq
          simp only [Option.isSome_none,Bool.false_eq_true,if_false,C]
          refine ⟨e',he,hes,by omega,_,_,rfl,by omega,by omega,?_⟩
          rcases hca with hc0 | ⟨g,r1,rfl⟩
          · left;omega
          · by_cases hql:q=l
            · left;omega
            · right
              exact ⟨g,r1,by rw [if_neg hql];simp only [Option.map_some,addr_add,Nat.add_mul]⟩
      exact hfin l k _ (by omega) hn0 hc
    · cases hs
  · cases hs
theorem go_slices (hcd:m.cd=fid) {t:TypeId} {x:Operand} {x':SX} {lo hi:Option Operand} {lo' hi':Option SX} (hop:o.op=.slice t x lo hi none) (ht:P.underlying t=some .string)
    (h1:opd fid x=some x') (h2:opdo fid lo=some lo') (h3:opdo fid hi=some hi')
    (hs:astep hp (St.ev ⟨env,hp,l0,mk⟩) (.slices x' lo' hi')=some (v,hp')) (H:HInv fr w0 m hp w []) (E:EnvOk m env a.tmps):Goes P o a w fr w0 m v hp':=by
  have k1:=opd_ok (st:=⟨env,hp,l0,mk⟩) hcd h1 E
  have k2:=opdo_ok (st:=⟨env,hp,l0,mk⟩) hcd h2 E
  have k3:=opdo_ok (st:=⟨env,hp,l0,mk⟩) hcd h3 E
  simp only [astep] at hs
  split at hs
  · rename_i bs hx
    rw [hx] at k1
    simp only [C] at k1
    simp only [omI,Prod.mk.injEq] at hs
    obtain ⟨⟨l,k⟩,hc,rfl,rfl⟩:=hs
    have hbl:(ByteArray.mk bs.toArray).size=bs.length:=by simp [ByteArray.size]
    obtain ⟨q,hb,h4,h5,h6,h7⟩:=bounds_ok (P:=P) (w:=w) (vm:=none) (mx:=none) false (Nat.le_refl bs.length) (Nat.le_refl _) (Nat.le_refl _) k2 k3 (.inl ⟨rfl,rfl⟩) hc
    have hq:=h7 rfl
    subst hq
    have hex:(ByteArray.mk bs.toArray).extract l k=⟨((bs.drop l).take (k - l)).toArray⟩:=by
      apply ByteArray.ext
      simp [ByteArray.data_extract,List.extract_toArray,List.extract]
    simp only [Option.map_none] at hb
    refine goes_pure H (u:=.string ⟨((bs.drop l).take (k - l)).toArray⟩) ?_ (by simp [C])
    simp [execOp,hop,k1,Instr.sliceAt,Instr.slice,run_underlying ht,hbl,hb,hex]
  · cases hs
end
end Go.Proofs.Ytfbfbennheeglaa
