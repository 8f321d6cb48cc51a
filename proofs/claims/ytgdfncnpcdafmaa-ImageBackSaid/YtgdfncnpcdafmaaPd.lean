import Derived.Test.YtgdfncnpcdafmaaPn
namespace Go.Proofs.Ytgdfncnpcdafmaa
set_option linter.unusedSimpArgs false
set_option linter.unusedVariables false
open Go.RowKit
section
variable {P:Program} {fid:FuncId→Option Nat} {fr0 fr:Nat→Prop} {w0:World} {nt:Nat} {ro:Option Nat} {n:Nat}
def DieAt (P:Program) (fid:FuncId→Option Nat) (so:SOp) (st:St):Prop:=∃ k vs hps as,so.op=.call .mem k as∧wanted st.env so.guard=some true∧so.op.callee st.ev=some (.mem,k,vs)∧subHp st.hp (dedup (idsL vs) [])=some hps∧DiesC P fid k (renL (idxOf (dedup (idsL vs) [])) vs) hps
def StepF (P:Program) (fid:FuncId→Option Nat) (so:SOp) (st:St) (v:AV) (hp':List Blk):Prop:=Step P fid true so st v hp'∨(hp'=st.hp∧DieAt P fid so st)
theorem stepF_of {so:SOp} {st:St} {v:AV} {hp':List Blk} (h:StepF P fid so st v hp') (hn:∀ k as,so.op≠.call .mem k as):Step P fid true so st v hp':=by
  rcases h with h | ⟨_,k,vs,hps,as,hop,_⟩
  · exact h
  · exact absurd hop (hn k as)
inductive TraceF (P:Program) (fid:FuncId→Option Nat):List Bool→List SOp→St→St→Prop
  | nil {st:St}:TraceF P fid [] [] st st
  | here {bs:List Bool} {so:SOp} {l:List SOp} {st st':St} {v:AV}:DieAt P fid so st→TraceF P fid bs l (st.put so.dst v st.hp) st'→TraceF P fid (true::bs) (so::l) st st'
  | there {bs:List Bool} {so:SOp} {l:List SOp} {st st':St} {v:AV} {hp':List Blk}:Step P fid true so st v hp'→TraceF P fid bs l (st.put so.dst v hp') st'→TraceF P fid (false::bs) (so::l) st st'
theorem TraceF.app {p l:List SOp} {bs:List Bool} {st st1 st':St} (h1:Trace P fid true p st st1) (h2:TraceF P fid bs l st1 st'):TraceF P fid (List.replicate p.length false++bs) (p++l) st st':=by
  induction h1 with
  | nil=>exact h2
  | cons h t ih=>exact .there h (ih h2)
def cons0 {α:Type} (v:α) (f:Nat→α):Nat→α
  | 0=>v
  | i+1=>f i
theorem envT_consF (o:SOp) (l:List SOp) (v:AV) (vals:Nat→AV) (st:St) (hp':List Blk):∀ i,envT (o::l) (cons0 v vals) st.env (i+1)=envT l vals (st.put o.dst v hp').env i
  | 0=>by
    simp only [envT,List.getElem?_cons_zero,Option.bind_some,St.put]
    cases o.dst<;>rfl
  | i+1=>by
    have ih:=envT_consF o l v vals st hp' i
    rw [envT,ih]
    simp only [List.getElem?_cons_succ]
    rw [envT]
    rfl
theorem trace_fnF {bs:List Bool} {l:List SOp} {st st':St} (h:TraceF P fid bs l st st'):∃ (vals:Nat→AV) (hps:Nat→List Blk),hps 0=st.hp∧bs.length=l.length ∧
    (∀ (i:Nat) so,l[i]? = some so→bs[i]?≠some true→Step P fid true so ⟨envT l vals st.env i,hps i,st.lo,st.mks⟩ (vals i) (hps (i+1)))∧(∀ (i:Nat) so,l[i]? = some so→bs[i]? = some true→hps (i+1)=hps i∧DieAt P fid so ⟨envT l vals st.env i,hps i,st.lo,st.mks⟩)∧st'=⟨envT l vals st.env l.length,hps l.length,st.lo,st.mks⟩:=by
  have key:∀ {o:SOp} {st:St} {v:AV} {hp':List Blk},(st.put o.dst v hp').hp=hp'∧(st.put o.dst v hp').lo=st.lo∧(st.put o.dst v hp').mks=st.mks:=by
    intro o st v hp'
    refine ⟨?_,?_,?_⟩<;>unfold St.put<;>split<;>rfl
  induction h with
  | nil=>exact ⟨fun _=>.unk,fun _=>_,rfl,rfl,by simp,by simp,rfl⟩
  | @here bs o l st st' v hd t ih=>
    obtain ⟨vals,hps,h0,hl,hs,hk,he⟩:=ih
    obtain ⟨hhp,hlo,hmk⟩:=key (o:=o) (st:=st) (v:=v) (hp':=st.hp)
    refine ⟨cons0 v vals,cons0 st.hp hps,rfl,by simp [hl],?_,?_,?_⟩
    · intro i so hi hne
      cases i with
      | zero=>exact absurd rfl hne
      | succ i=>
        simp only [List.getElem?_cons_succ] at hi hne
        rw [envT_consF (hp':=st.hp)]
        rw [←hlo,←hmk]
        exact hs i so hi hne
    · intro i so hi hb
      cases i with
      | zero=>
        simp at hi
        subst hi
        exact ⟨h0.trans hhp,hd⟩
      | succ i=>
        simp only [List.getElem?_cons_succ] at hi hb
        rw [envT_consF (hp':=st.hp)]
        rw [←hlo,←hmk]
        exact hk i so hi hb
    · rw [List.length_cons,envT_consF (hp':=st.hp),←hlo,←hmk]
      exact he
  | @there bs o l st st' v hp' h t ih=>
    obtain ⟨vals,hps,h0,hl,hs,hk,he⟩:=ih
    obtain ⟨hhp,hlo,hmk⟩:=key (o:=o) (st:=st) (v:=v) (hp':=hp')
    refine ⟨cons0 v vals,cons0 st.hp hps,rfl,by simp [hl],?_,?_,?_⟩
    · intro i so hi hne
      cases i with
      | zero=>
        simp at hi
        subst hi
        show Step P fid true o ⟨st.env,st.hp,st.lo,st.mks⟩ v (hps 0)
        rw [show hps 0=hp' from h0.trans hhp]
        exact h
      | succ i=>
        simp only [List.getElem?_cons_succ] at hi hne
        rw [envT_consF (hp':=hp')]
        rw [←hlo,←hmk]
        exact hs i so hi hne
    · intro i so hi hb
      cases i with
      | zero=>simp at hb
      | succ i=>
        simp only [List.getElem?_cons_succ] at hi hb
        rw [envT_consF (hp':=hp')]
        rw [←hlo,←hmk]
        exact hk i so hi hb
    · rw [List.length_cons,envT_consF (hp':=hp'),←hlo,←hmk]
      exact he
theorem hps_constF {l:List SOp} {vals:Nat→AV} {hps:Nat→List Blk} {st:St} (hs:∀ (i:Nat) so,l[i]? = some so→StepF P fid so ⟨envT l vals st.env i,hps i,st.lo,st.mks⟩ (vals i) (hps (i+1))) {a b:Nat} (hab:a≤b) (hb:b≤l.length)
    (hl:∀ (j:Nat) sj,a≤j→j<b→l[j]? = some sj→sj.op.heavy=false):hps b=hps a:=by
  induction b with
  | zero => have : a = 0 := by omega
            rw [this]
  | succ b ih=>
    by_cases h:a=b+1
    · rw [h]
    · have e:=ih (by omega) (by omega) (fun j sj h1 h2=>hl j sj h1 (by omega))
      obtain ⟨sb,hsb⟩:∃ sb,l[b]? = some sb:=⟨l[b],List.getElem?_eq_getElem (by omega)⟩
      have hh:=hl b sb (by omega) (by omega) hsb
      have h1:=hs b sb hsb
      rw [←e]
      exact step_hp hh (stepF_of h1 (fun k as e=>by rw [e] at hh;simp [SO.heavy,Md.isQuiet] at hh))
theorem hps_keepF {l:List SOp} {vals:Nat→AV} {hps:Nat→List Blk} {st:St} (hs:∀ (i:Nat) so,l[i]? = some so→StepF P fid so ⟨envT l vals st.env i,hps i,st.lo,st.mks⟩ (vals i) (hps (i+1)))
    (hd:∀ (p q:Nat) sp sq,l[p]? = some sp→l[q]? = some sq→p<q→∀ d,sp.dst=some d→sq.dst≠some d) {a id:Nat}:∀ b,a≤b→b≤l.length →
    (∀ (j:Nat) sj,a≤j→j<b→l[j]? = some sj→sj.op.heavy=true→sj.op.grows=true∨sj.freshApp l a j=true∨(∃ sz bytes s u,sj.op=.append sz bytes (.tmp s) (.tmp u)∧litAt l j u=true∧id ∉ (lk (envT l vals st.env j) s).ids)∨(∃ k as,sj.op=.call .mem k as∧sj.guard=none∧id ∉ idsL (as.map (St.ev ⟨envT l vals st.env j,hps j,st.lo,st.mks⟩)))∨(∃ k as,sj.op=.call .allk k as∧sj.guard=none∧id∈idsL (as.map (St.ev ⟨envT l vals st.env j,hps j,st.lo,st.mks⟩)))∨∃ n s u,sj.op=.store false n (.tmp s) (.tmp u)∧(lk (envT l vals st.env j) u).ids=[]∧id ∉ (lk (envT l vals st.env j) s).ids)→(hps a).length≤(hps b).length∧(id<(hps a).length→(hps b)[id]? = (hps a)[id]?):=by
  have hlit:∀ c u,litAt l c u=true→∃ sz cs,lk (envT l vals st.env c) u=.sl sz cs:=by
    intro c u h
    simp only [litAt,List.any_eq_true,List.mem_range] at h
    obtain ⟨q,hq1,hq2⟩:=h
    split at hq2
    · rename_i d' z sz' len ps hlq
      simp only [beq_iff_eq] at hq2
      subst hq2
      obtain ⟨cs,hcs⟩:=step_lit rfl rfl (stepF_of (hs q _ hlq) (fun k as e=>by cases e))
      exact ⟨_,cs,(envT_hit hlq rfl c hq1 (fun j' so q1 q2 q3=>hd q j' _ so hlq q3 q1 d' rfl)).trans hcs⟩
    · cases hq2
  intro b
  induction b using Nat.strongRecOn with
  | _ b ih=>
    intro hab hb hl
    by_cases h:a=b
    · subst h;exact ⟨Nat.le_refl _,fun _=>rfl⟩
    · obtain ⟨c,rfl⟩:∃ c,b=c+1:=⟨b - 1,by omega⟩
      obtain ⟨h1,h2⟩:=ih c (by omega) (by omega) (by omega) (fun j sj q1 q2=>hl j sj q1 (by omega))
      obtain ⟨sc,hsc⟩:∃ sc,l[c]? = some sc:=⟨l[c],List.getElem?_eq_getElem (by omega)⟩
      rcases hs c sc hsc with hst | ⟨hst,_⟩
      rotate_left
      · simp only at hst
        rw [hst]
        exact ⟨h1,h2⟩
      cases hh:sc.op.heavy with
      | false=>rw [step_hp hh hst];exact ⟨h1,h2⟩
      | true=>
        rcases hl c sc (by omega) (by omega) hsc hh with hg | hf | ⟨sz,bytes,s,u,hop,hlu,hni⟩ | ⟨k,as,hop,hgd,hni⟩ | ⟨k,as,hop,hgd,hni⟩ | ⟨n,s,u,hop,hu0,hni⟩
        · obtain ⟨q,hq⟩:=step_grows (fun _=>hg) hst
          rw [hq]
          exact ⟨by simp;omega,fun hi=>by rw [List.getElem?_append_left (by show id<(hps c).length;omega)];exact h2 hi⟩
        · unfold SOp.freshApp at hf
          split at hf
          · rename_i sz bytes s u hop
            simp only [Bool.and_eq_true,freshAt,List.any_eq_true,List.mem_range] at hf
            obtain ⟨⟨p,hp1,hp2⟩,hlu⟩:=hf
            simp only [Bool.and_eq_true,decide_eq_true_eq] at hp2
            obtain ⟨hp2,hp3⟩:=hp2
            split at hp3
            · rename_i d k as hlp
              simp only [beq_iff_eq] at hp3
              subst hp3
              obtain ⟨g1,g2⟩:=ih p (by omega) (by omega) (by omega) (fun j sj q1 q2=>hl j sj q1 (by omega))
              have hnew:=step_new rfl rfl (stepF_of (hs p _ hlp) (fun k as e=>by cases e))
              obtain ⟨_,cs,hcs⟩:=hlit c u hlu
              have e1:lk (envT l vals st.env c) d=vals p:=envT_hit hlp rfl c hp1 (fun j' so q1 q2 q3=>hd p j' _ so hlp q3 q1 d rfl)
              obtain ⟨k1,k2⟩:=step_append hop hst hcs
              refine ⟨Nat.le_trans h1 k1,fun hi=>?_⟩
              rw [k2 id (by omega) (fun hm=>by
                rw [e1] at hm
                have:=hnew id hm
                simp only at this
                omega)]
              exact h2 hi
            · cases hp3
          · rename_i k as hop
            simp only [Bool.and_eq_true,Option.isNone_iff_eq_none,List.all_eq_true] at hf
            obtain ⟨hgd,hall⟩:=hf
            have hids:∀ i∈idsL (as.map (St.ev ⟨envT l vals st.env c,hps c,st.lo,st.mks⟩)),(hps a).length≤i:=by
              have key:∀ (xs:List SX),(∀ x∈xs,x∈as)→∀ i∈idsL (xs.map (St.ev ⟨envT l vals st.env c,hps c,st.lo,st.mks⟩)),(hps a).length≤i:=by
                intro xs
                induction xs with
                | nil=>intro _ i hi;simp [idsL] at hi
                | cons x xs ihx=>
                  intro hsub i hi
                  simp only [List.map_cons,idsL,List.mem_append] at hi
                  rcases hi with hi | hi
                  · have hx:=hall x (hsub x (by simp))
                    cases x with
                    | val v=>
                      simp only [List.isEmpty_iff] at hx
                      simp only [St.ev] at hi
                      rw [hx] at hi;cases hi
                    | tmp s=>
                      simp only [freshAt,List.any_eq_true,List.mem_range,Bool.and_eq_true,decide_eq_true_eq] at hx
                      obtain ⟨p,hp1,hp2,hp3⟩:=hx
                      split at hp3
                      · rename_i d k' as' hlp
                        simp only [beq_iff_eq] at hp3
                        subst hp3
                        obtain ⟨g1,g2⟩:=ih p (by omega) (by omega) (by omega) (fun j sj q1 q2=>hl j sj q1 (by omega))
                        have hnew:=step_new rfl rfl (stepF_of (hs p _ hlp) (fun k as e=>by cases e))
                        have e1:lk (envT l vals st.env c) d=vals p:=envT_hit hlp rfl c hp1 (fun j' so q1 q2 q3=>hd p j' _ so hlp q3 q1 d rfl)
                        simp only [St.ev] at hi
                        rw [e1] at hi
                        have:=hnew i hi
                        simp only at this
                        omega
                      · cases hp3
                  · exact ihx (fun y hy=>hsub y (by simp [hy])) i hi
              exact key as fun _ h=>h
            obtain ⟨k1,k2⟩:=step_mem hop hgd hst
            refine ⟨Nat.le_trans h1 k1,fun hi=>?_⟩
            rw [k2 id (fun hm=>by have:=hids id hm;omega) (by show id<(hps c).length;omega)]
            exact h2 hi
          · cases hf
        · obtain ⟨_,cs,hcs⟩:=hlit c u hlu
          obtain ⟨k1,k2⟩:=step_append hop hst hcs
          refine ⟨Nat.le_trans h1 k1,fun hi=>?_⟩
          rw [k2 id (by omega) hni]
          exact h2 hi
        · obtain ⟨k1,k2⟩:=step_mem hop hgd hst
          refine ⟨Nat.le_trans h1 k1,fun hi=>?_⟩
          rw [k2 id hni (by show id<(hps c).length;omega)]
          exact h2 hi
        · obtain ⟨k1,k2⟩:=step_allk hop hgd hst
          refine ⟨Nat.le_trans h1 k1,fun hi=>?_⟩
          rw [k2 id hni (by show id<(hps c).length;omega)]
          exact h2 hi
        · obtain ⟨k1,k2⟩:=step_store hop hst hu0
          refine ⟨Nat.le_trans h1 k1,fun hi=>?_⟩
          rw [k2 id (by omega) hni]
          exact h2 hi
theorem draw_stepF {chk:List (Nat × Nat)} {ops:Array Oper} {l:List SOp} (D:Drawn chk ops l) (hlen:l.length=ops.size) (hcs:∀ (i:Nat) so,l[i]? = some so→∃ o,ops[i]? = some o∧csop P fid nt ops o=some so.base) {vals:Nat→AV} {hps:Nat→List Blk} {st:St}
    (hsF:∀ (i:Nat) so,l[i]? = some so→StepF P fid so ⟨envT l vals st.env i,hps i,st.lo,st.mks⟩ (vals i) (hps (i+1))) {bs:List Bool} (hne:∀ (i:Nat) so,l[i]? = some so→bs[i]?≠some true→Step P fid true so ⟨envT l vals st.env i,hps i,st.lo,st.mks⟩ (vals i) (hps (i+1))) (hkd:∀ (i:Nat) so,l[i]? = some so→bs[i]? = some true→DieAt P fid so ⟨envT l vals st.env i,hps i,st.lo,st.mks⟩) (hchk:chkOk chk (envT l vals st.env l.length)=true) {m0:Mem} {ds:List Deferred} {Lb:Array Bool} {a:Act} {w:World} (R:RI P fid fr w0 nt ops l vals hps st m0 ds Lb a w)
    {i:Nat} (hi:i∈Region.ready .any ops Lb) {Q:Exit→Act→World→Prop} {K:Act→World→Prop} (hdie:∀ t u m' hp' w',Ext fr m0 m'→HInv fr w0 m' hp' w' []→Q (.panic (thrown t u)) a w') (hK:∀ a' w',bs[i]?≠some true→RI P fid fr w0 nt ops l vals hps st m0 ds (Lb.setIfInBounds i true) a' w'→K a' w'):wpOpIn (FF ro) n P ops Q i K a w:=by
  obtain ⟨hun,o,ho,hedge⟩:=mem_ready.1 hi
  obtain ⟨hib,hif⟩:=getD_true hun
  have hedge':∀ e∈ons o,Lb.getD e false=true:=by
    intro e he
    simp only [ons,List.mem_map,List.mem_filter] at he
    obtain ⟨ed,⟨h1,h2⟩,rfl⟩:=he
    exact hedge ed (by simpa using h1) h2
  have hil:i<l.length:=by rw [hlen,←R.size];exact hib
  obtain ⟨si,hsi⟩:∃ si,l[i]? = some si:=⟨l[i],List.getElem?_eq_getElem hil⟩
  obtain ⟨o',ho',hcsi⟩:=hcs i si hsi
  rw [ho] at ho';injection ho' with ho';subst ho'
  obtain ⟨_,hdst,hdlt,_⟩:=csop_ok hcsi
  have hanc:∀ j∈(ancs ops.toList []).getD i [],Lb.getD j false=true:=
    ancs_ok (L:=fun j=>Lb.getD j false=true) (fun j o h1 h2=>R.closed j o h1 h2) ops.toList [] (by simp) (by simp) i o ho (by simpa [←R.size] using hib) hedge'
  have hancL:∀ (j:Nat) oj,Lb.getD j false=true→ops[j]? = some oj→∀ j'∈(ancs ops.toList []).getD j [],Lb.getD j' false=true:=by
    intro j oj hj hoj
    refine ancs_ok (L:=fun j=>Lb.getD j false=true) (fun j o h1 h2=>R.closed j o h1 h2) ops.toList [] (by simp) (by simp) j oj hoj ?_ (R.closed j oj hj hoj)
    have:=(Array.getElem?_eq_some_iff.1 hoj).1
    simpa using this
  have hopsj:∀ (j:Nat) sj,l[j]? = some sj→∃ oj,ops[j]? = some oj:=fun j sj h=>by obtain ⟨oj,h1,_⟩:=hcs j sj h;exact ⟨oj,h1⟩
  obtain ⟨m,k,hmP,hmcd,hE,HH,hk,hk1,hk2,htm,hot⟩:=R.mem
  have hlook:∀ t∈si.looks,C m (lk (envT l vals st.env i) t) (a.tmps.getD t undef):=by
    intro t ht
    by_cases hex:∃ (j:Nat) (sj:SOp),j<i∧l[j]? = some sj∧sj.dst=some t
    · obtain ⟨j,sj,hji,hsj,hdj⟩:=hex
      obtain ⟨p1,p2,_,_⟩:=pair_lt (D.pair j i sj si hsj hsi) hji
      have hjL:=hanc j (p2 ⟨t,hdj,ht⟩)
      rw [envT_hit hsj hdj i hji (fun j' so h1 h2 h3=>(pair_lt (D.pair j j' sj so hsj h3) h1).1 t hdj)]
      exact htm j sj t hjL hsj hdj
    · rw [envT_miss i (fun j so h1 h2 h3=>hex ⟨j,so,h1,h2,h3⟩)]
      refine hot t (fun j sj hj hsj hd=>?_)
      rcases Nat.lt_trichotomy j i with h | h | h
      · exact hex ⟨j,sj,h,hsj,hd⟩
      · subst h;rw [hif] at hj;cases hj
      · obtain ⟨oj,hoj⟩:=hopsj j sj hsj
        have:=hancL j oj hj hoj i (pair_gt (D.pair j i sj si hsj hsi) h t hd ht)
        rw [hif] at this;cases this
  let env':=si.looks.map fun t=>(t,lk (envT l vals st.env i) t)
  have henv':∀ t∈si.looks,lk env' t=lk (envT l vals st.env i) t:=by
    have key:∀ (q:List Nat) t,t∈q→lk (q.map fun t=>(t,lk (envT l vals st.env i) t)) t=lk (envT l vals st.env i) t:=by
      intro q
      induction q with
      | nil=>intro t h;simp at h
      | cons x q ih=>
        intro t h
        simp only [List.map_cons,lk]
        by_cases hx:x=t
        · rw [if_pos hx,hx]
        · rw [if_neg hx];exact ih t ((List.mem_cons.1 h).resolve_left (fun e=>hx e.symm))
    exact key si.looks
  have hEnv:EnvOk m env' a.tmps:=by
    intro t
    by_cases ht:t∈si.looks
    · rw [henv' t ht];exact hlook t ht
    · have key:∀ (q:List Nat),t ∉ q→lk (q.map fun t=>(t,lk (envT l vals st.env i) t)) t=.unk:=by
        intro q
        induction q with
        | nil=>intro _;rfl
        | cons x q ih=>
          intro h
          simp only [List.map_cons,lk]
          rw [if_neg (fun e=>h (by simp [e]))]
          exact ih (fun e=>h (by simp [e]))
      show C m (lk env' t) _
      rw [key si.looks ht]
      simp [C]
  by_cases hik:bs[i]? = some true
  · have hD:=hkd i si hsi hik
    obtain ⟨k',vs,hps',as,hop,hw,hcal,hsub,hdies⟩:=hD
    have hh:si.op.heavy=true:=by rw [hop];rfl
    have hki:k≤i:=by
      rcases Nat.lt_or_ge i k with h | h
      · have:=hk1 i si h hsi hh
        rw [hif] at this;cases this
      · exact h
    have hlight:∀ (j:Nat) sj,k≤j→j<i→l[j]? = some sj→sj.op.heavy=false:=by
      intro j sj h1 h2 hsj
      cases hq:sj.op.heavy with
      | false=>rfl
      | true=>
        have e1:=hanc j ((pair_lt (D.pair j i sj si hsj hsi) h2).2.2.1 hq hh)
        have e2:=hk2 j sj h1 hsj hq
        rw [e1] at e2;cases e2
    have heq:hps i=hps k:=hps_constF hsF hki (by omega) hlight
    rw [←heq] at HH
    refine die_ok (st:=⟨env',hps i,st.lo,st.mks⟩) hmP hmcd hcsi ho HH hEnv (by show wanted env' si.guard=some true;rw [wanted_same henv'];exact hw) (by rw [callee_same si.op (fun t ht=>henv' t (by simp [SOp.looks,ht]))];exact hcal) hsub hdies ?_
    intro t u m' w' hE' HH'
    exact hdie t u m' _ w' (hE.trans hE') HH'
  have hstep:=hne i si hsi hik
  have go:∀ (kn:Nat) (hpn:List Blk),hpn=hps kn→Step P fid true si ⟨env',hps k,st.lo,st.mks⟩ (vals i) hpn→kn≤l.length →
      (∀ (j:Nat) sj,j<kn→l[j]? = some sj→sj.op.heavy=true→(Lb.setIfInBounds i true).getD j false=true)→(∀ (j:Nat) sj,kn≤j→l[j]? = some sj→sj.op.heavy=true→(Lb.setIfInBounds i true).getD j false=false)→wpOpIn (FF ro) n P ops Q i K a w:=by
    intro kn hpn hhp hst hkn hk1' hk2'
    refine step_ok (st:=⟨env',hps k,st.lo,st.mks⟩) hmP hmcd hcsi ho HH hEnv hst ?_
    intro m' u w' hE' hC' HH'
    apply hK _ _ hik
    have hput:∀ t,(a.put o.dst u).tmps.getD t undef=if o.dst=some t then u else a.tmps.getD t undef:=by
      intro t
      cases hd:o.dst with
      | none=>simp [Act.put]
      | some d=>
        have hdn:d<a.tmps.size:=Nat.lt_of_lt_of_le (hdlt d hd) R.n
        simp only [Act.put]
        rw [Array.getD_eq_getD_getElem?,Array.getD_eq_getD_getElem?,Array.getElem?_setIfInBounds]
        by_cases hdt:d=t
        · subst hdt;simp [hdn]
        · rw [if_neg hdt,if_neg (by simpa using hdt)]
    refine ⟨by simp [R.size],?_,⟨m',kn,hE'.le.P.trans hmP,hE'.le.cd.trans hmcd,hE.trans hE',by rw [←hhp];exact HH',hkn,hk1',hk2',?_,?_⟩,?_,?_⟩
    · intro j oj hj hoj e he
      rw [getD_set hib] at hj ⊢
      by_cases hei:e=i
      · rw [if_pos hei]
      · rw [if_neg hei]
        by_cases hji:j=i
        · subst hji
          rw [ho] at hoj;injection hoj with hoj;subst hoj
          exact hedge' e he
        · rw [if_neg hji] at hj
          exact R.closed j oj hj hoj e he
    · intro j sj t hj hsj hd
      rw [hput]
      by_cases hji:j=i
      · subst hji
        rw [hsi] at hsj;injection hsj with hsj;subst hsj
        rw [←hdst,if_pos hd]
        exact hC'
      · rw [getD_set hib,if_neg hji] at hj
        rw [if_neg]
        · exact C_mono hE'.le _ _ (htm j sj t hj hsj hd)
        · rw [←hdst]
          rcases Nat.lt_or_gt_of_ne hji with h | h
          · exact (pair_lt (D.pair j i sj si hsj hsi) h).1 t hd
          · intro e;exact (pair_lt (D.pair i j si sj hsi hsj) h).1 t e hd
    · intro s hno
      rw [hput]
      have hne:o.dst≠some s:=by
        rw [←hdst]
        exact hno i si (by rw [getD_set hib,if_pos rfl]) hsi
      rw [if_neg hne]
      refine C_mono hE'.le _ _ (hot s (fun j sj hj hsj=>hno j sj ?_ hsj))
      rw [getD_set hib]
      split
      · rfl
      · exact hj
    · have:=R.n
      cases o.dst<;>simpa [Act.put] using this
    · have:=R.d
      cases o.dst<;>simpa [Act.put] using this
  by_cases hh:si.op.heavy=true
  ·
    have hki:k≤i:=by
      rcases Nat.lt_or_ge i k with h | h
      · have:=hk1 i si h hsi hh
        rw [hif] at this;cases this
      · exact h
    have hlight:∀ (j:Nat) sj,k≤j→j<i→l[j]? = some sj→sj.op.heavy=false:=by
      intro j sj h1 h2 hsj
      cases hq:sj.op.heavy with
      | false=>rfl
      | true=>
        have e1:=hanc j ((pair_lt (D.pair j i sj si hsj hsi) h2).2.2.1 hq hh)
        have e2:=hk2 j sj h1 hsj hq
        rw [e1] at e2;cases e2
    have heq:hps i=hps k:=hps_constF hsF hki (by omega) hlight
    rw [heq] at hstep
    refine go (i+1) _ rfl (step_env hstep henv') (by omega) ?_ ?_
    · intro j sj hj hsj hq
      rw [getD_set hib]
      split
      · rfl
      · rename_i hji
        exact hanc j ((pair_lt (D.pair j i sj si hsj hsi) (by omega)).2.2.1 hq hh)
    · intro j sj hj hsj hq
      rw [getD_set hib,if_neg (by omega)]
      cases hL:Lb.getD j false with
      | false=>rfl
      | true=>
        obtain ⟨oj,hoj⟩:=hopsj j sj hsj
        have:=hancL j oj hL hoj i ((pair_lt (D.pair i j si sj hsi hsj) (by omega)).2.2.1 hh hq)
        rw [hif] at this;cases this
  · have hh:si.op.heavy=false:=by simpa using hh
    have hgrow:si.op.isLoad=true→∀ (j:Nat) sj,l[j]? = some sj→(k≤j∧j<i∨i≤j∧j<k∧sj.freshApp l i j=false)→sj.op.heavy=true→sj.op.grows=true∨sj.farApp chk si l j=true:=by
      intro hload j sj hsj hrange hheavy
      cases hq:sj.op.grows with
      | true=>exact .inl rfl
      | false=>
        cases hfa2:sj.farApp chk si l j with
        | true=>exact .inr rfl
        | false=>
        exfalso
        rcases hrange with ⟨h1,h2⟩ | ⟨h1,h2,hfa⟩
        · have e1:=hanc j ((pair_lt (D.pair j i sj si hsj hsi) h2).2.2.2 (.inl ⟨hheavy,hq,hload,hfa2⟩))
          have e2:=hk2 j sj h1 hsj hheavy
          rw [e1] at e2;cases e2
        · by_cases hji:j=i
          · subst hji
            rw [hsi] at hsj;injection hsj with hsj;subst hsj
            rw [hh] at hheavy;cases hheavy
          · have e1:=hk1 j sj h2 hsj hheavy
            obtain ⟨oj,hoj⟩:=hopsj j sj hsj
            have:=hancL j oj e1 hoj i ((pair_lt (D.pair i j si sj hsi hsj) (by omega)).2.2.2 (.inr ⟨hload,hheavy,hq,hfa,hfa2⟩))
            rw [hif] at this;cases this
    have hplain:=D.plain i si hsi
    have hopd:∀ x:SX,x.plain=true→(∀ t∈x.tmps,t∈si.looks)→∀ id∈(St.ev ⟨envT l vals st.env i,hps i,st.lo,st.mks⟩ x).ids,id<(hps k).length:=by
      intro x hx ht id hid
      rw [←HH.len]
      cases x with
      | val v=>
        simp only [SX.plain,List.isEmpty_iff] at hx
        simp only [St.ev] at hid
        rw [hx] at hid;cases hid
      | tmp t=>exact C_ids _ _ (hlook t (ht t (by simp [SX.tmps]))) id hid
    have hopdL:∀ xs:List SX,xs.all SX.plain=true→(∀ t∈xas xs,t∈si.looks)→∀ id∈idsL (xs.map (St.ev ⟨envT l vals st.env i,hps i,st.lo,st.mks⟩)),id<(hps k).length:=by
      intro xs
      induction xs with
      | nil=>intro _ _ id h;simp [idsL] at h
      | cons x xs ih=>
        intro hx ht id h
        simp only [List.all_cons,Bool.and_eq_true] at hx
        simp only [List.map_cons,idsL,List.mem_append] at h
        rcases h with h | h
        · exact hopd x hx.1 (fun t h=>ht t (by simp [xas,h])) id h
        · exact ih hx.2 (fun t h=>ht t (by simp [xas,h])) id h
    have hread:si.op.isLoad=true→∀ id∈si.op.reads (St.ev ⟨envT l vals st.env i,hps i,st.lo,st.mks⟩),id<(hps k).length:=by
      intro hload id hid
      cases hop:si.op with
      | load u q x=>rw [hop] at hid hplain;exact hopd x hplain (fun t h=>by simp [SOp.looks,hop,SO.tmps,h]) id hid
      | len q x=>rw [hop] at hid hplain;exact hopd x hplain (fun t h=>by simp [SOp.looks,hop,SO.tmps,h]) id hid
      | isnil q x=>rw [hop] at hid hplain;exact hopd x hplain (fun t h=>by simp [SOp.looks,hop,SO.tmps,h]) id hid
      | indexAddr q x y=>rw [hop] at hid hplain;exact hopd x hplain (fun t h=>by simp [SOp.looks,hop,SO.tmps,h]) id hid
      | slice q x y z u=>rw [hop] at hid hplain;exact hopd x hplain (fun t h=>by simp [SOp.looks,hop,SO.tmps,h]) id hid
      | look q kc z ok x y=>rw [hop] at hid hplain;exact hopd x hplain (fun t h=>by simp [SOp.looks,hop,SO.tmps,h]) id hid
      | call md q as=>rw [hop] at hid hplain;exact hopdL as hplain (fun t h=>by simp [SOp.looks,hop,SO.tmps,h]) id hid
      | callf md x as=>
        rw [hop] at hid hplain
        simp only [SO.loadsPlain,Bool.and_eq_true] at hplain
        simp only [SO.reads,List.mem_append] at hid
        rcases hid with hid | hid
        · exact hopd x hplain.1 (fun t h=>by simp [SOp.looks,hop,SO.tmps,h]) id hid
        · exact hopdL as hplain.2 (fun t h=>by simp [SOp.looks,hop,SO.tmps,h]) id hid
      | _=>rw [hop] at hload;simp [SO.isLoad] at hload
    have hfar:∀ id∈si.op.reads (St.ev ⟨envT l vals st.env i,hps i,st.lo,st.mks⟩),∀ (j:Nat) sj,l[j]? = some sj→sj.farApp chk si l j=true→(∃ sz bytes s u,sj.op=.append sz bytes (.tmp s) (.tmp u)∧litAt l j u=true∧id ∉ (lk (envT l vals st.env j) s).ids)∨(∃ k as,sj.op=.call .mem k as∧sj.guard=none∧id ∉ idsL (as.map (St.ev ⟨envT l vals st.env j,hps j,st.lo,st.mks⟩)))∨(∃ k as,sj.op=.call .allk k as∧sj.guard=none∧id∈idsL (as.map (St.ev ⟨envT l vals st.env j,hps j,st.lo,st.mks⟩)))∨∃ n s u,sj.op=.store false n (.tmp s) (.tmp u)∧(lk (envT l vals st.env j) u).ids=[]∧id ∉ (lk (envT l vals st.env j) s).ids:=by
      intro id hid j sj hsj hf
      unfold SOp.farApp at hf
      simp only [Bool.and_eq_true] at hf
      obtain ⟨hf1,hf2⟩:=hf
      have keyS:∀ s,s<1000000→s∈sj.looks→(∀ t∈si.op.tmps,(s,t)∈chk)→id ∉ (lk (envT l vals st.env j) s).ids:=by
        intro s hs6 hsl hall hm
        have key:∀ x:SX,x.plain=true→(∀ t∈x.tmps,t∈si.op.tmps)→id ∉ (St.ev ⟨envT l vals st.env i,hps i,st.lo,st.mks⟩ x).ids:=by
          intro x hx ht hix
          cases x with
          | val v=>
            simp only [SX.plain,List.isEmpty_iff] at hx
            simp only [St.ev] at hix
            rw [hx] at hix;cases hix
          | tmp t=>
            have htt:=ht t (by simp [SX.tmps])
            have hc:=hall t htt
            have hchk:=chk_far hchk hc hs6
            have e1:=env_late D hlen (vals:=vals) (env:=st.env) hsi (t:=t) (by simp [SOp.looks,htt]) ⟨_,hc,.inr (.inl rfl)⟩ l.length (by omega) (Nat.le_refl _)
            have e2:=env_late D hlen (vals:=vals) (env:=st.env) hsj (t:=s) hsl ⟨_,hc,.inl rfl⟩ l.length (Nat.le_of_lt (List.getElem?_eq_some_iff.1 hsj).1) (Nat.le_refl _)
            have:=hchk id (by rw [e2];exact hm)
            apply this
            rw [e1]
            exact hix
        cases hop2:si.op with
        | load u q x=>rw [hop2] at hid hplain;exact key x hplain (fun t h=>by simp [hop2,SO.tmps,h]) hid
        | len q x=>rw [hop2] at hid hplain;exact key x hplain (fun t h=>by simp [hop2,SO.tmps,h]) hid
        | isnil q x=>rw [hop2] at hid hplain;exact key x hplain (fun t h=>by simp [hop2,SO.tmps,h]) hid
        | indexAddr q x y=>rw [hop2] at hid hplain;exact key x hplain (fun t h=>by simp [hop2,SO.tmps,h]) hid
        | slice q x y z u=>rw [hop2] at hid hplain;exact key x hplain (fun t h=>by simp [hop2,SO.tmps,h]) hid
        | _=>rw [hop2] at hf1;cases hf1
      split at hf2
      · rename_i sz bytes s u hop
        simp only [Bool.and_eq_true,List.all_eq_true,List.contains_iff_mem,decide_eq_true_eq] at hf2
        obtain ⟨hlu,hs6,hall⟩:=hf2
        exact .inl ⟨sz,bytes,s,u,hop,hlu,keyS s hs6 (by simp [SOp.looks,hop,SO.tmps,SX.tmps]) hall⟩
      · rename_i k as hop
        simp only [Bool.and_eq_true,Option.isNone_iff_eq_none,List.all_eq_true] at hf2
        obtain ⟨hgd,hall⟩:=hf2
        refine .inr (.inl ⟨k,as,hop,hgd,?_⟩)
        have key2:∀ (xs:List SX),(∀ x∈xs,x∈as)→(∀ t,t∈xas xs→t∈sj.looks)→id ∉ idsL (xs.map (St.ev ⟨envT l vals st.env j,hps j,st.lo,st.mks⟩)):=by
          intro xs
          induction xs with
          | nil=>intro _ _ hi;simp [idsL] at hi
          | cons x xs ihx=>
            intro hsub htm hi
            simp only [List.map_cons,idsL,List.mem_append] at hi
            rcases hi with hi | hi
            · have hx:=hall x (hsub x (by simp))
              cases x with
              | val v=>
                simp only [List.isEmpty_iff] at hx
                simp only [St.ev] at hi
                rw [hx] at hi;cases hi
              | tmp s=>
                simp only [List.all_eq_true,List.contains_iff_mem,Bool.and_eq_true,decide_eq_true_eq] at hx
                exact keyS s hx.1 (htm s (by simp [xas,SX.tmps])) hx.2 hi
            · exact ihx (fun y hy=>hsub y (by simp [hy])) (fun t ht=>htm t (by simp [xas,ht])) hi
        exact key2 as (fun _ h=>h) (fun t ht=>by simp [SOp.looks,hop,SO.tmps,ht])
      · rename_i k as hop
        simp only [Bool.and_eq_true,Option.isNone_iff_eq_none,List.any_eq_true] at hf2
        obtain ⟨hgd,x,hxm,hx⟩:=hf2
        refine .inr (.inr (.inl ⟨k,as,hop,hgd,?_⟩))
        cases x with
        | val v=>cases hx
        | tmp s=>
          simp only [List.all_eq_true,List.contains_iff_mem] at hx
          have hsl:s∈sj.looks:=by
            have:s∈xas as:=xas_mem hxm (by simp [SX.tmps])
            simp [SOp.looks,hop,SO.tmps,this]
          have key:∀ x:SX,x.plain=true→(∀ t∈x.tmps,t∈si.op.tmps)→id∈(St.ev ⟨envT l vals st.env i,hps i,st.lo,st.mks⟩ x).ids→id∈(lk (envT l vals st.env j) s).ids:=by
            intro x hx2 ht hix
            cases x with
            | val v=>
              simp only [SX.plain,List.isEmpty_iff] at hx2
              simp only [St.ev] at hix
              rw [hx2] at hix;cases hix
            | tmp t=>
              have htt:=ht t (by simp [SX.tmps])
              have hc:=hx t htt
              have e1:=env_late D hlen (vals:=vals) (env:=st.env) hsi (t:=t) (by simp [SOp.looks,htt]) ⟨_,hc,.inr (.inl rfl)⟩ l.length (by omega) (Nat.le_refl _)
              have e2:=env_late D hlen (vals:=vals) (env:=st.env) hsj (t:=s) hsl ⟨_,hc,.inr (.inr rfl)⟩ l.length (Nat.le_of_lt (List.getElem?_eq_some_iff.1 hsj).1) (Nat.le_refl _)
              have:=chk_sub hchk hc id (by rw [e1];exact hix)
              rw [e2] at this
              exact this
          have hin:id∈(lk (envT l vals st.env j) s).ids:=by
            cases hop2:si.op with
            | load u q x=>rw [hop2] at hid hplain;exact key x hplain (fun t h=>by simp [hop2,SO.tmps,h]) hid
            | len q x=>rw [hop2] at hid hplain;exact key x hplain (fun t h=>by simp [hop2,SO.tmps,h]) hid
            | isnil q x=>rw [hop2] at hid hplain;exact key x hplain (fun t h=>by simp [hop2,SO.tmps,h]) hid
            | indexAddr q x y=>rw [hop2] at hid hplain;exact key x hplain (fun t h=>by simp [hop2,SO.tmps,h]) hid
            | slice q x y z u=>rw [hop2] at hid hplain;exact key x hplain (fun t h=>by simp [hop2,SO.tmps,h]) hid
            | _=>rw [hop2] at hf1;cases hf1
          exact idsL_mem (x:=St.ev ⟨envT l vals st.env j,hps j,st.lo,st.mks⟩ (.tmp s)) (List.mem_map_of_mem hxm) hin
      · rename_i n s u hop
        simp only [Bool.and_eq_true,List.all_eq_true,List.contains_iff_mem,decide_eq_true_eq] at hf2
        obtain ⟨⟨hv6,hvv⟩,hs6,hall⟩:=hf2
        refine .inr (.inr (.inr ⟨n,s,u,hop,?_,keyS s hs6 (by simp [SOp.looks,hop,SO.tmps,SX.tmps]) hall⟩))
        have e2:=env_late D hlen (vals:=vals) (env:=st.env) hsj (t:=u) (by simp [SOp.looks,hop,SO.tmps,SX.tmps]) ⟨_,hvv,.inl rfl⟩ l.length (Nat.le_of_lt (List.getElem?_eq_some_iff.1 hsj).1) (Nat.le_refl _)
        have this:=chk_far hchk hvv hv6
        rw [e2] at this
        cases hi:(lk (envT l vals st.env j) u).ids with
        | nil=>rfl
        | cons a t=>exact absurd (by rw [hi];simp) (this a (by rw [hi];simp))
      · cases hf2
    have hdd:∀ (p q:Nat) sp sq,l[p]? = some sp→l[q]? = some sq→p<q→∀ d,sp.dst=some d→sq.dst≠some d:=fun p q sp sq h1 h2 h3 d h4=>(pair_lt (D.pair p q sp sq h1 h2) h3).1 d h4
    have hA:si.op.isLoad=true→∀ id∈si.op.reads (St.ev ⟨envT l vals st.env i,hps i,st.lo,st.mks⟩),∀ b,(hps i)[id]? = some b→(hps k)[id]? = some b:=by
      intro hload id hid b hb
      have hlt:=hread hload id hid
      rcases Nat.le_total k i with hki | hik
      · obtain ⟨_,hq⟩:=hps_keepF (id:=id) hsF hdd i hki (by omega) (fun j sj q1 q2 hsj hhv=>by
          rcases hgrow hload j sj hsj (.inl ⟨q1,q2⟩) hhv with h | h
          · exact .inl h
          · rcases hfar id hid j sj hsj h with h | h
            · exact .inr (.inr (.inl h))
            · exact .inr (.inr (.inr h)))
        rw [hq hlt] at hb
        exact hb
      · obtain ⟨_,hq⟩:=hps_keepF (id:=id) hsF hdd k hik (by omega) (fun j sj q1 q2 hsj hhv=>by
          cases hfa:sj.freshApp l i j with
          | true=>exact .inr (.inl rfl)
          | false=>
            rcases hgrow hload j sj hsj (.inr ⟨q1,q2,hfa⟩) hhv with h | h
            · exact .inl h
            · rcases hfar id hid j sj hsj h with h | h
              · exact .inr (.inr (.inl h))
              · exact .inr (.inr (.inr h)))
        rw [hq (List.getElem?_eq_some_iff.1 hb).1]
        exact hb
    obtain ⟨e1,e2⟩:=step_light (hp2:=hps k) (lo':=st.lo) (mk':=st.mks) hh hstep henv' hA
    refine go k _ rfl e2 hk ?_ ?_
    · intro j sj hj hsj hq
      rw [getD_set hib]
      split
      · rfl
      · exact hk1 j sj hj hsj hq
    · intro j sj hj hsj hq
      rw [getD_set hib,if_neg]
      · exact hk2 j sj hj hsj hq
      · rintro rfl
        rw [hsi] at hsj;injection hsj with hsj;subst hsj
        rw [hh] at hq;cases hq
theorem draw_dies {chk:List (Nat × Nat)} {ops:Array Oper} {l:List SOp} (hD:drawOk chk ops l=true) (hlen:l.length=ops.size) (hcs:∀ (i:Nat) so,l[i]? = some so→∃ o,ops[i]? = some o∧csop P fid nt ops o=some so.base)
    {st st':St} {m0:Mem} {a0:Act} {w00:World} {bs:List Bool} (hb:true∈bs) (ht:TraceF P fid bs l st st') (hchk:chkOk chk st'.env=true) (S:SInv P fid fr0 fr w0 nt m0 st a0 w00) {Q:Exit→Act→World→Prop}
    (hQ:∀ t u m' a' hp' w',Ext fr m0 m'→HInv fr w0 m' hp' w' []→a'.defers=a0.defers→Q (.panic (thrown t u)) a' w'):wpAnyIn (FF ro) n P .any ops Q ops.size (Array.replicate ops.size false) a0 w00.drew:=by
  obtain ⟨vals,hps,h0,hlb,hne,hhk,rfl⟩:=trace_fnF ht
  obtain ⟨kd,hkb⟩:=List.getElem?_of_mem hb
  have hkl:kd<l.length:=by rw [←hlb];exact (List.getElem?_eq_some_iff.1 hkb).1
  have hsF:∀ (i:Nat) so,l[i]? = some so→StepF P fid so ⟨envT l vals st.env i,hps i,st.lo,st.mks⟩ (vals i) (hps (i+1)):=by
    intro i so h
    by_cases e:bs[i]? = some true
    · exact .inr (hhk i so h e)
    · exact .inl (hne i so h e)
  have D:=drawn_of hD hlen
  have fin:∀ Lb a w,RI P fid fr w0 nt ops l vals hps st m0 a0.defers Lb a w→Lb.getD kd false=false→Region.ready .any ops Lb=[]→Q .normal a w:=by
    intro Lb a w R hL hr
    have hall:=ready_all D.edge R.size hr
    have:=hall kd (by omega)
    rw [hL] at this;cases this
  have main:∀ fuel Lb a w,RI P fid fr w0 nt ops l vals hps st m0 a0.defers Lb a w→Lb.getD kd false=false→ops.size≤fuel+Lb.toList.count true→wpAnyIn (FF ro) n P .any ops Q fuel Lb a w:=by
    intro fuel
    induction fuel with
    | zero=>
      intro Lb a w R hL hc
      have hr:Region.ready .any ops Lb=[]:=by
        cases hq:Region.ready .any ops Lb with
        | nil=>rfl
        | cons i q=>
          exfalso
          obtain ⟨hun,_⟩:=mem_ready.1 (show i∈Region.ready .any ops Lb by rw [hq];simp)
          obtain ⟨hib,hif⟩:=getD_true hun
          have h1:=count_set hib hif
          have h2:(Lb.setIfInBounds i true).toList.count true≤(Lb.setIfInBounds i true).toList.length:=List.count_le_length
          have h3:(Lb.setIfInBounds i true).toList.length=Lb.size:=by simp
          rw [h1,h3] at h2
          have:=R.size
          omega
      exact ⟨hr,fin Lb a w R hL hr⟩
    | succ fuel ih=>
      intro Lb a w R hL hc
      refine ⟨fun hr=>fin Lb a w R hL hr,fun i hi=>?_⟩
      obtain ⟨hun,_⟩:=mem_ready.1 hi
      obtain ⟨hib,hif⟩:=getD_true hun
      refine draw_stepF D hlen hcs hsF hne (fun i so h e=>(hhk i so h e).2) hchk R hi (fun t u m' hp' w' h1 h2=>hQ t u m' a hp' w' h1 h2 R.d) ?_
      intro a' w' hik R'
      refine ih _ a' w' R' (by rw [getD_set hib,if_neg (fun e=>hik (by rw [←e];exact hkb))];exact hL) ?_
      rw [count_set hib hif]
      omega
  have hfalse:∀ j,(Array.replicate ops.size false).getD j false=false:=by
    intro j
    rw [Array.getD_eq_getD_getElem?,Array.getElem?_replicate]
    split<;>rfl
  refine main ops.size _ a0 w00.drew ?_ (hfalse kd) (by omega)
  refine ⟨by simp,?_,⟨m0,0,S.P,S.cd,Ext.refl _ _,by rw [h0];exact S.h.drew,Nat.zero_le _,?_,?_,?_,?_⟩,S.n,rfl⟩
  · intro j o h;rw [hfalse] at h;cases h
  · intro j sj h;omega
  · intro j sj _ _ _;exact hfalse j
  · intro j sj t h;rw [hfalse] at h;cases h
  · intro s _;exact S.e s
end
section
variable {P:Program} {fid:FuncId→Option Nat} {T:Nat→Option Entry}
theorem EvO_traceD (G:Good P fid T) {l:List SOp} {st:St} {Q:St→Prop} (h:EvO T true l st Q):∃ st',Trace P fid true l st st'∧Q st':=by
  obtain ⟨r,hr,hq⟩:=h
  obtain ⟨n,hn⟩:=run_some.1 hr
  obtain ⟨_,h2⟩:=says G n _ _ hn
  exact ⟨r.2,h2,hq⟩
def DrF (P:Program) (fid:FuncId→Option Nat) (chk:List (Nat × Nat)) (l:List SOp) (st:St):Prop:=∃ bs st',TraceF P fid bs l st st'∧chkOk chk st'.env=true
theorem DrF_run (G:Good P fid T) (n:Nat) {chk:List (Nat × Nat)} {l:List SOp} {st:St} (h:EvO T true (l.take n) st (fun st1=>DrF P fid chk (l.drop n) st1)):DrF P fid chk l st:=by
  obtain ⟨st1,t1,bs,st',t2,hc⟩:=EvO_traceD G h
  have:=TraceF.app t1 t2
  rw [List.take_append_drop] at this
  exact ⟨_,st',this,hc⟩
theorem DrF_end {chk:List (Nat × Nat)} {st:St} (h:chkOk chk st.env=true):DrF P fid chk [] st:=⟨[],st,.nil,h⟩
theorem D_opsC (G:Good P fid T) (n:Nat) (v:AV) {chk:List (Nat × Nat)} {l:List SOp} {so:SOp} {st:St} (hso:l[n]? = some so) (h:EvO T true (l.take n) st (fun st1=>DieAt P fid so st1∧DrF P fid chk (l.drop (n+1)) (st1.put so.dst v st1.hp))):DiesS P fid (.opsC chk l) st:=by
  have e:l=l.take n++so::l.drop (n+1):=by
    obtain ⟨h1,h2⟩:=List.getElem?_eq_some_iff.1 hso
    rw [←h2,List.getElem_cons_drop,List.take_append_drop]
  obtain ⟨st1,t1,hd,bs,st',t2,hc⟩:=EvO_traceD G h
  have ht:=TraceF.app t1 (TraceF.here hd t2)
  rw [←e] at ht
  intro c nt hcs fr0 fr w0 m a w ro hro S
  obtain ⟨id,ops,rfl,k1,k2,hdr,hmix⟩:=cc_opsC hcs
  refine wpIn_region_any hmix ?_
  refine draw_dies (fid:=fid) (fr0:=fr0) (fr:=fr) (w0:=w0) (nt:=nt) hdr k1 k2 (by simp) ht hc S ?_
  intro t u m' a' hp' w' hE H hdf
  exact Dead.of S hE H hdf t u
end
end Go.Proofs.Ytgdfncnpcdafmaa
