import Derived.Test.YtgdfncnpcdafmaaKx
import Derived.Test.YtgdfncnpcdafmaaJc
import Derived.Test.YtgdfncnpcdafmaaJr
namespace Go.Proofs.Ytgdfncnpcdafmaa
set_option linter.unusedSimpArgs false
set_option linter.unusedVariables false
def TLe (T T':Nat→Option Entry):Prop:=∀ k e,T k=some e→T' k=some e
section
variable {T T':Nat→Option Entry}
theorem callRes_up (h:TLe T T') {f:Job→Option Res} {k:Nat} {as:List AV} {hps:List Blk} {r:AV × List Blk} (hr:callRes f T k as hps=some r):callRes f T' k as hps=some r:=by
 unfold callRes at hr ⊢
 cases hT:T k with
 | none=>rw [hT] at hr;cases hr
 | some e=>rw [hT] at hr;rw [h k e hT];exact hr
theorem callOp_up (h:TLe T T') {f:Job→Option Res} {dr:Bool} {md:Md} {k:Nat} {vs:List AV} {d:Option Nat} {st:St} {r:Res} (hr:callOp f T dr md k vs d st=some r):callOp f T' dr md k vs d st=some r:=by
 cases md with
 | plain=>
  simp only [callOp,Option.bind_eq_some_iff] at hr ⊢
  obtain ⟨ps,h1,x,h2,h3⟩:=hr
  exact ⟨ps,h1,x,callRes_up h h2,h3⟩
 | quiet=>
  simp only [callOp,Option.bind_eq_some_iff] at hr ⊢
  obtain ⟨ps,h1,x,h2,h3⟩:=hr
  exact ⟨ps,h1,x,callRes_up h h2,h3⟩
 | mem=>
  simp only [callOp,Option.bind_eq_some_iff] at hr ⊢
  obtain ⟨hps,h1,x,h2,h3⟩:=hr
  exact ⟨hps,h1,x,callRes_up h h2,h3⟩
 | memp=>
  simp only [callOp,Option.bind_eq_some_iff] at hr ⊢
  obtain ⟨hp1,h0,hps,h1,x,h2,h3⟩:=hr
  exact ⟨hp1,h0,hps,h1,x,callRes_up h h2,h3⟩
 | all=>exact hr
 | allk=>exact hr
theorem F_up (h:TLe T T') {f:Job→Option Res} {j:Job} {r:Res} (hr:F T f j=some r):F T' f j=some r:=by
 rcases j with ⟨s,st⟩ | ⟨d,l,st⟩ | ⟨d,o,st⟩ | ⟨k,as,hp⟩ | ⟨id,vs,hp⟩
 ·cases s<;>exact hr
 ·cases l<;>exact hr
 ·simp only [F,Option.bind_eq_some_iff] at hr ⊢
  obtain ⟨go,h1,h2⟩:=hr
  refine ⟨go,h1,?_⟩
  cases go
  ·exact h2
  ·simp only [if_true] at h2 ⊢
   generalize hop:o.op=op at h2 ⊢
   cases op
   case call md k as=>exact callOp_up h h2
   case callf md x as=>
    simp only at h2 ⊢
    generalize st.ev x=v at h2 ⊢
    cases v
    case clo=>exact callOp_up h h2
    case yld=>exact h2
    all_goals cases h2
   case invoke md x ms as=>
    simp only at h2 ⊢
    split at h2
    ·rename_i t v hx
     simp only [hx,Option.bind_eq_some_iff] at h2 ⊢
     obtain ⟨q,h3,r1,h4,h5⟩:=h2
     exact ⟨q,h3,r1,h4,callOp_up h h5⟩
    ·cases h2
   all_goals exact h2
 ·simp only [F] at hr ⊢
  cases hT:T k with
  | none=>rw [hT] at hr;cases hr
  | some e=>rw [hT] at hr;rw [h k e hT];exact hr
 ·exact hr
theorem evn_up (h:TLe T T'):∀ (n:Nat) (j:Job) (r:Res),evn T n j=some r→evn T' n j=some r
 | 0,_,_,hr=>by cases hr
 | n+1,j,r,hr=>by
  have h1:F T (evn T n) j=some r:=hr
  have h2:F T (evn T' n) j=some r:=F_mono (evn_up h n) j r h1
  exact F_up h h2
theorem run_up (h:TLe T T') {j:Job} {r:Res} (hr:run T j=some r):run T' j=some r:=by
 obtain ⟨n,hn⟩:=run_some.1 hr
 exact run_some.2 ⟨n,evn_up h n j r hn⟩
theorem runP_up (h:TLe T T') {k:Nat} {as:List AV} {hps:List Blk} {r:AV × List Blk} (hr:runP T k as hps=some r):runP T' k as hps=some r:=
 callRes_up h (callRes_mono (fun j r hj=>run_up h hj) hr)
end
set_option maxHeartbeats 4000000
set_option maxRecDepth 100000
def gWholeG:List AV→List Blk→Option (AV × List Blk)
 | [.str s,.clo 1672 [] []],[]=>if s.length≤1000000 then some (.tup (wholeG s),[]) else none
 | _,_=>none
noncomputable def tabM:Nat→Option Entry:=fun k=>if k=1671 then some (.orc gWholeG) else tab k
theorem m1671:tabM 1671=some (.orc gWholeG):=rfl
theorem tabM_le:TLe tab tabM:=by
 intro k e h
 unfold tabM
 split
 ·rename_i hk;subst hk;rw [n1671] at h;cases h
 ·exact h
theorem up {k:Nat} {as:List AV} {hps:List Blk} {r:AV × List Blk} (h:runP tab k as hps=some r):runP tabM k as hps=some r:=runP_up tabM_le h
theorem whole_runM {s:Txt} (hs:s.length≤1000000):runP tabM 1671 [.str s,.clo 1672 [] []] []=some (.tup (wholeG s),[]):=by
 rw [runP_orc m1671]
 simp [gWholeG,hs]
theorem goodM_of {P:Program} (G:Good P fid tab) (N:NeedIs P) (hR:∀ f,fid f=some 1671→Catch P fid f 23 6 wA0 wR2 wR3 wR4 wR5 wB1 wB2 wRs):Good P fid tabM:=by
 intro f k e hf he
 unfold tabM at he
 split at he
 ·rename_i hk;subst hk;injection he with he;subst he
  refine ⟨(whole_graph G N (hR f hf) (s:=[]) (by simp)).1,fun as hps r h=>?_⟩
  unfold gWholeG at h
  split at h
  ·rename_i s
   split at h
   ·rename_i hs
    injection h with h;subst h
    exact (whole_graph G N (hR f hf) hs).2
   ·cases h
  ·cases h
 ·exact G f k e hf he
theorem parse_run {s:Txt} (hs:s.length≤1000000) (hok:∀ L,rdIm s=some (L,s.length)→okG (grPc L)):runP tabM 1666 [.str s] []=some (.tup (paA wdPc s),[]):=by
 refine runP_fn (show tabM 1666=some (.fn d1666) from t1666) rfl ?_
 have gw:=whole_runM hs
 unfold paA imA
 unfold wholeG at gw
 cases hr:rdIm s with
 | none=>
  rw [hr] at gw
  dsimp only at gw ⊢
  simp only [gV,prs00,wos00] at gw ⊢
  simp (disch:=omega) only [go_sem,d1666,gw]
 | some q=>
  obtain ⟨L,e⟩:=q
  rw [hr] at gw
  dsimp only at gw ⊢
  by_cases he:e=s.length
  ·subst he
   rw [if_pos rfl] at gw
   have gi:=up (isg_run (hok L hr))
   simp only [gS,grPc] at gi
   have ei:isB ⟨(L.length:Int),edPc 0 L,wdPc L⟩=isB (grPc L):=rfl
   rw [ei] at gi
   by_cases hb:isB (grPc L)=true
   ·rw [if_pos ⟨rfl,hb⟩]
    rw [hb] at gi
    simp only [gV] at gw ⊢
    generalize edPc 0 L=E at *
    generalize wdPc L=W at *
    simp (disch:=omega) only [go_sem,d1666,gw,gi]
   ·rw [if_neg fun h=>hb h.2]
    rw [show isB (grPc L)=false by simpa using hb] at gi
    simp only [gV,prs00,wos00] at gw ⊢
    generalize edPc 0 L=E at *
    generalize wdPc L=W at *
    simp (disch:=omega) only [go_sem,d1666,gw,gi]
  ·rw [if_neg he] at gw
   rw [if_neg fun h=>he h.1]
   simp only [gV,prs00,wos00] at gw ⊢
   simp (disch:=omega) only [go_sem,d1666,gw]
end Go.Proofs.Ytgdfncnpcdafmaa
