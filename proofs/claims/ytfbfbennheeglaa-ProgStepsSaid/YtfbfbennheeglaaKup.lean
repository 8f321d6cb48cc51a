import Derived.Test.YtfbfbennheeglaaKx
namespace Go.Proofs.Ytfbfbennheeglaa
set_option linter.unusedSimpArgs false
set_option linter.unusedVariables false
def TLe (T T':Nat→Option Entry):Prop:=∀ k e,T k=some e→T' k=some e
section
variable {T T':Nat→Option Entry}
theorem callRes_up (h:TLe T T') {f:Job→Option Res} {k:Nat} {as:List AV} {hps:List Blk} {r:AV × List Blk} (hr:callRes f T k as hps=some r):callRes f T' k as hps=some r:=by
 unfold callRes at hr ⊢
 cases hT:T k with
 |none=>rw [hT] at hr;cases hr
 |some e=>rw [hT] at hr;rw [h k e hT];exact hr
theorem callOp_up (h:TLe T T') {f:Job→Option Res} {dr:Bool} {md:Md} {k:Nat} {vs:List AV} {d:Option Nat} {st:St} {r:Res} (hr:callOp f T dr md k vs d st=some r):callOp f T' dr md k vs d st=some r:=by
 cases md with
 |plain=>
  simp only [callOp,obI] at hr ⊢
  obtain ⟨ps,h1,x,h2,h3⟩:=hr
  exact ⟨ps,h1,x,callRes_up h h2,h3⟩
 |quiet=>
  simp only [callOp,obI] at hr ⊢
  obtain ⟨ps,h1,x,h2,h3⟩:=hr
  exact ⟨ps,h1,x,callRes_up h h2,h3⟩
 |mem=>
  simp only [callOp,obI] at hr ⊢
  obtain ⟨hps,h1,x,h2,h3⟩:=hr
  exact ⟨hps,h1,x,callRes_up h h2,h3⟩
 |memp=>
  simp only [callOp,obI] at hr ⊢
  obtain ⟨hp1,h0,hps,h1,x,h2,h3⟩:=hr
  exact ⟨hp1,h0,hps,h1,x,callRes_up h h2,h3⟩
 |all=>exact hr
 |allk=>exact hr
theorem F_up (h:TLe T T') {f:Job→Option Res} {j:Job} {r:Res} (hr:F T f j=some r):F T' f j=some r:=by
 rcases j with ⟨s,st⟩ | ⟨d,l,st⟩ | ⟨d,o,st⟩ | ⟨k,as,hp⟩ | ⟨id,vs,hp⟩
 ·cases s<;>exact hr
 ·cases l<;>exact hr
 ·simp only [F,obI] at hr ⊢
  obtain ⟨go,h1,h2⟩:=hr
  refine ⟨go,h1,?_⟩
  cases go
  ·exact h2
  ·simp only [if_true] at h2 ⊢
   generalize hop:o.op=op at h2 ⊢
   cases op
   case call md k as=>exact callOp_up h h2
   case callf md x as=>
    simp only at h2 ⊢
    generalize st.ev x=v at h2 ⊢
    cases v
    case clo=>exact callOp_up h h2
    case yld=>exact h2
    all_goals cases h2
   case invoke md x ms as=>
    simp only at h2 ⊢
    split at h2
    ·rename_i t v hx
     simp only [hx,obI] at h2 ⊢
     obtain ⟨q,h3,r1,h4,h5⟩:=h2
     exact ⟨q,h3,r1,h4,callOp_up h h5⟩
    ·cases h2
   all_goals exact h2
 ·simp only [F] at hr ⊢
  cases hT:T k with
  |none=>rw [hT] at hr;cases hr
  |some e=>rw [hT] at hr;rw [h k e hT];exact hr
 ·exact hr
theorem evn_up (h:TLe T T'):∀ (n:Nat) (j:Job) (r:Res),evn T n j=some r→evn T' n j=some r
 |0,_,_,hr=>by cases hr
 |n+1,j,r,hr=>by
  have h1:F T (evn T n) j=some r:=hr
  have h2:F T (evn T' n) j=some r:=F_mono (evn_up h n) j r h1
  exact F_up h h2
theorem run_up (h:TLe T T') {j:Job} {r:Res} (hr:run T j=some r):run T' j=some r:=by
 obtain ⟨n,hn⟩:=run_some.1 hr
 exact run_some.2 ⟨n,evn_up h n j r hn⟩
theorem runP_up (h:TLe T T') {k:Nat} {as:List AV} {hps:List Blk} {r:AV × List Blk} (hr:runP T k as hps=some r):runP T' k as hps=some r:=
 callRes_up h (callRes_mono (fun j r hj=>run_up h hj) hr)
end
end Go.Proofs.Ytfbfbennheeglaa
