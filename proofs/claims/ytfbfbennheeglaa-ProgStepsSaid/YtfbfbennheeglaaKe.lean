import Derived.Test.YtfbfbennheeglaaKa
import Derived.Orders
import Derived.Below
import Derived.Lib.Hide
import Derived.Maps.AppendAt
namespace Go.Proofs.Ytfbfbennheeglaa
set_option linter.unusedSimpArgs false
set_option linter.unusedVariables false
section
variable {T:Nat→Option Entry} {f g:Job→Option Res}
theorem agree_some {x y:Option Res} {r:Res}:agree x y=some r↔x=some r∧y=some r:=by
 unfold agree
 split
 ·rename_i h;subst h;simp
 ·rename_i h
  constructor
  ·intro k;cases k
  ·rintro ⟨rfl,rfl⟩;exact absurd rfl h
theorem callRes_mono (h:∀ j r,f j=some r→g j=some r) {k:Nat} {as:List AV} {hps:List Blk} {r:AV × List Blk} (hr:callRes f T k as hps=some r):callRes g T k as hps=some r:=by
 unfold callRes at *
 split at hr
 ·exact hr
 ·rw [obI] at hr ⊢
  obtain ⟨x,h1,h2⟩:=hr
  exact ⟨x,h _ _ h1,h2⟩
 ·exact hr
theorem callOp_mono (h:∀ j r,f j=some r→g j=some r) {dr:Bool} {md:Md} {k:Nat} {vs:List AV} {d:Option Nat} {st:St} {r:Res} (hr:callOp f T dr md k vs d st=some r):callOp g T dr md k vs d st=some r:=by
 cases md<;>simp only [callOp,obI,omI] at hr ⊢
 ·obtain ⟨x,h3,y,h4,h5⟩:=hr;exact ⟨x,h3,y,callRes_mono h h4,h5⟩
 ·obtain ⟨x,h3,y,h4,h5⟩:=hr;exact ⟨x,h3,y,callRes_mono h h4,h5⟩
 ·obtain ⟨x,h3,y,h4,h5⟩:=hr;exact ⟨x,h3,y,callRes_mono h h4,h5⟩
 ·obtain ⟨q,h1,x,h3,y,h4,h5⟩:=hr;exact ⟨q,h1,x,h3,y,callRes_mono h h4,h5⟩
 ·obtain ⟨x,h3,h4⟩:=hr;exact ⟨x,h _ _ h3,h4⟩
 ·obtain ⟨x,h3,h4⟩:=hr;exact ⟨x,h _ _ h3,h4⟩
theorem F_mono (h:∀ j r,f j=some r→g j=some r):∀ j r,F T f j=some r→F T g j=some r:=by
 intro j r hr
 rcases j with ⟨s,st⟩ | ⟨d,l,st⟩ | ⟨d,o,st⟩ | ⟨k,as,hp⟩ | ⟨id,vs,hp⟩
 ·cases s with
  |skip=>exact hr
  |ops d l=>exact h _ _ hr
  |opsC chk l=>
   simp only [F,obI] at hr ⊢
   obtain ⟨x,h1,h2⟩:=hr
   exact ⟨x,h _ _ h1,h2⟩
  |scope b=>exact h _ _ hr
  |seq a b=>
   simp only [F,obI] at hr ⊢
   obtain ⟨x,h1,h2⟩:=hr
   refine ⟨x,h _ _ h1,?_⟩
   split at h2
   ·rename_i hx;rw [if_pos hx];exact h _ _ h2
   ·rename_i hx;rw [if_neg hx];exact h2
  |cond x a b=>
   simp only [F] at hr ⊢
   split at hr
   ·rename_i c hc
    cases c
    ·exact h _ _ hr
    ·exact h _ _ hr
   ·rename_i e c hc
    cases e
    ·simp only [Bool.false_eq_true,if_false] at hr ⊢
     cases c
     ·exact h _ _ hr
     ·exact h _ _ hr
    ·simp only [if_true,agree_some] at hr ⊢
     exact ⟨h _ _ hr.1,h _ _ hr.2⟩
   ·cases hr
  |block id b=>
   simp only [F,omI] at hr ⊢
   obtain ⟨x,h1,h2⟩:=hr
   exact ⟨x,h _ _ h1,h2⟩
  |loop b=>
   simp only [F,obI] at hr ⊢
   obtain ⟨x,h1,h2⟩:=hr
   refine ⟨x,h _ _ h1,?_⟩
   split at h2
   ·rename_i hx;rw [if_pos hx];exact h _ _ h2
   ·rename_i hx;rw [if_neg hx];exact h2
  |exit id=>exact hr
  |ret=>exact hr
  |rangef x ps asg body=>
   simp only [F] at hr ⊢
   split at hr
   ·simp only [obI] at hr ⊢
    obtain ⟨x,h1,h2⟩:=hr
    exact ⟨x,h _ _ h1,h2⟩
   ·cases hr
  |ghost q b=>
   simp only [F,obI] at hr ⊢
   obtain ⟨x,h1,h2⟩:=hr
   exact ⟨x,h1,h _ _ h2⟩
  |after b q=>
   simp only [F,obI] at hr ⊢
   obtain ⟨x,h1,h2⟩:=hr
   exact ⟨x,h _ _ h1,h2⟩
 ·cases l with
  |nil=>exact hr
  |cons o l=>
   simp only [F,obI] at hr ⊢
   obtain ⟨x,h1,h2⟩:=hr
   exact ⟨x,h _ _ h1,h _ _ h2⟩
 ·simp only [F,obI] at hr ⊢
  obtain ⟨go,h1,h2⟩:=hr
  refine ⟨go,h1,?_⟩
  cases go
  ·exact h2
  ·simp only [if_true] at h2 ⊢
   split at h2
   ·rename_i md k as hk
    try simp only [hk]
    exact callOp_mono h h2
   ·rename_i md x as hk
    try simp only [hk]
    split at h2
    ·exact callOp_mono h h2
    ·split at h2
     ·rename_i hm
      rw [if_pos hm]
      simp only [omI] at h2 ⊢
      obtain ⟨x,h3,h4⟩:=h2
      exact ⟨x,h _ _ h3,h4⟩
     ·cases h2
    ·cases h2
   ·rename_i md x ms as hk
    try simp only [hk]
    split at h2
    ·simp only [obI] at h2 ⊢
     obtain ⟨q,h3,r1,h4,h5⟩:=h2
     exact ⟨q,h3,r1,h4,callOp_mono h h5⟩
    ·cases h2
   ·exact h2
 ·simp only [F] at hr ⊢
  split at hr
  ·rename_i d hd
   split at hr
   ·rename_i hl
    rw [if_pos hl]
    simp only [obI] at hr ⊢
    obtain ⟨x,h1,h2⟩:=hr
    exact ⟨x,h _ _ h1,h2⟩
   ·cases hr
  ·exact hr
  ·cases hr
 ·simp only [F] at hr ⊢
  split at hr
  ·split at hr
   ·rename_i hl
    rw [if_pos hl]
    simp only [obI] at hr ⊢
    obtain ⟨x,h1,h2⟩:=hr
    refine ⟨x,h _ _ h1,?_⟩
    split at h2
    ·rename_i hx
     rw [if_pos hx]
     split at h2
     ·simp only [obI] at h2 ⊢
      obtain ⟨y,h3,h4⟩:=h2
      exact ⟨y,h _ _ h3,h4⟩
     ·cases h2
    ·cases h2
   ·cases hr
  ·cases hr
theorem evn_le {n m:Nat} (hnm:n≤m):∀ j r,evn T n j=some r→evn T m j=some r:=by
 induction n generalizing m with
 |zero=>intro j r h;cases h
 |succ n ih=>
  obtain ⟨k,rfl⟩:∃ k,m=k+1:=⟨m - 1,by omega⟩
  exact F_mono (ih (by omega))
noncomputable def run (T:Nat→Option Entry) (j:Job):Option Res:=
 open Classical in if h:∃ r n,evn T n j=some r then some h.choose else none
theorem run_some {j:Job} {r:Res}:run T j=some r↔∃ n,evn T n j=some r:=by
 unfold run
 constructor
 ·intro h
  split at h
  ·rename_i hx
   obtain ⟨n,hn⟩:=hx.choose_spec
   injection h with h
   exact ⟨n,h ▸ hn⟩
  ·cases h
 ·rintro ⟨n,hn⟩
  have hx:∃ r n,evn T n j=some r:=⟨r,n,hn⟩
  rw [dif_pos hx]
  obtain ⟨m,hm⟩:=hx.choose_spec
  have h1:=evn_le (Nat.le_max_left n m) _ _ hn
  have h2:=evn_le (Nat.le_max_right n m) _ _ hm
  rw [h1] at h2
  exact h2.symm
theorem run_two {a b:Job} {r s:Res} (h:run T a=some r) (k:run T b=some s):∃ n,evn T n a=some r∧evn T n b=some s:=by
 obtain ⟨n,hn⟩:=run_some.1 h
 obtain ⟨m,hm⟩:=run_some.1 k
 exact ⟨max n m,evn_le (Nat.le_max_left _ _) _ _ hn,evn_le (Nat.le_max_right _ _) _ _ hm⟩
theorem callRes_cont {k:Nat} {as:List AV} {hps:List Blk} {r:AV × List Blk} (hr:callRes (run T) T k as hps=some r):∃ n,callRes (evn T n) T k as hps=some r:=by
 unfold callRes at *
 split at hr
 ·exact ⟨0,hr⟩
 ·rw [obI] at hr
  obtain ⟨x,h1,h2⟩:=hr
  obtain ⟨n,hn⟩:=run_some.1 h1
  exact ⟨n,obI.2 ⟨x,hn,h2⟩⟩
 ·cases hr
theorem callOp_cont {dr:Bool} {md:Md} {k:Nat} {vs:List AV} {d:Option Nat} {st:St} {r:Res} (hr:callOp (run T) T dr md k vs d st=some r):∃ n,callOp (evn T n) T dr md k vs d st=some r:=by
 cases md<;>simp only [callOp,obI,omI] at hr ⊢
 ·obtain ⟨x,h3,y,h4,h5⟩:=hr;obtain ⟨n,hn⟩:=callRes_cont h4;exact ⟨n,x,h3,y,hn,h5⟩
 ·obtain ⟨x,h3,y,h4,h5⟩:=hr;obtain ⟨n,hn⟩:=callRes_cont h4;exact ⟨n,x,h3,y,hn,h5⟩
 ·obtain ⟨x,h3,y,h4,h5⟩:=hr;obtain ⟨n,hn⟩:=callRes_cont h4;exact ⟨n,x,h3,y,hn,h5⟩
 ·obtain ⟨q,h1,x,h3,y,h4,h5⟩:=hr;obtain ⟨n,hn⟩:=callRes_cont h4;exact ⟨n,q,h1,x,h3,y,hn,h5⟩
 ·obtain ⟨x,h3,h4⟩:=hr;obtain ⟨n,hn⟩:=run_some.1 h3;exact ⟨n,x,hn,h4⟩
 ·obtain ⟨x,h3,h4⟩:=hr;obtain ⟨n,hn⟩:=run_some.1 h3;exact ⟨n,x,hn,h4⟩
theorem F_cont {j:Job} {r:Res} (hr:F T (run T) j=some r):∃ n,F T (evn T n) j=some r:=by
 rcases j with ⟨s,st⟩ | ⟨d,l,st⟩ | ⟨d,o,st⟩ | ⟨k,as,hp⟩ | ⟨id,vs,hp⟩
 ·cases s with
  |skip=>exact ⟨0,hr⟩
  |ops d l=>exact run_some.1 hr
  |opsC chk l=>
   simp only [F,obI] at hr ⊢
   obtain ⟨x,h1,h2⟩:=hr
   obtain ⟨n,hn⟩:=run_some.1 h1
   exact ⟨n,x,hn,h2⟩
  |scope b=>exact run_some.1 hr
  |seq a b=>
   simp only [F,obI] at hr ⊢
   obtain ⟨x,h1,h2⟩:=hr
   split at h2
   ·rename_i hx
    obtain ⟨n,h3,h4⟩:=run_two h1 h2
    exact ⟨n,x,h3,by rw [if_pos hx];exact h4⟩
   ·rename_i hx
    obtain ⟨n,hn⟩:=run_some.1 h1
    exact ⟨n,x,hn,by rw [if_neg hx];exact h2⟩
  |cond x a b=>
   simp only [F] at hr ⊢
   split at hr
   ·rename_i c hc
    cases c
    ·exact run_some.1 hr
    ·exact run_some.1 hr
   ·rename_i e c hc
    cases e
    ·simp only [Bool.false_eq_true,if_false] at hr ⊢
     cases c
     ·exact run_some.1 hr
     ·exact run_some.1 hr
    ·simp only [if_true,agree_some] at hr ⊢
     exact run_two hr.1 hr.2
   ·cases hr
  |block id b=>
   simp only [F,omI] at hr ⊢
   obtain ⟨x,h1,h2⟩:=hr
   obtain ⟨n,hn⟩:=run_some.1 h1
   exact ⟨n,x,hn,h2⟩
  |loop b=>
   simp only [F,obI] at hr ⊢
   obtain ⟨x,h1,h2⟩:=hr
   split at h2
   ·rename_i hx
    obtain ⟨n,h3,h4⟩:=run_two h1 h2
    exact ⟨n,x,h3,by rw [if_pos hx];exact h4⟩
   ·rename_i hx
    obtain ⟨n,hn⟩:=run_some.1 h1
    exact ⟨n,x,hn,by rw [if_neg hx];exact h2⟩
  |exit id=>exact ⟨0,hr⟩
  |ret=>exact ⟨0,hr⟩
  |rangef x ps asg body=>
   simp only [F] at hr ⊢
   split at hr
   ·simp only [obI] at hr ⊢
    obtain ⟨x,h1,h2⟩:=hr
    obtain ⟨n,hn⟩:=run_some.1 h1
    exact ⟨n,x,hn,h2⟩
   ·cases hr
  |ghost q b=>
   simp only [F,obI] at hr ⊢
   obtain ⟨x,h1,h2⟩:=hr
   obtain ⟨n,hn⟩:=run_some.1 h2
   exact ⟨n,x,h1,hn⟩
  |after b q=>
   simp only [F,obI] at hr ⊢
   obtain ⟨x,h1,h2⟩:=hr
   obtain ⟨n,hn⟩:=run_some.1 h1
   exact ⟨n,x,hn,h2⟩
 ·cases l with
  |nil=>exact ⟨0,hr⟩
  |cons o l=>
   simp only [F,obI] at hr ⊢
   obtain ⟨x,h1,h2⟩:=hr
   obtain ⟨n,h3,h4⟩:=run_two h1 h2
   exact ⟨n,x,h3,h4⟩
 ·simp only [F,obI] at hr ⊢
  obtain ⟨go,h1,h2⟩:=hr
  cases go
  ·exact ⟨0,false,h1,h2⟩
  ·simp only [if_true] at h2
   split at h2
   ·rename_i md k as hk
    obtain ⟨n,hn⟩:=callOp_cont h2
    exact ⟨n,true,h1,by simp only [if_true];exact hn⟩
   ·rename_i md x as hk
    split at h2
    ·obtain ⟨n,hn⟩:=callOp_cont h2
     exact ⟨n,true,h1,by simp only [if_true];exact hn⟩
    ·split at h2
     ·rename_i hm
      simp only [omI] at h2
      obtain ⟨y,h3,h4⟩:=h2
      obtain ⟨n,hn⟩:=run_some.1 h3
      exact ⟨n,true,h1,by simp only [if_true,if_pos hm,omI];exact ⟨y,hn,h4⟩⟩
     ·cases h2
    ·cases h2
   ·rename_i md x ms as hk
    split at h2
    ·rename_i t v hx
     simp only [obI] at h2
     obtain ⟨q,h3,r1,h4,h5⟩:=h2
     obtain ⟨n,hn⟩:=callOp_cont h5
     exact ⟨n,true,h1,by simp only [if_true,obI];exact ⟨q,h3,r1,h4,hn⟩⟩
    ·cases h2
   ·exact ⟨0,true,h1,by simp only [if_true];exact h2⟩
 ·simp only [F] at hr ⊢
  split at hr
  ·rename_i d hd
   split at hr
   ·rename_i hl
    simp only [obI] at hr
    obtain ⟨x,h1,h2⟩:=hr
    obtain ⟨n,hn⟩:=run_some.1 h1
    exact ⟨n,by simp only [if_pos hl,obI];exact ⟨x,hn,h2⟩⟩
   ·cases hr
  ·exact ⟨0,hr⟩
  ·cases hr
 ·simp only [F] at hr ⊢
  split at hr
  ·split at hr
   ·rename_i hl
    simp only [obI] at hr
    obtain ⟨x,h1,h2⟩:=hr
    split at h2
    ·rename_i hx
     split at h2
     ·rename_i env ps asg body j hb
      simp only [obI] at h2
      obtain ⟨y,h3,h4⟩:=h2
      obtain ⟨n,h5,h6⟩:=run_two h1 h3
      refine ⟨n,?_⟩
      simp only [if_pos hl,obI]
      refine ⟨x,h5,?_⟩
      rw [if_pos hx,hb]
      simp only [obI]
      exact ⟨y,h6,h4⟩
     ·cases h2
    ·cases h2
   ·cases hr
  ·cases hr
theorem run_eq (j:Job):run T j=F T (run T) j:=by
 apply Option.ext
 intro r
 constructor
 ·intro h
  obtain ⟨n,hn⟩:=run_some.1 h
  cases n with
  |zero=>cases hn
  |succ n=>exact F_mono (fun j r h=>run_some.2 ⟨n,h⟩) _ _ hn
 ·intro h
  obtain ⟨n,hn⟩:=F_cont h
  exact run_some.2 ⟨n+1,hn⟩
end
noncomputable def runP (T:Nat→Option Entry) (k:Nat) (as:List AV) (hps:List Blk):Option (AV × List Blk):=callRes (run T) T k as hps
def absv (fid:FuncId→Option Nat):Value→Option AV
 | .bool b=>some (.bool b)
 | .int k n=>some (.int k n)
 | .string s=>some (.str s.data.toList)
 | .slice none 0 0=>some .nils
 | .pointer none=>some .nilp
 | .nilFunc=>some .nilf
 | .nilIface=>some .nili
 | .map none=>some .nilm
 | .func (.func f) fs cs=>if fs=#[]∧cs=#[] then (fid f).map fun k=>.clo k [] [] else none
 |_=>none
def absL (fid:FuncId→Option Nat):List Value→Option (List AV)
 | []=>some []
 |v::vs=>(absv fid v).bind fun x=>(absL fid vs).map (x::·)
def opd (fid:FuncId→Option Nat):Operand→Option SX
 | .tmp t=>some (.tmp t)
 | .const v=>(absv fid v).map .val
 | .func f=>(fid f).map fun k=>.val (.clo k [] [])
 |_=>none
def opds (fid:FuncId→Option Nat):List Operand→Option (List SX)
 | []=>some []
 |x::xs=>(opd fid x).bind fun y=>(opds fid xs).map (y::·)
def opdo (fid:FuncId→Option Nat):Option Operand→Option (Option SX)
 |none=>some none
 |some x=>(opd fid x).map some
def szOf (P:Program) (t:TypeId):Option Nat:=(P.info? t).map (·.size)
def zeroOf (P:Program) (fid:FuncId→Option Nat) (t:TypeId):Option (List AV):=((P.info? t).bind (·.zero)).bind fun v=>absL fid v.cells.toList
def ldk (P:Program) (t:TypeId):Option (Option Nat):=
 match P.underlying t with
 |some (.struct _) | some (.array _ _)=>(szOf P t).map some
 |some _=>some none
 |none=>none
def leafF (P:Program) (g:TypeId→Option (List Nat)):Nat→List Field→Option (List Nat)
 |_,[]=>some []
 |i,f::fs=>if (f.name != "_" && f.offset == i)=true then (g f.type).bind fun a=>(leafF P g (i+a.length) fs).map (a++·) else none
def leafT (P:Program):Nat→TypeId→Option (List Nat)
 |0,_=>none
 |d+1,t=>match P.underlying t with
  |some (.int _)=>some [0]
  |some .bool=>some [1]
  |some .string=>some [2]
  |some (.struct fs)=>if P.stoodInHeld t=true then none else (leafF P (leafT P d) 0 fs.toList).bind fun l=>if szOf P t=some l.length then some l else none
  |_=>none
def encD:List Nat→Nat
 | []=>0
 |x::xs=>1+x+3*encD xs
def arrF (e:TypeId) (s n:Nat):List Field:=(List.range n).map fun i=>⟨ "x",e,i*s,false,"","",0⟩
def leafA (P:Program) (t:TypeId):Option (List Nat):=match P.underlying t with
 |some (.array n e)=>(szOf P e).bind fun s=>leafF P (leafT P 3) 0 (arrF e s n)
 |_=>leafT P 4 t
def tcOf (P:Program) (t:TypeId):Option Nat:=
 match P.underlying t with
 |some (.int _) | some .string=>some 0
 |some .bool=>some 1
 |some (.pointer _)=>some 2
 |some (.struct _) | some (.array _ _)=>(leafA P t).bind fun l=>if P.eqGuardType P.depth t=true then none else some (3+encD l)
 |_=>none
def kcOf (P:Program) (t:TypeId):Option Nat:=
 match P.underlying t with
 |some (.int _)=>some 1
 |some .string=>some 2
 |some (.struct _)=>(leafT P 4 t).bind fun l=>if P.eqGuardType P.depth t=true then none else some (3+encD l)
 |_=>none
def zvOf (P:Program) (fid:FuncId→Option Nat) (t:TypeId):Option AV:=
 ((P.info? t).bind (·.zero)).bind fun v=>match v with
 | .agg cs=>(absL fid cs.toList).map .agg
 |v=>absv fid v
def fieldOf (P:Program) (t:TypeId) (f:Nat):Option Field:=
 match P.underlying t with
 |some (.struct fs)=>fs[f]?
 |_=>none
def places (P:Program) (fid:FuncId→Option Nat) (t:TypeId):List (Nat × Operand)→Option (List (Nat × Nat × SX))
 | []=>some []
 | (i,x)::ps=>(opd fid x).bind fun y=>(places P fid t ps).bind fun qs=>
  match P.underlying t with
  |some (.struct fs)=>(fs[i]?).bind fun f=>(szOf P f.type).map fun s=>(f.offset,s,y)::qs
  |some (.array _ e)=>(szOf P e).map fun s=>(i*s,s,y)::qs
  |some (.slice e)=>(szOf P e).map fun s=>(i*s,s,y)::qs
  |_=>none
def isNilSlice:Operand→Bool
 | .const (.slice none 0 0)=>true
 |_=>false
def ptrD:TypeDesc→Bool
 | .pointer _=>true
 |_=>false
def mthOf (P:Program) (fid:FuncId→Option Nat) (t:TypeId) (name:String):Option (Nat × RK):=
 ((P.info? t).bind fun i=>i.methods.find? (·.name == name)).bind fun mt=>match mt.func,mt.path.toList with
  |some (f,pr),[]=>(match P.underlying t with
   |some (.pointer e)=>(fid f).bind fun k=>if pr then some (k,.ptr 0) else (ldk P e).map fun n=>(k,.val 0 n)
   |_=>none)
  |some (f,pr),[st]=>if st.deref then (fieldOf P st.struct st.index).bind fun fd=>(szOf P fd.type).bind fun s=>if s=0 then none else
   (P.underlying fd.type).bind fun un=>if ptrD un then none else (fid f).bind fun k=>if pr then some (k,.ptr fd.offset) else (ldk P fd.type).map fun n=>(k,.val fd.offset n) else none
  |_,_=>none
def mtab (P:Program) (fid:FuncId→Option Nat) (name:String):List (Nat × Nat × RK):=(List.range P.types.size).filterMap fun t=>(mthOf P fid t name).map (t,·)
def copCall (P:Program) (fid:FuncId→Option Nat) (c:Call):Option SO:=
 match c.callee with
 | .builtin .len=>match c.args.toList,c.argTypes.toList with
  | [x],[t]=>match P.underlying t with
   |some (.slice _)=>(opd fid x).map (.len false)
   |some .string=>(opd fid x).map (.len true)
   |_=>none
  |_,_=>none
 | .builtin .append=>match c.args.toList,c.argTypes.toList with
  | [s,x],[t,t']=>match P.underlying t,P.underlying t' with
   |some (.slice e),some (.slice _)=>(P.info? e).bind fun i=>if i.size=(i.zero.map (·.cells.size)).getD 0∧0<i.bytes∧0<i.size then (opd fid s).bind fun s=>(opd fid x).map fun x=>.append i.size i.bytes s x else none
   |some (.slice e),some (.int _)=>(P.info? e).bind fun i=>(zeroOf P fid e).bind fun z=>if i.size=z.length∧0<i.bytes∧0<i.size then (opd fid s).bind fun s=>(opd fid x).map fun x=>.appz z i.bytes s x else none
   |_,_=>none
  |_,_=>none
 | .builtin .clear=>match c.args.toList,c.argTypes.toList with
  | [x],[t]=>match P.underlying t with
   |some (.slice e)=>(zeroOf P fid e).bind fun z=>if 0<z.length∧szOf P e=some z.length then (opd fid x).map (.clear z) else none
   |_=>none
  |_,_=>none
 | .builtin .copy=>match c.args.toList,c.argTypes.toList with
  | [s,x],[t,t']=>if t=t' then match P.underlying t with
   |some (.slice e)=>(szOf P e).bind fun n=>if 0<n then (opd fid s).bind fun s=>(opd fid x).map fun x=>.copy n s x else none
   |_=>none else none
  |_,_=>none
 | .builtin .max=>match c.args.toList with
  | [x,y]=>(opd fid x).bind fun x=>(opd fid y).map fun y=>.mm true x y
  |_=>none
 | .builtin .min=>match c.args.toList with
  | [x,y]=>(opd fid x).bind fun x=>(opd fid y).map fun y=>.mm false x y
  |_=>none
 | .value (.func f)=>(fid f).bind fun k=>(opds fid c.args.toList).map fun as=>.call .plain k as
 | .value (.tmp t)=>(opds fid c.args.toList).map fun as=>.callf .plain (.tmp t) as
 | .invoke x name=>(opd fid x).bind fun x=>(opds fid c.args.toList).map fun as=>.invoke .plain x (mtab P fid name) as
 | .builtin .cap=>match c.args.toList,c.argTypes.toList with
  | [x],[t]=>match P.underlying t with
   |some (.slice _)=>(opd fid x).map .cap
   |_=>none
  |_,_=>none
 |_=>none
def cop (P:Program) (fid:FuncId→Option Nat):Op→Option SO
 | .move x | .assign x=>(opd fid x).map .move
 | .pick c a b=>(opd fid c).bind fun c=>(opd fid a).bind fun a=>(opd fid b).map fun b=>.pick c a b
 | .alloc t=>(zeroOf P fid t).map .alloc
 | .box t x=>(szOf P t).bind fun n=>(opd fid x).map fun x=>.box n x
 | .build t ps=>match P.underlying t with
  |some (.struct fs)=>if (fs.all fun f=>(szOf P f.type).isSome) then (zeroOf P fid t).bind fun z=>(places P fid t ps.toList).map fun qs=>.build z qs else none
  |some (.array _ e)=>(szOf P e).bind fun _=>(zeroOf P fid t).bind fun z=>(places P fid t ps.toList).map fun qs=>.build z qs
  |_=>none
 | .buildSlice t len ps=>match P.underlying t with
  |some (.slice e)=>(szOf P e).bind fun s=>(zeroOf P fid e).bind fun z=>if s=z.length∧0<s∧len*s≤2 ^ 24 then (places P fid t ps.toList).map fun qs=>.lit false z s len qs else none
  |_=>none
 | .load t x=>(ldk P t).bind fun n=>(opd fid x).map fun x=>.load false n x
 | .store t x v=>(szOf P t).bind fun n=>(opd fid x).bind fun x=>(opd fid v).map fun v=>.store false n x v
 | .nilCheck x=>(opd fid x).map .nilCheck
 | .binOp op t x y _=>match P.underlying t with
  |some (.slice _)=>if isNilSlice y then (match op with
   | .eql=>(opd fid x).map (.isnil false)
   | .neq=>(opd fid x).map (.isnil true)
   |_=>none) else none
  |_=>(tcOf P t).bind fun tc=>(opd fid x).bind fun x=>(opd fid y).map fun y=>.bin tc op x y
 | .unOp op _ x=>(opd fid x).map fun x=>.un op x
 | .convert s d x=>match P.underlying s,P.underlying d with
  |some (.int _),some (.int k)=>(opd fid x).map fun x=>.conv k x
  |some .string,some .string=>(opd fid x).map .same
  |some (.slice e),some .string=>match P.underlying e with
   |some (.int .u8)=>(opd fid x).map .text
   |_=>none
  |_,_=>none
 | .makeFunc (.func f) fs cs=>(fid f).bind fun k=>(opds fid fs.toList).bind fun fs=>(opds fid cs.toList).map fun cs=>.fn k fs cs
 | .fieldAddr t x f=>(fieldOf P t f).bind fun fd=>(szOf P fd.type).bind fun s=>if s=0 then none else (opd fid x).map fun x=>.fieldAddr fd.offset x
 | .field t x f=>(fieldOf P t f).bind fun fd=>(ldk P fd.type).bind fun n=>(opd fid x).map fun x=>.field n fd.offset x
 | .indexAddr t x i=>match P.underlying t with
  |some (.slice e)=>(szOf P e).bind fun s=>if s=0 then none else (opd fid x).bind fun x=>(opd fid i).map fun i=>.indexAddr s x i
  |some (.array n e)=>(szOf P e).bind fun s=>(opd fid x).bind fun x=>(opd fid i).map fun i=>.indexArr n s x i
  |_=>none
 | .index t x i=>match P.underlying t with
  |some .string=>(opd fid x).bind fun x=>(opd fid i).map fun i=>.index x i
  |some (.array n e)=>(szOf P e).bind fun s=>(ldk P e).bind fun q=>(opd fid x).bind fun x=>(opd fid i).map fun i=>.indexV q n s x i
  |_=>none
 | .slice t x lo hi mx=>match P.underlying t with
  |some (.slice e)=>(szOf P e).bind fun s=>if s=0 then none else (opd fid x).bind fun x=>(opdo fid lo).bind fun lo=>(opdo fid hi).bind fun hi=>(opdo fid mx).map fun mx=>.slice s x lo hi mx
  |some .string=>if mx.isSome then none else (opd fid x).bind fun x=>(opdo fid lo).bind fun lo=>(opdo fid hi).map fun hi=>.slices x lo hi
  |_=>none
 | .extract x i=>(opd fid x).map fun x=>.extract i x
 | .makeSlice t (.tmp l) (.tmp c)=>if l=c then match P.underlying t with
  |some (.slice e)=>(P.info? e).bind fun i=>(zeroOf P fid e).bind fun z=>if i.size=z.length∧0<i.bytes∧0<i.size then some (.make z i.bytes (.tmp l)) else none
  |_=>none else none
 | .makeSlice t (.const (.int .i64 a)) (.const (.int .i64 b))=>if a=b then match P.underlying t with
  |some (.slice e)=>(P.info? e).bind fun i=>(zeroOf P fid e).bind fun z=>if i.size=z.length∧0<i.bytes∧0<i.size then some (.make z i.bytes (.val (.int .i64 a))) else none
  |_=>none else none
 | .makeSlice t (.const (.int .i64 a)) (.tmp c)=>if a=0 then match P.underlying t with
  |some (.slice e)=>(P.info? e).bind fun i=>(zeroOf P fid e).bind fun z=>if i.size=z.length∧0<i.bytes∧0<i.size then some (.room z i.bytes (.tmp c)) else none
  |_=>none else none
 | .panic _=>some .stuck
 | .makeInterface _ (.const _)=>some .stuck
 | .makeInterface t x=>if P.concrete t=true then (opd fid x).map (.iface t) else none
 | .typeAssert x _ t false=>if P.concrete t=true then (opd fid x).map (.assert t) else none
 | .call c=>copCall P fid c
 | .makeMap t none=>match P.underlying t with
  |some (.map k _)=>(kcOf P k).map fun _=>.mkmap
  |_=>none
 | .lookup t x i ok=>match P.underlying t with
  |some (.map k e)=>(kcOf P k).bind fun kc=>(zvOf P fid e).bind fun z=>(opd fid x).bind fun x=>(opd fid i).map fun i=>.look false kc z ok x i
  |_=>none
 | .mapUpdate t x k v | .insert t x k v=>match P.underlying t with
  |some (.map kt _)=>(kcOf P kt).bind fun kc=>(opd fid x).bind fun x=>(opd fid k).bind fun k=>(opd fid v).map fun v=>.upd kc x k v
  |_=>none
 | .range t x=>match P.underlying t with
  |some (.map k _)=>(kcOf P k).bind fun _=>(opd fid x).map .rng
  |_=>none
 | .next x false=>(opd fid x).map .next
 | .entry x=>(opd fid x).map .entry
 |_=>none
def csop (P:Program) (fid:FuncId→Option Nat) (nt:Nat) (ops:Array Oper) (o:Oper):Option SOp:=
 (cop P fid o.op).bind fun so=>
 (match o.dst with | none=>some none | some d=>if d<nt then some (some d) else none).bind fun d=>
 (match o.guard with | none=>some none | some (j,b)=>((ops[j]?).bind (·.dst)).map fun t=>some (t,b)).map fun g=>⟨d,so,g⟩
def csops (P:Program) (fid:FuncId→Option Nat) (nt:Nat) (ops:Array Oper):List Oper→Option (List SOp)
 | []=>some []
 |o::l=>(csop P fid nt ops o).bind fun so=>(csops P fid nt ops l).map (so::·)
def rangeless:Code→Bool
 | .rangeFunc _ _ _ _=>false
 | .seq a b | .cond _ a b=>rangeless a && rangeless b
 | .block _ a | .loop a | .scope a=>rangeless a
 |_=>true
def ccode (P:Program) (fid:FuncId→Option Nat) (nt:Nat):Code→Option Stmt
 | .skip | .label _=>some .skip
 | .region _ ops draw=>(csops P fid nt ops ops.toList).map (.ops draw)
 | .seq a b=>(ccode P fid nt a).bind fun x=>(ccode P fid nt b).map fun y=>.seq x y
 | .cond c a b=>(opd fid c).bind fun c=>(ccode P fid nt a).bind fun x=>(ccode P fid nt b).map fun y=>.cond c x y
 | .block id b=>(ccode P fid nt b).map (.block id)
 | .loop b=>(ccode P fid nt b).map .loop
 | .scope b=>(ccode P fid nt b).map .scope
 | .rangeFunc x ps a b=>if (ps.toList.all (fun t=>decide (t<nt)) && rangeless a && rangeless b)=true then (opd fid x).bind fun x=>(ccode P fid nt a).bind fun a=>(ccode P fid nt b).map fun b=>.rangef x ps.toList a b else none
 | .exit id=>some (.exit id)
 | .ret=>some .ret
 |_=>none
def SO.base:SO→SO
 | .lit _ z s l ps=>.lit false z s l ps
 | .load _ n x=>.load false n x
 | .store _ n x v=>.store false n x v
 | .call _ k as=>.call .plain k as
 | .callf _ x as=>.callf .plain x as
 | .invoke _ x ms as=>.invoke .plain x ms as
 | .look _ kc z ok x i=>.look false kc z ok x i
 |o=>o
def SOp.base (o:SOp):SOp:=⟨o.dst,o.op.base,o.guard⟩
def erase:Stmt→Stmt
 | .ops d l=>.ops d (l.map SOp.base)
 | .opsC _ l=>.ops true (l.map SOp.base)
 | .seq a b=>.seq (erase a) (erase b)
 | .cond c a b=>.cond c (erase a) (erase b)
 | .block id b=>.block id (erase b)
 | .loop b=>.loop (erase b)
 | .scope b=>.scope (erase b)
 | .rangef x ps a b=>.rangef x ps (erase a) (erase b)
 | .ghost _ b=>erase b
 | .after b _=>erase b
 |s=>s
def SX.tmps:SX→List Nat
 | .tmp t=>[t]
 | .val _=>[]
def xo:Option SX→List Nat
 |none=>[]
 |some x=>x.tmps
def xps:List (Nat × Nat × SX)→List Nat
 | []=>[]
 | (_,_,x)::l=>x.tmps++xps l
def xas:List SX→List Nat
 | []=>[]
 |x::l=>x.tmps++xas l
def SO.tmps:SO→List Nat
 | .move x | .box _ x | .load _ _ x | .nilCheck x | .isnil _ x | .un _ x | .conv _ x | .same x | .fieldAddr _ x | .field _ _ x | .extract _ x | .len _ x | .make _ _ x | .room _ _ x | .clear _ x | .iface _ x | .assert _ x | .rng x | .next x | .entry x | .cap x | .text x=>x.tmps
 | .pick c a b=>c.tmps++(a.tmps++b.tmps)
 | .alloc _ | .mkmap=>[]
 | .look _ _ _ _ x i=>x.tmps++i.tmps
 | .upd _ x k v=>x.tmps++(k.tmps++v.tmps)
 | .stuck=>[]
 | .build _ ps | .lit _ _ _ _ ps=>xps ps
 | .store _ _ x v=>x.tmps++v.tmps
 | .bin _ _ x y | .indexAddr _ x y | .indexArr _ _ x y | .indexV _ _ _ x y | .index x y | .append _ _ x y | .appz _ _ x y | .copy _ x y | .mm _ x y=>x.tmps++y.tmps
 | .slice _ x lo hi mx=>x.tmps++(xo lo++(xo hi++xo mx))
 | .slices x lo hi=>x.tmps++(xo lo++xo hi)
 | .fn _ fs cs=>xas fs++xas cs
 | .call _ _ as=>xas as
 | .callf _ x as=>x.tmps++xas as
 | .invoke _ x _ as=>x.tmps++xas as
def SOp.looks (o:SOp):List Nat:=(match o.guard with | some (t,_)=>[t] | none=>[])++o.op.tmps
def Md.isQuiet:Md→Bool
 | .quiet=>true
 |_=>false
def SO.heavy:SO→Bool
 | .box _ _ | .alloc _ | .store _ _ _ _ | .append _ _ _ _ | .appz _ _ _ _ | .make _ _ _ | .room _ _ _ | .clear _ _ | .copy _ _ _ | .stuck | .invoke _ _ _ _ | .mkmap | .upd _ _ _ _ | .rng _ | .next _ | .entry _ | .text _=>true
 | .lit m _ _ _ _=>m
 | .load u _ _=>u
 | .look u _ _ _ _ _=>u
 | .call md _ _ | .callf md _ _=>!md.isQuiet
 |_=>false
def SO.isLoad:SO→Bool
 | .load u _ _=>!u
 | .look u _ _ _ _ _=>!u
 | .call md _ _ | .callf md _ _=>md.isQuiet
 | .len _ _ | .isnil _ _ | .indexAddr _ _ _ | .slice _ _ _ _ _=>true
 |_=>false
def addAll:List Nat→List Nat→List Nat
 | [],acc=>acc
 |x::xs,acc=>addAll xs (if acc.contains x then acc else x::acc)
def ons (o:Oper):List Nat:=(o.after.toList.filter fun e=>Region.binds .any e).map (·.on)
def ancs:List Oper→List (List Nat)→List (List Nat)
 | [],acc=>acc
 |o::l,acc=>ancs l (acc++[addAll ((ons o).flatMap fun e=>acc.getD e []) (ons o)])
def SO.grows:SO→Bool
 | .alloc _ | .make _ _ _ | .call .plain _ _ | .callf .plain _ _=>true
 |_=>false
def freshAt (l:List SOp) (i j s:Nat):Bool:=(List.range j).any fun p=>decide (i<p) && match l[p]? with
 |some ⟨some d,.call .plain _ _,none⟩=>d == s
 |_=>false
def litAt (l:List SOp) (j u:Nat):Bool:=(List.range j).any fun q=>match l[q]? with
 |some ⟨some d,.lit false _ _ _ _,none⟩=>d == u
 |_=>false
def SOp.freshApp (l:List SOp) (i j:Nat) (so:SOp):Bool:=
 match so.op with
 | .append _ _ (.tmp s) (.tmp u)=>freshAt l i j s && litAt l j u
 | .call .mem _ as=>so.guard.isNone && as.all fun x=>match x with | .tmp s=>freshAt l i j s | .val v=>v.ids.isEmpty
 |_=>false
def SOp.farApp (so:SOp) (chk:List (Nat × Nat)) (si:SOp) (l:List SOp) (j:Nat):Bool:=
 (match si.op with | .load _ _ _ | .len _ _ | .isnil _ _ | .indexAddr _ _ _ | .slice _ _ _ _ _=>true | _=>false) &&
 match so.op with
 | .append _ _ (.tmp s) (.tmp u)=>litAt l j u && (decide (s<1000000) && si.op.tmps.all fun t=>chk.contains (s,t))
 | .call .mem _ as=>so.guard.isNone && as.all fun x=>match x with | .tmp s=>decide (s<1000000) && si.op.tmps.all fun t=>chk.contains (s,t) | .val v=>v.ids.isEmpty
 | .call .allk _ as=>so.guard.isNone && as.any fun x=>match x with | .tmp s=>si.op.tmps.all fun t=>chk.contains (s+1000000,t) | .val _=>false
 | .store false _ (.tmp s) (.tmp v)=>decide (v<1000000) && chk.contains (v,v) && (decide (s<1000000) && si.op.tmps.all fun t=>chk.contains (s,t))
 | .store false _ (.tmp s) (.val v)=>v.ids.isEmpty && (decide (s<1000000) && si.op.tmps.all fun t=>chk.contains (s,t))
 |_=>false
def pairOk (chk:List (Nat × Nat)) (A:List (List Nat)) (l:List SOp) (si sj:SOp) (i j:Nat):Bool:=
 let anc:=(A.getD j []).contains i
 let hit:=match si.dst with | some d=>sj.looks.contains d | none=>false
 if i<j then
  (match si.dst with | some d=>!(sj.dst == some d) | none=>true) && (!hit || anc) && (!(si.op.heavy && sj.op.heavy) || anc) && (!((si.op.heavy && !si.op.grows && sj.op.isLoad && !si.farApp chk sj l i) || (si.op.isLoad && sj.op.heavy && !sj.op.grows && !sj.freshApp l i j && !sj.farApp chk si l j)) || anc)
 else if j<i then !hit || ((A.getD i []).contains j && (match si.dst with | some d=>chk.all fun p=>p.1 != d && p.2 != d && p.1 != d+1000000 | none=>true)) else !hit
def SX.plain:SX→Bool
 | .tmp _=>true
 | .val v=>v.ids.isEmpty
def SO.loadsPlain:SO→Bool
 | .load _ _ x | .len _ x | .isnil _ x | .indexAddr _ x _ | .slice _ x _ _ _ | .look _ _ _ _ x _=>x.plain
 | .call _ _ as=>as.all SX.plain
 | .callf _ x as=>x.plain && as.all SX.plain
 | .invoke _ _ _ _=>false
 |_=>true
def drawOk (chk:List (Nat × Nat)) (ops:Array Oper) (l:List SOp):Bool:=
 let A:=ancs ops.toList []
 let n:=ops.size
 (l.all fun so=>so.op.loadsPlain) && ((List.range n).all fun j=>(match ops[j]? with | some o=>(ons o).all (·<j) | none=>true)) &&
 (List.range n).all fun j=>(List.range n).all fun i=>match l[i]?,l[j]? with | some si,some sj=>pairOk chk A l si sj i j | _,_=>false
def SOp.isMk:SOp→Bool
 | ⟨some _,.make _ _ _,none⟩=>true
 |_=>false
def mks1 (l:List SOp):List Nat:=l.filterMap fun so=>if so.isMk then so.dst else none
def SOp.isAl (M:List Nat):SOp→Bool
 | ⟨some _,.move (.tmp s),none⟩=>M.contains s
 |_=>false
def msetL (l:List SOp):List Nat:=l.filterMap fun so=>if so.isMk || so.isAl (mks1 l) then so.dst else none
def SOp.zOk:SOp→Bool
 | ⟨_,.make z _ _,_⟩=>(idsL z).isEmpty
 |_=>true
def kindOk (l:List SOp) (so:SOp):Bool:=if so.isMk || !so.isAl (mks1 l) then (so.isMk || !so.op.heavy) && so.zOk && so.looks.all fun t=>!(msetL l).contains t else true
def pairM (A:List (List Nat)) (si sj:SOp) (i j:Nat):Bool:=
 let anc:=(A.getD j []).contains i
 let hit:=match si.dst with | some d=>sj.looks.contains d | none=>false
 if i<j then (match si.dst with | some d=>!(sj.dst == some d) | none=>true) && (!hit || anc)
 else if j<i then !hit || ((A.getD i []).contains j && !si.isMk) else true
def drawM (ops:Array Oper) (l:List SOp):Bool:=
 let A:=ancs ops.toList []
 let n:=ops.size
 (l.all fun so=>so.op.loadsPlain && kindOk l so) && ((List.range n).all fun j=>(match ops[j]? with | some o=>(ons o).all (·<j) | none=>true)) &&
 (List.range n).all fun j=>(List.range n).all fun i=>match l[i]?,l[j]? with | some si,some sj=>pairM A si sj i j | _,_=>false
def drawS:Code→Stmt→Bool
 | .region _ ops d,.ops d' l=>d == d' && (!d || (drawOk [] ops l || drawM ops l))
 | .region _ ops d,.opsC chk l=>d && drawOk chk ops l
 | .seq a b,.seq x y=>drawS a x && drawS b y
 | .cond _ a b,.cond _ x y=>drawS a x && drawS b y
 | .block _ a,.block _ x=>drawS a x
 | .loop a,.loop x=>drawS a x
 | .scope a,.scope x=>drawS a x
 | .rangeFunc _ _ a b,.rangef _ _ x y=>drawS a x && drawS b y
 |c,.ghost _ s=>drawS c s
 |c,.after s _=>drawS c s
 | .region _ _ _,_ | .seq _ _,_ | .cond _ _ _,_ | .block _ _,_ | .loop _,_ | .scope _,_ | .rangeFunc _ _ _ _,_=>false
 |_,_=>true
termination_by structural _ s=>s
def drawn:Code→Bool
 | .region _ _ d=>d
 | .seq a b | .cond _ a b | .rangeFunc _ _ a b=>drawn a || drawn b
 | .block _ a | .loop a | .scope a=>drawn a
 |_=>false
open Go.RowKit
structure Ent where
 a:Option Addr
 b:Option Nat
 cap:Nat
 n:Nat
 sz:Nat
structure Mem where
 P:Program
 cd:FuncId→Option Nat
 im:Nat→Nat→Option Value
 bl:List Ent
 fp:Nat→List Nat
mutual
def C (m:Mem):AV→Value→Prop
 | .unk,_=>True
 | .any,v=>v.oneCell'=true
 | .maybe e b,v=>∃ c,v=.bool c∧(e=false→c=b)
 | .bool b,v=>v=.bool b
 | .int k n,v=>v=.int k n
 | .str s,v=>v=.string ⟨s.toArray⟩
 | .nils,v=>v=.slice none 0 0
 | .nilp,v=>v=.pointer none
 | .nilf,v=>v=.nilFunc
 | .nili,v=>v=.nilIface
 | .nilm,v=>v=.map none
 | .sl sz cs,v=>cs.all AV.okc=true∧∃ a n c,v=.slice a n c∧cs.length=n*sz∧(cs=[]→n=0)∧n≤c∧(cs≠[]→∃ b o,a=some ⟨b,o,none⟩∧CL m cs (fun i=>m.im b (o+i)))
 | .ip cs,v=>cs.all AV.okc=true∧∃ b o,v=.pointer (some ⟨b,o,none⟩)∧CL m cs (fun i=>m.im b (o+i))
 | .own sz id,v=>∃ e,m.bl[id]? = some e∧v=.slice e.a e.n e.cap∧e.sz=sz
 | .osl sz id o n,v=>∃ e,m.bl[id]? = some e∧e.sz=sz∧0<sz∧∃ a c,v=.slice a n c∧n≤c∧c+o=e.cap∧(c=0∨∃ g,e.b=some g∧a=some ⟨g,o*sz,none⟩)
 | .ref id off,v=>∃ e,m.bl[id]? = some e∧∃ g,e.b=some g∧v=.pointer (some ⟨g,off,none⟩)
 | .mref id,v=>∃ e,m.bl[id]? = some e∧∃ g,e.b=some g∧v=.map (some g)
 | .yld id,v=>∃ e,m.bl[id]? = some e∧∃ g,e.b=some g∧v=.func (.yield g) #[] #[]
 | .vec _ _,_ | .box _,_ | .mp _ _,_=>False
 | .clo k fs cs,v=>∃ fn fs' cs',v=.func (.func fn) fs' cs'∧m.cd fn=some k∧fs'.size=fs.length∧cs'.size=cs.length∧CL m fs (fun i=>fs'[i]?)∧CL m cs (fun i=>cs'[i]?)
 | .ifc t x,v=>∃ u,v=.iface t u∧C m x u
 | .agg cs,v=>cs.all AV.okc=true∧∃ vs,v=.agg vs∧vs.size=cs.length∧CL m cs (fun i=>vs[i]?)
 | .tup cs,v=>∃ vs,v=.tuple vs∧vs.size=cs.length∧CL m cs (fun i=>vs[i]?)
def CL (m:Mem):List AV→(Nat→Option Value)→Prop
 | [],_=>True
 |x::xs,g=>(∃ u,g 0=some u∧C m x u)∧CL m xs (fun i=>g (i+1))
end
theorem CL_iff {m:Mem} {cs:List AV} {g:Nat→Option Value}:CL m cs g↔∀ i x,cs[i]? = some x→∃ u,g i=some u∧C m x u:=by
 induction cs generalizing g with
 |nil=>simp [CL]
 |cons x xs ih=>
  simp only [CL,ih]
  constructor
  ·rintro ⟨h1,h2⟩ i y hy
   cases i with
   |zero=>simp at hy;subst hy;exact h1
   |succ i=>simp at hy;exact h2 i y hy
  ·intro h
   exact ⟨h 0 x (by simp),fun i y hy=>h (i+1) y (by simpa using hy)⟩
structure Sim (r:Nat→Nat) (L:List Nat) (m m':Mem):Prop where
 P:m'.P=m.P
 cd:m'.cd=m.cd
 im:∀ b o u,m.im b o=some u→m'.im b o=some u
 bl:∀ id∈L,∀ e,m.bl[id]? = some e→m'.bl[r id]? = some e
theorem Sim.sub {r:Nat→Nat} {L L':List Nat} {m m':Mem} (h:Sim r L m m') (hs:∀ x∈L',x∈L):Sim r L' m m':=⟨h.P,h.cd,h.im,fun id hi=>h.bl id (hs id hi)⟩
mutual
theorem C_sim {r:Nat→Nat} {m m':Mem}:∀ (x:AV) (v:Value),Sim r x.ids m m'→C m x v→C m' (ren r x) v
 | .unk,_,_,_=>by simp [ren,AV.mapv,ren1,C]
 | .any,v,_,k | .maybe _ _,v,_,k | .bool _,v,_,k | .int _ _,v,_,k | .str _,v,_,k | .nils,v,_,k | .nilp,v,_,k | .nilf,v,_,k | .nili,v,_,k | .nilm,v,_,k=>by simpa only [ren,AV.mapv,ren1,C] using k
 | .sl sz cs,v,h,k=>by
  simp only [C,ren,AV.mapv,ren1] at k ⊢
  obtain ⟨h1,a,n,c,h2,h3,h4,h5,h6⟩:=k
  obtain ⟨e1,e2⟩:=CL_sim (r:=r) (m:=m) (m':=m') cs (fun _=>none) (fun _=>none) (by simpa only [AV.ids] using h)
  refine ⟨by rw [e2];exact h1,a,n,c,h2,by rw [e1.1];exact h3,fun h=>h4 (e1.2 h),h5,fun hne=>?_⟩
  obtain ⟨b,o,h7,h8⟩:=h6 (fun e=>hne (by subst e;rfl))
  exact ⟨b,o,h7,(CL_sim2 cs _ _ (by simpa only [AV.ids] using h) (fun i u=>h.im _ _ _) h8)⟩
 | .ip cs,v,h,k=>by
  simp only [C,ren,AV.mapv,ren1] at k ⊢
  obtain ⟨h1,b,o,h2,h3⟩:=k
  obtain ⟨e1,e2⟩:=CL_sim (r:=r) (m:=m) (m':=m') cs (fun _=>none) (fun _=>none) (by simpa only [AV.ids] using h)
  exact ⟨by rw [e2];exact h1,b,o,h2,(CL_sim2 cs _ _ (by simpa only [AV.ids] using h) (fun i u=>h.im _ _ _) h3)⟩
 | .own sz id,v,h,k=>by
  simp only [C,ren,AV.mapv,ren1] at k ⊢
  obtain ⟨e,h1,h2⟩:=k
  exact ⟨e,h.bl id (by simp [AV.ids]) e h1,h2⟩
 | .osl sz id o n,v,h,k=>by
  simp only [C,ren,AV.mapv,ren1] at k ⊢
  obtain ⟨e,h1,h2⟩:=k
  exact ⟨e,h.bl id (by simp [AV.ids]) e h1,h2⟩
 | .ref id o,v,h,k=>by
  simp only [C,ren,AV.mapv,ren1] at k ⊢
  obtain ⟨e,h1,h2⟩:=k
  exact ⟨e,h.bl id (by simp [AV.ids]) e h1,h2⟩
 | .mref id,v,h,k=>by
  simp only [C,ren,AV.mapv,ren1] at k ⊢
  obtain ⟨e,h1,h2⟩:=k
  exact ⟨e,h.bl id (by simp [AV.ids]) e h1,h2⟩
 | .yld id,v,h,k=>by
  simp only [C,ren,AV.mapv,ren1] at k ⊢
  obtain ⟨e,h1,h2⟩:=k
  exact ⟨e,h.bl id (by simp [AV.ids]) e h1,h2⟩
 | .vec _ _,v,_,k | .box _,v,_,k | .mp _ _,v,_,k=>by simp only [C] at k
 | .clo f fs cs,v,h,k=>by
  simp only [C,ren,AV.mapv,ren1] at k ⊢
  obtain ⟨fn,fs',cs',h1,h2,h3,h4,h5,h6⟩:=k
  have ha:Sim r (idsL fs) m m':=h.sub (fun x hx=>by simp [AV.ids,hx])
  have hb:Sim r (idsL cs) m m':=h.sub (fun x hx=>by simp [AV.ids,hx])
  obtain ⟨e1,_⟩:=CL_sim (r:=r) (m:=m) (m':=m') fs (fun _=>none) (fun _=>none) ha
  obtain ⟨e2,_⟩:=CL_sim (r:=r) (m:=m) (m':=m') cs (fun _=>none) (fun _=>none) hb
  exact ⟨fn,fs',cs',h1,by rw [h.cd];exact h2,by rw [e1.1];exact h3,by rw [e2.1];exact h4,CL_sim2 fs _ _ ha (fun _ _ h=>h) h5,CL_sim2 cs _ _ hb (fun _ _ h=>h) h6⟩
 | .ifc t x,v,h,k=>by
  simp only [C,ren,AV.mapv,ren1] at k ⊢
  obtain ⟨u,h1,h2⟩:=k
  exact ⟨u,h1,C_sim x u (by simpa only [AV.ids] using h) h2⟩
 | .agg cs,v,h,k=>by
  simp only [C,ren,AV.mapv,ren1] at k ⊢
  obtain ⟨h1,vs,h2,h3,h4⟩:=k
  obtain ⟨e1,e2⟩:=CL_sim (r:=r) (m:=m) (m':=m') cs (fun _=>none) (fun _=>none) (by simpa only [AV.ids] using h)
  exact ⟨by rw [e2];exact h1,vs,h2,by rw [e1.1];exact h3,CL_sim2 cs _ _ (by simpa only [AV.ids] using h) (fun _ _ h=>h) h4⟩
 | .tup cs,v,h,k=>by
  simp only [C,ren,AV.mapv,ren1] at k ⊢
  obtain ⟨vs,h2,h3,h4⟩:=k
  obtain ⟨e1,e2⟩:=CL_sim (r:=r) (m:=m) (m':=m') cs (fun _=>none) (fun _=>none) (by simpa only [AV.ids] using h)
  exact ⟨vs,h2,by rw [e1.1];exact h3,CL_sim2 cs _ _ (by simpa only [AV.ids] using h) (fun _ _ h=>h) h4⟩
theorem CL_sim {r:Nat→Nat} {m m':Mem}:∀ (cs:List AV) (g g':Nat→Option Value),Sim r (idsL cs) m m'→((mapL (ren1 r) cs).length=cs.length∧(mapL (ren1 r) cs=[]→cs=[]))∧(mapL (ren1 r) cs).all AV.okc=cs.all AV.okc
 | [],_,_,_=>by simp [mapL]
 |x::xs,g,g',h=>by
  obtain ⟨⟨e1,_⟩,e2⟩:=CL_sim (r:=r) (m:=m) (m':=m') xs g g' (h.sub (fun x hx=>by simp [idsL,hx]))
  refine ⟨⟨by simp [mapL,e1],by simp [mapL]⟩,?_⟩
  simp only [mapL,List.all_cons,e2]
  congr 1
  cases x<;>simp [AV.mapv,ren1,AV.okc]
theorem CL_sim2 {r:Nat→Nat} {m m':Mem}:∀ (cs:List AV) (g g':Nat→Option Value),Sim r (idsL cs) m m'→(∀ i u,g i=some u→g' i=some u)→CL m cs g→CL m' (mapL (ren1 r) cs) g'
 | [],_,_,_,_,_=>by simp [mapL,CL]
 |x::xs,g,g',h,hg,k=>by
  simp only [CL,mapL] at k ⊢
  obtain ⟨⟨u,h1,h2⟩,h3⟩:=k
  exact ⟨⟨u,hg _ _ h1,C_sim x u (h.sub (fun x hx=>by simp [idsL,hx])) h2⟩,CL_sim2 xs _ _ (h.sub (fun x hx=>by simp [idsL,hx])) (fun i=>hg _) h3⟩
end
mutual
theorem ren_id:∀ x:AV,ren id x=x
 | .sl _ cs | .ip cs | .vec _ cs | .box cs | .agg cs | .tup cs=>by simp only [ren,AV.mapv,ren1,renL_id cs]
 | .mp a b | .clo _ a b=>by simp only [ren,AV.mapv,ren1,renL_id a,renL_id b]
 | .ifc t v=>by simp only [ren,AV.mapv,ren1,AV.ifc.injEq,true_and];exact ren_id v
 | .unk | .any | .maybe _ _ | .bool _ | .int _ _ | .str _ | .nils | .nilp | .nilf | .nili | .nilm | .own _ _ | .osl _ _ _ _ | .ref _ _ | .mref _ | .yld _=>by simp [ren,AV.mapv,ren1]
theorem renL_id:∀ l:List AV,mapL (ren1 id) l=l
 | []=>rfl
 |x::xs=>by simp only [mapL,renL_id xs,List.cons.injEq,and_true];exact ren_id x
end
structure Mem.le (m m':Mem):Prop where
 P:m'.P=m.P
 cd:m'.cd=m.cd
 im:∀ b o u,m.im b o=some u→m'.im b o=some u
 bl:∀ (id:Nat) e,m.bl[id]? = some e→m'.bl[id]? = some e
theorem Mem.le.sim {m m':Mem} (h:m.le m') (L:List Nat):Sim id L m m':=⟨h.P,h.cd,h.im,fun i _=>h.bl i⟩
theorem Mem.le.refl (m:Mem):m.le m:=⟨rfl,rfl,fun _ _ _ h=>h,fun _ _ h=>h⟩
theorem Mem.le.trans {a b c:Mem} (h:a.le b) (k:b.le c):a.le c:=⟨k.P.trans h.P,k.cd.trans h.cd,fun x y z q=>k.im _ _ _ (h.im _ _ _ q),fun id e q=>k.bl id e (h.bl id e q)⟩
theorem C_mono {m m':Mem} (h:m.le m') (x:AV) (v:Value) (k:C m x v):C m' x v:=by
 have:=C_sim (r:=id) x v (h.sim _) k
 rwa [ren_id] at this
theorem CL_mono {m m':Mem} (h:m.le m') (cs:List AV) (g g':Nat→Option Value) (hg:∀ i u,g i=some u→g' i=some u) (k:CL m cs g):CL m' cs g':=by
 have:=CL_sim2 (r:=id) cs g g' (h.sim _) hg k
 rwa [renL_id] at this
theorem CL_ext {m:Mem} {cs:List AV} {g g':Nat→Option Value} (hg:∀ i u,g i=some u→g' i=some u) (k:CL m cs g):CL m cs g':=CL_mono (Mem.le.refl m) cs g g' hg k
theorem C_okc {m:Mem} {x:AV} {v:Value} (h:C m x v) (hx:x.okc=true):v.oneCell'=true:=by
 cases x<;>simp only [AV.okc,C,reduceCtorEq] at h hx
 case any=>exact h
 case maybe=>obtain ⟨c,rfl,_⟩:=h;rfl
 case sl=>obtain ⟨_,a,n,c,rfl,_⟩:=h;rfl
 case ip=>obtain ⟨_,b,o,rfl,_⟩:=h;rfl
 case clo=>obtain ⟨fn,a,b,rfl,_⟩:=h;rfl
 case ifc=>obtain ⟨u,rfl,_⟩:=h;rfl
 case own sz id=>obtain ⟨e,_,rfl,_⟩:=h;rfl
 case osl sz id o n=>obtain ⟨e,_,_,_,a,c,rfl,_⟩:=h;rfl
 case ref id o=>obtain ⟨e,_,g,_,rfl⟩:=h;rfl
 case mref id=>obtain ⟨e,_,g,_,rfl⟩:=h;rfl
 case yld id=>obtain ⟨e,_,g,_,rfl⟩:=h;rfl
 all_goals (subst h;rfl)
mutual
def R (m:Mem) (w:World):AV→Value→List Nat→Prop
 | .vec sz cs,v,f=>cs.all AV.okc=true∧∃ a n c,v=.slice a n c∧cs.length=n*sz∧(cs=[]→n=0)∧n≤c ∧
   ((c=0∧f=[])∨∃ g cur t f',a=some ⟨g,0,none⟩∧w.heap[g]? = some (.cells cur t (0,0))∧cur.size=c*sz∧f=g::f'∧RL m w cs (fun i=>cur[i]?) f')
 | .box cs,v,f=>cs.all AV.okc=true∧∃ g cur t f',v=.pointer (some ⟨g,0,none⟩)∧w.heap[g]? = some (.cells cur t (0,0))∧f=g::f'∧RL m w cs (fun i=>cur[i]?) f'
 | .mp _ _,_,_=>False
 | .clo k fs cs,v,f=>∃ fn fs' cs' f1 f2,v=.func (.func fn) fs' cs'∧m.cd fn=some k∧fs'.size=fs.length∧cs'.size=cs.length∧f=f1++f2∧RL m w fs (fun i=>fs'[i]?) f1∧RL m w cs (fun i=>cs'[i]?) f2
 | .ifc t x,v,f=>∃ u,v=.iface t u∧R m w x u f
 | .agg cs,v,f=>cs.all AV.okc=true∧∃ vs,v=.agg vs∧vs.size=cs.length∧RL m w cs (fun i=>vs[i]?) f
 | .tup cs,v,f=>∃ vs,v=.tuple vs∧vs.size=cs.length∧RL m w cs (fun i=>vs[i]?) f
 | .unk,v,f=>f=[]∧C m .unk v
 | .any,v,f=>f=[]∧C m .any v
 | .maybe e b,v,f=>f=[]∧C m (.maybe e b) v
 | .bool b,v,f=>f=[]∧C m (.bool b) v
 | .int k n,v,f=>f=[]∧C m (.int k n) v
 | .str s,v,f=>f=[]∧C m (.str s) v
 | .nils,v,f=>f=[]∧C m .nils v
 | .nilp,v,f=>f=[]∧C m .nilp v
 | .nilf,v,f=>f=[]∧C m .nilf v
 | .nili,v,f=>f=[]∧C m .nili v
 | .nilm,v,f=>f=[]∧C m .nilm v
 | .sl sz cs,v,f=>f=[]∧C m (.sl sz cs) v
 | .ip cs,v,f=>f=[]∧C m (.ip cs) v
 | .own sz id,v,f=>f=[]∧C m (.own sz id) v
 | .osl sz id o n,v,f=>f=[]∧C m (.osl sz id o n) v
 | .ref id o,v,f=>f=[]∧C m (.ref id o) v
 | .mref id,v,f=>f=[]∧C m (.mref id) v
 | .yld id,v,f=>f=[]∧C m (.yld id) v
def RL (m:Mem) (w:World):List AV→(Nat→Option Value)→List Nat→Prop
 | [],_,f=>f=[]
 |x::xs,g,f=>∃ f1 f2,f=f1++f2∧(∃ u,g 0=some u∧R m w x u f1)∧RL m w xs (fun i=>g (i+1)) f2
end
mutual
theorem R_of_C {m:Mem} {w:World}:∀ (x:AV) (v:Value),C m x v→R m w x v []
 | .vec _ _,v,k | .box _,v,k | .mp _ _,v,k=>by simp only [C] at k
 | .clo f fs cs,v,k=>by
  simp only [C] at k
  simp only [R]
  obtain ⟨fn,fs',cs',h1,h2,h3,h4,h5,h6⟩:=k
  exact ⟨fn,fs',cs',[],[],h1,h2,h3,h4,rfl,RL_of_CL fs _ h5,RL_of_CL cs _ h6⟩
 | .ifc t x,v,k=>by
  simp only [C] at k
  simp only [R]
  obtain ⟨u,h1,h2⟩:=k
  exact ⟨u,h1,R_of_C x u h2⟩
 | .agg cs,v,k=>by
  simp only [C] at k
  simp only [R]
  obtain ⟨h1,vs,h2,h3,h4⟩:=k
  exact ⟨h1,vs,h2,h3,RL_of_CL cs _ h4⟩
 | .tup cs,v,k=>by
  simp only [C] at k
  simp only [R]
  obtain ⟨vs,h2,h3,h4⟩:=k
  exact ⟨vs,h2,h3,RL_of_CL cs _ h4⟩
 | .unk,v,k | .any,v,k | .maybe _ _,v,k | .bool _,v,k | .int _ _,v,k | .str _,v,k | .nils,v,k | .nilp,v,k | .nilf,v,k | .nili,v,k | .nilm,v,k | .sl _ _,v,k | .ip _,v,k | .own _ _,v,k | .osl _ _ _ _,v,k | .ref _ _,v,k | .mref _,v,k | .yld _,v,k=>by
  simp only [R];exact ⟨trivial,k⟩
theorem RL_of_CL {m:Mem} {w:World}:∀ (cs:List AV) (g:Nat→Option Value),CL m cs g→RL m w cs g []
 | [],_,_=>by simp [RL]
 |x::xs,g,k=>by
  simp only [CL] at k
  simp only [RL]
  obtain ⟨⟨u,h1,h2⟩,h3⟩:=k
  exact ⟨[],[],rfl,⟨u,h1,R_of_C x u h2⟩,RL_of_CL xs _ h3⟩
end
mutual
theorem C_of_R {m:Mem} {w:World}:∀ (x:AV) (v:Value) (f:List Nat),noinl x=true→R m w x v f→C m x v∧f=[]
 | .vec _ _,v,f,h,_ | .box _,v,f,h,_ | .mp _ _,v,f,h,_=>by simp [noinl,AV.allv,pnoinl] at h
 | .clo q fs cs,v,f,h,k=>by
  simp only [R] at k
  simp only [noinl,AV.allv,Bool.and_eq_true] at h
  obtain ⟨fn,fs',cs',f1,f2,h1,h2,h3,h4,h5,h6,h7⟩:=k
  obtain ⟨a1,a2⟩:=CL_of_RL fs _ f1 h.2.1 h6
  obtain ⟨b1,b2⟩:=CL_of_RL cs _ f2 h.2.2 h7
  simp only [C]
  exact ⟨⟨fn,fs',cs',h1,h2,h3,h4,a1,b1⟩,by rw [h5,a2,b2];rfl⟩
 | .ifc t x,v,f,h,k=>by
  simp only [R] at k
  simp only [noinl,AV.allv,Bool.and_eq_true] at h
  obtain ⟨u,h1,h2⟩:=k
  obtain ⟨a1,a2⟩:=C_of_R x u f h.2 h2
  simp only [C]
  exact ⟨⟨u,h1,a1⟩,a2⟩
 | .agg cs,v,f,h,k=>by
  simp only [R] at k
  simp only [noinl,AV.allv,Bool.and_eq_true] at h
  obtain ⟨h1,vs,h2,h3,h4⟩:=k
  obtain ⟨a1,a2⟩:=CL_of_RL cs _ f h.2 h4
  simp only [C]
  exact ⟨⟨h1,vs,h2,h3,a1⟩,a2⟩
 | .tup cs,v,f,h,k=>by
  simp only [R] at k
  simp only [noinl,AV.allv,Bool.and_eq_true] at h
  obtain ⟨vs,h2,h3,h4⟩:=k
  obtain ⟨a1,a2⟩:=CL_of_RL cs _ f h.2 h4
  simp only [C]
  exact ⟨⟨vs,h2,h3,a1⟩,a2⟩
 | .unk,v,f,_,k | .any,v,f,_,k | .maybe _ _,v,f,_,k | .bool _,v,f,_,k | .int _ _,v,f,_,k | .str _,v,f,_,k | .nils,v,f,_,k | .nilp,v,f,_,k | .nilf,v,f,_,k | .nili,v,f,_,k | .nilm,v,f,_,k | .sl _ _,v,f,_,k | .ip _,v,f,_,k | .own _ _,v,f,_,k | .osl _ _ _ _,v,f,_,k | .ref _ _,v,f,_,k | .mref _,v,f,_,k | .yld _,v,f,_,k=>by
  simp only [R] at k;exact ⟨k.2,k.1⟩
theorem CL_of_RL {m:Mem} {w:World}:∀ (cs:List AV) (g:Nat→Option Value) (f:List Nat),allL pnoinl cs=true→RL m w cs g f→CL m cs g∧f=[]
 | [],_,f,_,k=>by simp only [RL] at k;exact ⟨by simp [CL],k⟩
 |x::xs,g,f,h,k=>by
  simp only [RL] at k
  simp only [allL,Bool.and_eq_true] at h
  obtain ⟨f1,f2,rfl,⟨u,h1,h2⟩,h3⟩:=k
  obtain ⟨a1,a2⟩:=C_of_R x u f1 h.1 h2
  obtain ⟨b1,b2⟩:=CL_of_RL xs _ f2 h.2 h3
  simp only [CL]
  exact ⟨⟨⟨u,h1,a1⟩,b1⟩,by rw [a2,b2];rfl⟩
end
mutual
theorem R_sim {r:Nat→Nat} {m m':Mem} {w w':World}:∀ (x:AV) (v:Value) (f:List Nat),Sim r x.ids m m'→(∀ g∈f,w'.heap[g]? = w.heap[g]?)→R m w x v f→R m' w' (ren r x) v f
 | .vec sz cs,v,f,h,hw,k=>by
  simp only [R,ren,AV.mapv,ren1] at k ⊢
  obtain ⟨h1,a,n,c,h2,h3,h4,h5,h6⟩:=k
  obtain ⟨e1,e2⟩:=CL_sim (r:=r) (m:=m) (m':=m') cs (fun _=>none) (fun _=>none) (by simpa only [AV.ids] using h)
  refine ⟨by rw [e2];exact h1,a,n,c,h2,by rw [e1.1];exact h3,fun h=>h4 (e1.2 h),h5,?_⟩
  rcases h6 with h6 | ⟨g,cur,t,f',h7,h8,h9,rfl,h10⟩
  ·exact .inl h6
  ·exact .inr ⟨g,cur,t,f',h7,by rw [hw g (by simp)];exact h8,h9,rfl,RL_sim cs _ _ f' (by simpa only [AV.ids] using h) (fun x hx=>hw x (by simp [hx])) (fun _ _ h=>h) h10⟩
 | .box cs,v,f,h,hw,k=>by
  simp only [R,ren,AV.mapv,ren1] at k ⊢
  obtain ⟨h1,g,cur,t,f',h7,h8,rfl,h10⟩:=k
  obtain ⟨e1,e2⟩:=CL_sim (r:=r) (m:=m) (m':=m') cs (fun _=>none) (fun _=>none) (by simpa only [AV.ids] using h)
  exact ⟨by rw [e2];exact h1,g,cur,t,f',h7,by rw [hw g (by simp)];exact h8,rfl,RL_sim cs _ _ f' (by simpa only [AV.ids] using h) (fun x hx=>hw x (by simp [hx])) (fun _ _ h=>h) h10⟩
 | .mp _ _,v,f,_,_,k=>by simp only [R] at k
 | .clo q fs cs,v,f,h,hw,k=>by
  simp only [R,ren,AV.mapv,ren1] at k ⊢
  obtain ⟨fn,fs',cs',f1,f2,h1,h2,h3,h4,rfl,h6,h7⟩:=k
  have ha:Sim r (idsL fs) m m':=h.sub (fun x hx=>by simp [AV.ids,hx])
  have hb:Sim r (idsL cs) m m':=h.sub (fun x hx=>by simp [AV.ids,hx])
  obtain ⟨e1,_⟩:=CL_sim (r:=r) (m:=m) (m':=m') fs (fun _=>none) (fun _=>none) ha
  obtain ⟨e2,_⟩:=CL_sim (r:=r) (m:=m) (m':=m') cs (fun _=>none) (fun _=>none) hb
  exact ⟨fn,fs',cs',f1,f2,h1,by rw [h.cd];exact h2,by rw [e1.1];exact h3,by rw [e2.1];exact h4,rfl,RL_sim fs _ _ f1 ha (fun x hx=>hw x (by simp [hx])) (fun _ _ h=>h) h6,RL_sim cs _ _ f2 hb (fun x hx=>hw x (by simp [hx])) (fun _ _ h=>h) h7⟩
 | .ifc t x,v,f,h,hw,k=>by
  simp only [R,ren,AV.mapv,ren1] at k ⊢
  obtain ⟨u,h1,h2⟩:=k
  exact ⟨u,h1,R_sim x u f (by simpa only [AV.ids] using h) hw h2⟩
 | .agg cs,v,f,h,hw,k=>by
  simp only [R,ren,AV.mapv,ren1] at k ⊢
  obtain ⟨h1,vs,h2,h3,h4⟩:=k
  obtain ⟨e1,e2⟩:=CL_sim (r:=r) (m:=m) (m':=m') cs (fun _=>none) (fun _=>none) (by simpa only [AV.ids] using h)
  exact ⟨by rw [e2];exact h1,vs,h2,by rw [e1.1];exact h3,RL_sim cs _ _ f (by simpa only [AV.ids] using h) hw (fun _ _ h=>h) h4⟩
 | .tup cs,v,f,h,hw,k=>by
  simp only [R,ren,AV.mapv,ren1] at k ⊢
  obtain ⟨vs,h2,h3,h4⟩:=k
  obtain ⟨e1,e2⟩:=CL_sim (r:=r) (m:=m) (m':=m') cs (fun _=>none) (fun _=>none) (by simpa only [AV.ids] using h)
  exact ⟨vs,h2,by rw [e1.1];exact h3,RL_sim cs _ _ f (by simpa only [AV.ids] using h) hw (fun _ _ h=>h) h4⟩
 | .unk,v,f,h,_,k | .any,v,f,h,_,k | .maybe _ _,v,f,h,_,k | .bool _,v,f,h,_,k | .int _ _,v,f,h,_,k | .str _,v,f,h,_,k | .nils,v,f,h,_,k | .nilp,v,f,h,_,k | .nilf,v,f,h,_,k | .nili,v,f,h,_,k | .nilm,v,f,h,_,k
 | .sl _ _,v,f,h,_,k | .ip _,v,f,h,_,k | .own _ _,v,f,h,_,k | .osl _ _ _ _,v,f,h,_,k | .ref _ _,v,f,h,_,k | .mref _,v,f,h,_,k | .yld _,v,f,h,_,k=>by
  have:=C_sim (r:=r) _ v h (by simp only [R] at k;exact k.2)
  simp only [R] at k
  simp only [ren,AV.mapv,ren1] at this ⊢
  simp only [R]
  exact ⟨k.1,this⟩
theorem RL_sim {r:Nat→Nat} {m m':Mem} {w w':World}:∀ (cs:List AV) (g g':Nat→Option Value) (f:List Nat),Sim r (idsL cs) m m'→(∀ g∈f,w'.heap[g]? = w.heap[g]?)→(∀ i u,g i=some u→g' i=some u)→RL m w cs g f→RL m' w' (mapL (ren1 r) cs) g' f
 | [],_,_,f,_,_,_,k=>by simpa [mapL,RL] using k
 |x::xs,g,g',f,h,hw,hg,k=>by
  simp only [RL,mapL] at k ⊢
  obtain ⟨f1,f2,rfl,⟨u,h1,h2⟩,h3⟩:=k
  exact ⟨f1,f2,rfl,⟨u,hg _ _ h1,R_sim x u f1 (h.sub (fun x hx=>by simp [idsL,hx])) (fun x hx=>hw x (by simp [hx])) h2⟩,RL_sim xs _ _ f2 (h.sub (fun x hx=>by simp [idsL,hx])) (fun x hx=>hw x (by simp [hx])) (fun i=>hg _) h3⟩
end
theorem R_mono {m m':Mem} {w w':World} (h:m.le m') {x:AV} {v:Value} {f:List Nat} (hw:∀ g∈f,w'.heap[g]? = w.heap[g]?) (k:R m w x v f):R m' w' x v f:=by
 have:=R_sim (r:=id) x v f (h.sim _) hw k
 rwa [ren_id] at this
theorem RL_mono {m m':Mem} {w w':World} (h:m.le m') {cs:List AV} {g g':Nat→Option Value} {f:List Nat} (hw:∀ g∈f,w'.heap[g]? = w.heap[g]?) (hg:∀ i u,g i=some u→g' i=some u) (k:RL m w cs g f):RL m' w' cs g' f:=by
 have:=RL_sim (r:=id) cs g g' f (h.sim _) hw hg k
 rwa [renL_id] at this
theorem RL_append {m:Mem} {w:World}:∀ (xs ys:List AV) (g:Nat→Option Value) (f:List Nat),RL m w (xs++ys) g f↔∃ f1 f2,f=f1++f2∧RL m w xs g f1∧RL m w ys (fun i=>g (xs.length+i)) f2
 | [],ys,g,f=>by
  simp only [List.nil_append,RL,List.length_nil,Nat.zero_add]
  constructor
  ·intro h;exact ⟨[],f,rfl,rfl,h⟩
  ·rintro ⟨f1,f2,rfl,rfl,h⟩;exact h
 |x::xs,ys,g,f=>by
  simp only [List.cons_append,RL,RL_append xs ys,List.length_cons]
  constructor
  ·rintro ⟨f1,f2,rfl,h1,f3,f4,rfl,h2,h3⟩
   exact ⟨f1++f3,f4,by simp,⟨f1,f3,rfl,h1,h2⟩,by simpa only [Nat.add_assoc,Nat.add_comm 1] using h3⟩
  ·rintro ⟨f1,f2,rfl,⟨f3,f4,rfl,h1,h2⟩,h3⟩
   exact ⟨f3,f4++f2,by simp,h1,f4,f2,rfl,h2,by simpa only [Nat.add_assoc,Nat.add_comm 1] using h3⟩
theorem RL_length {m:Mem} {w:World} {cs:List AV} {cur:Array Value} {f:List Nat} (h:RL m w cs (fun i=>cur[i]?) f):cs.length≤cur.size:=by
 have key:∀ (cs:List AV) (g:Nat→Option Value) (f:List Nat),RL m w cs g f→∀ i,i<cs.length→(g i).isSome=true:=by
  intro cs
  induction cs with
  |nil=>intro g f _ i hi;simp at hi
  |cons x xs ih=>
   intro g f h i hi
   simp only [RL] at h
   obtain ⟨f1,f2,_,⟨u,h1,_⟩,h3⟩:=h
   cases i with
   |zero=>rw [h1];rfl
   |succ i=>exact ih _ f2 h3 i (by simpa using hi)
 rcases Nat.eq_zero_or_pos cs.length with h0 | h0
 ·omega
 ·have:=key cs _ f h (cs.length - 1) (by omega)
  simp only [Array.getElem?_eq_some_iff,Option.isSome_iff_exists] at this
  obtain ⟨_,h1,_⟩:=this
  omega
theorem R_okc {m:Mem} {w:World} {x:AV} {v:Value} {f:List Nat} (h:R m w x v f) (hx:x.okc=true):v.oneCell'=true:=by
 cases x
 case vec=>simp only [R] at h;obtain ⟨_,a,n,c,rfl,_⟩:=h;rfl
 case box=>simp only [R] at h;obtain ⟨_,g,cur,t,f',rfl,_⟩:=h;rfl
 case mp=>simp only [R] at h
 case clo=>simp only [R] at h;obtain ⟨fn,a,b,f1,f2,rfl,_⟩:=h;rfl
 case ifc=>simp only [R] at h;obtain ⟨u,rfl,_⟩:=h;rfl
 case agg=>simp [AV.okc] at hx
 case tup=>simp [AV.okc] at hx
 all_goals (simp only [R] at h;exact C_okc h.2 hx)
def EnvOk (m:Mem) (env:List (Nat × AV)) (ts:Array Value):Prop:=∀ s,C m (lk env s) (ts.getD s undef)
theorem EnvOk.mono {m m':Mem} {env:List (Nat × AV)} {ts:Array Value} (h:EnvOk m env ts) (hm:m.le m'):EnvOk m' env ts:=fun s=>C_mono hm _ _ (h s)
def jcode:AX→Option Code
 | .normal=>none
 | .exit id=>some (.exit id)
 | .ret=>some .ret
def CodeS (P:Program) (fid:FuncId→Option Nat) (nt:Nat) (c:Code) (s:Stmt):Prop:=ccode P fid nt c=some (erase s)∧drawS c s=true∧(drawn c=true→P.follows .mixedOrders=true)
def LoopOk (m:Mem) (st:Nat) (env:List (Nat × AV)) (ps:List Nat) (asg body:Stmt) (j:AX) (l:Loop):Prop:=
 ((st=0∧l.state=.ready∧l.pending=none∧j=.normal)∨(st=1∧l.state=.busy)∨(st=2∧l.state=.done∧∃ c,jcode j=some c∧l.pending=some c)) ∧
 EnvOk m env l.tmps∧l.params.toList=ps∧∃ nt,nt≤l.tmps.size∧(∀ p∈ps,p<nt)∧CodeS m.P m.cd nt l.assign asg∧CodeS m.P m.cd nt l.body body∧rangeless l.assign=true∧rangeless l.body=true
def BlkOk (m:Mem) (w:World) (b:Blk) (e:Ent) (f:List Nat):Prop:=
 match b with
 | .dead=>f=[]
 | .row fr cs=>cs.all AV.okc=true∧cs.length=e.n*e.sz∧(cs=[]→e.n=0)∧e.n≤e.cap ∧
   ((e.b=none∧e.cap=0∧f=[])∨∃ g,e.b=some g∧e.a=some ⟨g,0,none⟩ ∧
    (fr=false→∃ cur t f',w.heap[g]? = some (.cells cur t (0,0))∧cur.size=e.cap*e.sz∧f=g::f'∧RL m w cs (fun i=>cur[i]?) f') ∧
    (fr=true→f=[]∧CL m cs (fun i=>m.im g i)))
 | .mp ks vs=>∃ g es f',e.b=some g∧f=g::f'∧w.heap[g]? = some (.map es es.size)∧ks.length=es.size∧vs.length=es.size∧CL m ks (fun i=>(es[i]?).map (·.key))∧RL m w vs (fun i=>(es[i]?).map (·.val)) f'∧∀ (i:Nat) (x:MapEntry),es[i]? = some x→x.born=i
 | .it mid n seen=>∃ g em bm,e.b=some g∧f=[g]∧m.bl[mid]? = some em∧em.b=some bm∧w.heap[g]? = some (.mapIter (some bm) n seen.toArray n)
 | .lp st env ps asg body j=>∃ g l,e.b=some g∧f=[g]∧w.heap[g]? = some (.loop l)∧LoopOk m st env ps asg body j l
structure HInv (fr:Nat→Prop) (w0:World) (m:Mem) (hp:List Blk) (w:World) (fl:List Nat):Prop where
 os:w.os=w0.os
 tape:w.tape=w0.tape
 output:w.output=w0.output
 size:w0.heap.size≤w.heap.size
 fix:∀ g,fr g→g<w.heap.size∧w.heap[g]? = w0.heap[g]?
 len:m.bl.length=hp.length
 im:∀ b o u,m.im b o=some u→w.cell? ⟨b,o,none⟩=some u
 blk:∀ (id:Nat) b e,hp[id]? = some b→m.bl[id]? = some e→BlkOk m w b e (m.fp id)
 own:∀ id g,g∈m.fp id→¬ fr g∧g<w.heap.size∧∀ o,m.im g o=none
 nd:∀ id,(m.fp id).Nodup
 dj:∀ i j g,g∈m.fp i→g∈m.fp j→i=j
 fpz:∀ id,hp.length≤id→m.fp id=[]
 fown:∀ g∈fl,¬ fr g∧g<w.heap.size∧∀ o,m.im g o=none
 fnd:fl.Nodup
 fdj:∀ id g,g∈m.fp id→g ∉ fl
theorem BlkOk.mono {m m':Mem} {w w':World} {b:Blk} {e:Ent} {f:List Nat} (h:BlkOk m w b e f) (hm:m.le m') (hw:∀ g∈f,w'.heap[g]? = w.heap[g]?):BlkOk m' w' b e f:=by
 cases b with
 |dead=>exact h
 |row fr cs=>
  obtain ⟨h1,h3,h4,h5,h6⟩:=h
  refine ⟨h1,h3,h4,h5,?_⟩
  rcases h6 with h6 | ⟨g,h7,h8,h9,h10⟩
  ·exact .inl h6
  ·refine .inr ⟨g,h7,h8,fun hf=>?_,fun hf=>?_⟩
   ·obtain ⟨cur,t,f',k1,k2,rfl,k4⟩:=h9 hf
    exact ⟨cur,t,f',by rw [hw g (by simp)];exact k1,k2,rfl,RL_mono hm (fun x hx=>hw x (by simp [hx])) (fun _ _ h=>h) k4⟩
   ·obtain ⟨k1,k2⟩:=h10 hf
    exact ⟨k1,CL_mono hm _ _ _ (fun i u=>hm.im _ _ _) k2⟩
 |mp ks vs=>
  obtain ⟨g,es,f',h1,rfl,h3,h4,h5,h6,h7,h8⟩:=h
  exact ⟨g,es,f',h1,rfl,by rw [hw g (by simp)];exact h3,h4,h5,CL_mono hm _ _ _ (fun _ _ h=>h) h6,RL_mono hm (fun x hx=>hw x (by simp [hx])) (fun _ _ h=>h) h7,h8⟩
 |it mid n seen=>
  obtain ⟨g,em,bm,h1,rfl,h3,h4,h5⟩:=h
  exact ⟨g,em,bm,h1,rfl,hm.bl _ _ h3,h4,by rw [hw g (by simp)];exact h5⟩
 |lp st env ps asg body j=>
  obtain ⟨g,l,h2,rfl,h4,h5,h6,h7,nt,h8,h9,h10,h11⟩:=h
  exact ⟨g,l,h2,rfl,by rw [hw g (by simp)];exact h4,h5,h6.mono hm,h7,nt,h8,h9,by rw [hm.P,hm.cd];exact h10,by rw [hm.P,hm.cd];exact h11⟩
theorem get_app {α:Type} {l:List α} {x y:α} {i:Nat} (h:(l++[x])[i]? = some y):(i<l.length∧l[i]? = some y)∨(i=l.length∧x=y):=by
 rcases Nat.lt_trichotomy i l.length with h1 | h1 | h1
 ·left;rw [List.getElem?_append_left h1] at h;exact ⟨h1,h⟩
 ·right;subst h1;simp at h;exact ⟨rfl,h⟩
 ·rw [List.getElem?_eq_none (by simp;omega)] at h;cases h
theorem get_old {α:Type} {l:List α} {x y:α} {i:Nat} (hi:i<l.length) (h:(l++[x])[i]? = some y):l[i]? = some y:=by
 rwa [List.getElem?_append_left hi] at h
theorem get_new {α:Type} {l:List α} {x:α}:(l++[x])[l.length]? = some x:=by simp
theorem le_app {m:Mem} (l:List Ent) (F:Nat→List Nat):m.le { m with bl:=m.bl++l,fp:=F }:=
 ⟨rfl,rfl,fun _ _ _ h=>h,fun id e h=>by show (m.bl++l)[id]? = some e;rw [List.getElem?_append_left (List.getElem?_eq_some_iff.1 h).1];exact h⟩
theorem le_fp {m:Mem} (F:Nat→List Nat):m.le { m with fp:=F }:=⟨rfl,rfl,fun _ _ _ h=>h,fun _ _ h=>h⟩
theorem frzL_len:∀ (cs:List AV),(mapL frz1 cs).length=cs.length∧(mapL frz1 cs=[]→cs=[])∧(mapL frz1 cs).all AV.okc=cs.all AV.okc
 | []=>by simp [mapL]
 |x::xs=>by
  obtain ⟨e1,_,e3⟩:=frzL_len xs
  refine ⟨by simp [mapL,e1],by simp [mapL],?_⟩
  simp only [mapL,List.all_cons,e3]
  congr 1
  cases x<;>simp [AV.mapv,frz1,AV.okc]
mutual
theorem frzC_ok {m':Mem}:∀ (cs:List AV) (g:Nat→Option Value),CL m' cs g→CL m' (mapL frz1 cs) g
 | [],_,_=>by simp [mapL,CL]
 |x::xs,g,k=>by
  simp only [CL] at k
  obtain ⟨⟨u,h1,h2⟩,h3⟩:=k
  simp only [mapL,CL]
  exact ⟨⟨u,h1,frzC1_ok x u h2⟩,frzC_ok xs _ h3⟩
theorem frzC1_ok {m':Mem}:∀ (x:AV) (v:Value),C m' x v→C m' (x.mapv frz1) v
 | .vec _ _,_,k | .box _,_,k | .mp _ _,_,k=>by simp only [C] at k
 | .clo q fs cs,v,k=>by
  simp only [C,AV.mapv,frz1] at k ⊢
  obtain ⟨fn,fs',cs',rfl,h2,h3,h4,h6,h7⟩:=k
  exact ⟨fn,fs',cs',rfl,h2,by rw [(frzL_len fs).1];exact h3,by rw [(frzL_len cs).1];exact h4,frzC_ok fs _ h6,frzC_ok cs _ h7⟩
 | .ifc t x,v,k=>by
  simp only [C,AV.mapv,frz1] at k ⊢
  obtain ⟨u,rfl,h2⟩:=k
  exact ⟨u,rfl,frzC1_ok x u h2⟩
 | .agg cs,v,k=>by
  simp only [C,AV.mapv,frz1] at k ⊢
  obtain ⟨h1,vs,rfl,h3,h4⟩:=k
  exact ⟨by rw [(frzL_len cs).2.2];exact h1,vs,rfl,by rw [(frzL_len cs).1];exact h3,frzC_ok cs _ h4⟩
 | .tup cs,v,k=>by
  simp only [C,AV.mapv,frz1] at k ⊢
  obtain ⟨vs,rfl,h3,h4⟩:=k
  exact ⟨vs,rfl,by rw [(frzL_len cs).1];exact h3,frzC_ok cs _ h4⟩
 | .sl sz cs,v,k=>by
  simp only [C,AV.mapv,frz1] at k ⊢
  obtain ⟨h1,a,n,c,rfl,h3,h4,h5,h6⟩:=k
  obtain ⟨e1,e2,e3⟩:=frzL_len cs
  refine ⟨by rw [e3];exact h1,a,n,c,rfl,by rw [e1];exact h3,fun h=>h4 (e2 h),h5,fun hne=>?_⟩
  obtain ⟨b,o,h7,h8⟩:=h6 (fun e=>hne (by subst e;rfl))
  exact ⟨b,o,h7,frzC_ok cs _ h8⟩
 | .ip cs,v,k=>by
  simp only [C,AV.mapv,frz1] at k ⊢
  obtain ⟨h1,b,o,rfl,h8⟩:=k
  exact ⟨by rw [(frzL_len cs).2.2];exact h1,b,o,rfl,frzC_ok cs _ h8⟩
 | .unk,v,k | .any,v,k | .maybe _ _,v,k | .bool _,v,k | .int _ _,v,k | .str _,v,k | .nils,v,k | .nilp,v,k | .nilf,v,k | .nili,v,k | .nilm,v,k | .own _ _,v,k | .osl _ _ _ _,v,k | .ref _ _,v,k | .mref _,v,k | .yld _,v,k=>by
  simpa only [AV.mapv,frz1] using k
end
section
variable {fr:Nat→Prop} {w0 w:World} {m:Mem} {hp:List Blk} {fl fl':List Nat}
theorem HInv.perm (H:HInv fr w0 m hp w fl) (h:fl.Perm fl'):HInv fr w0 m hp w fl':=
 ⟨H.os,H.tape,H.output,H.size,H.fix,H.len,H.im,H.blk,H.own,H.nd,H.dj,H.fpz,fun g hg=>H.fown g (h.mem_iff.2 hg),h.nodup_iff.1 H.fnd,fun id g h1 h2=>H.fdj id g h1 (h.mem_iff.2 h2)⟩
theorem HInv.fsub (H:HInv fr w0 m hp w fl) (h:∀ g∈fl',g∈fl) (hn:fl'.Nodup):HInv fr w0 m hp w fl':=
 ⟨H.os,H.tape,H.output,H.size,H.fix,H.len,H.im,H.blk,H.own,H.nd,H.dj,H.fpz,fun g hg=>H.fown g (h g hg),hn,fun id g h1 h2=>H.fdj id g h1 (h g h2)⟩
theorem HInv.drop (H:HInv fr w0 m hp w fl):HInv fr w0 m hp w []:=H.fsub (by simp) (by simp)
theorem HInv.left {f1 f2:List Nat} (H:HInv fr w0 m hp w (f1++f2)):HInv fr w0 m hp w f1:=H.fsub (fun g hg=>by simp [hg]) (List.nodup_append.1 H.fnd).1
theorem HInv.imlt (H:HInv fr w0 m hp w fl) {b o:Nat} {u:Value} (h:m.im b o=some u):b<w.heap.size:=World.block_lt_of_cell? w ⟨b,o,none⟩ (H.im b o u h)
theorem HInv.at_ (H:HInv fr w0 m hp w fl) {id:Nat} {b:Blk} (hb:hp[id]? = some b):∃ e,m.bl[id]? = some e∧BlkOk m w b e (m.fp id):=by
 have hlt:id<m.bl.length:=by rw [H.len];exact (List.getElem?_eq_some_iff.1 hb).1
 exact ⟨_,List.getElem?_eq_getElem hlt,H.blk id b _ hb (List.getElem?_eq_getElem hlt)⟩
theorem HInv.drew (H:HInv fr w0 m hp w fl):HInv fr w0 m hp w.drew fl:=
 ⟨H.os,H.tape,H.output,H.size,H.fix,H.len,fun b o u h=>H.im b o u h,fun id b x h k=>(H.blk id b x h k).mono (Mem.le.refl m) (fun _ _=>rfl),H.own,H.nd,H.dj,H.fpz,H.fown,H.fnd,H.fdj⟩
theorem HInv.world (H:HInv fr w0 m hp w fl) {w':World} (h1:w'.os=w.os) (h2:w'.tape=w.tape) (h3:w'.output=w.output) (hs:w.heap.size≤w'.heap.size) (hb:∀ g,g<w.heap.size→w'.heap[g]? = w.heap[g]?):HInv fr w0 m hp w' fl:=
 ⟨h1.trans H.os,h2.trans H.tape,h3.trans H.output,Nat.le_trans H.size hs,fun g hg=>⟨Nat.lt_of_lt_of_le (H.fix g hg).1 hs,(hb g (H.fix g hg).1).trans (H.fix g hg).2⟩,H.len,
  fun b o u h=>by rw [World.cell?_of_block (w:=w) (a:=⟨b,o,none⟩) (hb b (H.imlt h))];exact H.im b o u h,
  fun id b x h k=>(H.blk id b x h k).mono (Mem.le.refl m) (fun g hg=>hb g (H.own id g hg).2.1),fun id g hg=>⟨(H.own id g hg).1,Nat.lt_of_lt_of_le (H.own id g hg).2.1 hs,(H.own id g hg).2.2⟩,H.nd,H.dj,H.fpz,
  fun g hg=>⟨(H.fown g hg).1,Nat.lt_of_lt_of_le (H.fown g hg).2.1 hs,(H.fown g hg).2.2⟩,H.fnd,H.fdj⟩
theorem HInv.alloc0 (H:HInv fr w0 m hp w fl) (o:Obj):HInv fr w0 m hp (w.alloc o) (w.heap.size::fl):=by
 have H1:=H.world (w':=w.alloc o) rfl rfl rfl (by simp) (fun g hg=>Below.heap_alloc w o g hg)
 refine ⟨H1.os,H1.tape,H1.output,H1.size,H1.fix,H1.len,H1.im,H1.blk,H1.own,H1.nd,H1.dj,H1.fpz,?_,?_,?_⟩
 ·intro g hg
  rcases List.mem_cons.1 hg with rfl | hg
  ·refine ⟨fun h=>Nat.lt_irrefl _ (H.fix _ h).1,by simp,fun o=>?_⟩
   cases hi:m.im w.heap.size o with
   |none=>rfl
   |some u=>exact absurd (H.imlt hi) (Nat.lt_irrefl _)
  ·exact H1.fown g hg
 ·rw [List.nodup_cons]
  exact ⟨fun h=>Nat.lt_irrefl _ (H.fown _ h).2.1,H.fnd⟩
 ·intro id g hg h
  rcases List.mem_cons.1 h with rfl | h
  ·exact Nat.lt_irrefl _ (H.own id _ hg).2.1
  ·exact H.fdj id g hg h
theorem HInv.adopt {f:List Nat} (H:HInv fr w0 m hp w (f++fl)) {b:Blk} {x:Ent} (hb:BlkOk m w b x f):
  HInv fr w0 { m with bl:=m.bl++[x],fp:=fun k=>if k=hp.length then f else m.fp k } (hp++[b]) w fl:=by
 have hle:=le_app (m:=m) [x] (fun k=>if k=hp.length then f else m.fp k)
 have hnd:=List.nodup_append.1 H.fnd
 refine ⟨H.os,H.tape,H.output,H.size,H.fix,by simp [H.len],H.im,?_,?_,?_,?_,?_,fun g hg=>H.fown g (by simp [hg]),hnd.2.1,?_⟩
 ·intro id b' x' h k
  rcases get_app h with ⟨h1,h2⟩ | ⟨rfl,rfl⟩
  ·have k':=get_old (by rw [H.len];exact h1) k
   have:=(H.blk id b' x' h2 k').mono hle (fun _ _=>rfl)
   simpa [show id≠hp.length by omega] using this
  ·rw [←H.len] at k
   rw [show (m.bl++[x])[m.bl.length]? = some x from get_new] at k
   injection k with k;subst k
   simpa using hb.mono hle (fun _ _=>rfl)
 ·intro id g hg
  change g∈(if id=hp.length then f else m.fp id) at hg
  split at hg
  ·exact H.fown g (by simp [hg])
  ·exact H.own id g hg
 ·intro id
  show (if id=hp.length then f else m.fp id).Nodup
  split
  ·exact hnd.1
  ·exact H.nd id
 ·intro i j g hi hj
  change g∈(if i=hp.length then f else m.fp i) at hi
  change g∈(if j=hp.length then f else m.fp j) at hj
  split at hi<;>split at hj
  ·omega
  ·exact absurd (by simp [hi]) (H.fdj j g hj)
  ·exact absurd (by simp [hj]) (H.fdj i g hi)
  ·exact H.dj i j g hi hj
 ·intro id hid
  simp at hid
  show (if id=hp.length then f else m.fp id)=[]
  rw [if_neg (by omega)]
  exact H.fpz id (by omega)
 ·intro id g hg h
  change g∈(if id=hp.length then f else m.fp id) at hg
  split at hg
  ·exact hnd.2.2 g hg g h rfl
  ·exact H.fdj id g hg (by simp [h])
theorem HInv.turn {f g:List Nat} (H:HInv fr w0 m hp w fl) {i:Nat} {b:Blk} {x:Ent} (hx:m.bl[i]? = some x) (hsub:∀ q∈f++g,q∈m.fp i∨q∈fl) (hnd:(f++g).Nodup) (hb:BlkOk m w b x f):
  HInv fr w0 { m with fp:=fun k=>if k=i then f else m.fp k } (hp.set i b) w g:=by
 have hi:i<hp.length:=by rw [←H.len];exact (List.getElem?_eq_some_iff.1 hx).1
 have hle:=le_fp (m:=m) (fun k=>if k=i then f else m.fp k)
 have hnd':=List.nodup_append.1 hnd
 have hown:∀ q∈f++g,¬ fr q∧q<w.heap.size∧∀ o,m.im q o=none:=fun q hq=>by
  rcases hsub q hq with h | h
  ·exact H.own i q h
  ·exact H.fown q h
 have hother:∀ q∈f++g,∀ k,k≠i→q ∉ m.fp k:=fun q hq k hk h=>by
  rcases hsub q hq with h' | h'
  ·exact hk (H.dj k i q h h')
  ·exact H.fdj k q h h'
 refine ⟨H.os,H.tape,H.output,H.size,H.fix,by simp [H.len],H.im,?_,?_,?_,?_,?_,fun q hq=>hown q (by simp [hq]),hnd'.2.1,?_⟩
 ·intro id b' x' h k
  change m.bl[id]? = some x' at k
  by_cases hid':i=id
  ·subst hid'
   rw [List.getElem?_set_self hi] at h
   injection h with h;subst h
   rw [hx] at k;injection k with k;subst k
   simpa using hb.mono hle (fun _ _=>rfl)
  ·rw [List.getElem?_set_ne hid'] at h
   have:=(H.blk id b' x' h k).mono hle (fun _ _=>rfl)
   simpa [show id≠i from fun e=>hid' e.symm] using this
 ·intro id q hq
  change q∈(if id=i then f else m.fp id) at hq
  split at hq
  ·exact hown q (by simp [hq])
  ·exact H.own id q hq
 ·intro id
  show (if id=i then f else m.fp id).Nodup
  split
  ·exact hnd'.1
  ·exact H.nd id
 ·intro a b q ha hb
  change q∈(if a=i then f else m.fp a) at ha
  change q∈(if b=i then f else m.fp b) at hb
  split at ha<;>split at hb
  ·omega
  ·rename_i _ hb';exact absurd hb (hother q (by simp [ha]) b hb')
  ·rename_i ha' _;exact absurd ha (hother q (by simp [hb]) a ha')
  ·exact H.dj a b q ha hb
 ·intro id hid'
  simp at hid'
  show (if id=i then f else m.fp id)=[]
  rw [if_neg (by omega)]
  exact H.fpz id hid'
 ·intro id q hq h
  change q∈(if id=i then f else m.fp id) at hq
  split at hq
  ·exact hnd'.2.2 q hq q h rfl
  ·rename_i hne
   exact hother q (by simp [h]) id hne hq
theorem HInv.kill (H:HInv fr w0 m hp w fl) (i:Nat):HInv fr w0 { m with fp:=fun k=>if k=i then [] else m.fp k } (hp.set i .dead) w (m.fp i++fl):=by
 by_cases hi:i<hp.length
 ·have hx:m.bl[i]? = some (m.bl[i]'(by rw [H.len];exact hi)):=List.getElem?_eq_getElem _
  refine H.turn (f:=[]) hx (fun q hq=>by simpa using hq) ?_ rfl
  simp only [List.nil_append]
  rw [List.nodup_append]
  exact ⟨H.nd i,H.fnd,fun a ha b hb e=>H.fdj i a ha (by rw [e];exact hb)⟩
 ·have h0:=H.fpz i (by omega)
  have e1:(fun k=>if k=i then [] else m.fp k)=m.fp:=by
   funext k
   split
   ·rename_i h;rw [h,h0]
   ·rfl
  rw [e1,h0,List.set_eq_of_length_le (by omega)]
  exact H
theorem HInv.setFloat (H:HInv fr w0 m hp w fl) {g:Nat} (hg:g∈fl) (cur:Array Value):HInv fr w0 m hp (w.setRow g cur) fl:=by
 have hne:∀ k,k≠g→(w.setRow g cur).heap[k]? = w.heap[k]?:=fun k hk=>setRow_other w g k cur hk
 refine ⟨H.os,H.tape,H.output,by simpa using H.size,?_,H.len,?_,?_,fun id q hq=>by simpa using H.own id q hq,H.nd,H.dj,H.fpz,fun q hq=>by simpa using H.fown q hq,H.fnd,H.fdj⟩
 ·intro q hq
  have h1:=H.fix q hq
  refine ⟨by simpa using h1.1,(hne q ?_).trans h1.2⟩
  rintro rfl
  exact (H.fown q hg).1 hq
 ·intro b o u h
  have hb:b≠g:=by
   rintro rfl
   rw [(H.fown b hg).2.2 o] at h;cases h
  rw [World.cell?_of_block (w:=w) (a:=⟨b,o,none⟩) (hne b hb)]
  exact H.im b o u h
 ·intro id b e h k
  refine (H.blk id b e h k).mono (Mem.le.refl m) (fun q hq=>hne q ?_)
  rintro rfl
  exact H.fdj id q hq hg
theorem fp_set (F:Nat→List Nat) (i:Nat) (f f':List Nat):(fun k=>if k=i then f else (fun k=>if k=i then f' else F k) k)=fun k=>if k=i then f else F k:=by
 funext k;split<;>simp_all
theorem HInv.write {f g':List Nat} (H:HInv fr w0 m hp w fl) {i g:Nat} {b:Blk} {x:Ent} {cur':Array Value} (hx:m.bl[i]? = some x) (hg:g∈m.fp i)
  (hsub:∀ q∈f++g',q∈m.fp i∨q∈fl) (hnd:(f++g').Nodup) (hb:BlkOk m (w.setRow g cur') b x f):
  HInv fr w0 { m with fp:=fun k=>if k=i then f else m.fp k } (hp.set i b) (w.setRow g cur') g':=by
 have H1:=(H.kill i).setFloat (g:=g) (by simp [hg]) cur'
 have H2:=H1.turn (f:=f) (g:=g') (i:=i) (b:=b) (x:=x) hx (fun q hq=>.inr (by simpa using hsub q hq)) hnd (hb.mono (le_fp _) (fun _ _=>rfl))
 rw [List.set_set] at H2
 simp only [fp_set] at H2
 exact H2
mutual
theorem frz_ok {m':Mem} (hle:m.le m'):∀ (x:AV) (v:Value) (f:List Nat),R m w x v f→(∀ g∈f,∀ o,m'.im g o=w.cell? ⟨g,o,none⟩)→C m' (frz x) v
 | .vec sz cs,v,f,k,hf=>by
  simp only [R] at k
  obtain ⟨h1,a,n,c,rfl,h3,h4,h5,h6⟩:=k
  simp only [frz,AV.mapv,frz1,C]
  obtain ⟨e1,e2,e3⟩:=frzL_len cs
  refine ⟨by rw [e3];exact h1,a,n,c,rfl,by rw [e1];exact h3,fun h=>h4 (e2 h),h5,fun hne=>?_⟩
  rcases h6 with ⟨rfl,rfl⟩ | ⟨g,cur,t,f',rfl,h8,h9,rfl,h10⟩
  ·have:n=0:=by omega
   subst this
   exact absurd (List.eq_nil_of_length_eq_zero (by rw [e1,h3];simp)) hne
  ·refine ⟨g,0,rfl,?_⟩
   refine CL_ext (fun i u hu=>?_) (frzL_ok hle cs _ f' h10 (fun q hq=>hf q (by simp [hq])))
   rw [Nat.zero_add,hf g (by simp)]
   simpa [World.cell?,h8] using hu
 | .box cs,v,f,k,hf=>by
  simp only [R] at k
  obtain ⟨h1,g,cur,t,f',rfl,h8,rfl,h10⟩:=k
  simp only [frz,AV.mapv,frz1,C]
  obtain ⟨e1,e2,e3⟩:=frzL_len cs
  refine ⟨by rw [e3];exact h1,g,0,rfl,?_⟩
  refine CL_ext (fun i u hu=>?_) (frzL_ok hle cs _ f' h10 (fun q hq=>hf q (by simp [hq])))
  rw [Nat.zero_add,hf g (by simp)]
  simpa [World.cell?,h8] using hu
 | .mp _ _,v,f,k,_=>by simp only [R] at k
 | .clo q fs cs,v,f,k,hf=>by
  simp only [R] at k
  obtain ⟨fn,fs',cs',f1,f2,rfl,h2,h3,h4,rfl,h6,h7⟩:=k
  simp only [frz,AV.mapv,frz1,C]
  exact ⟨fn,fs',cs',rfl,by rw [hle.cd];exact h2,by rw [(frzL_len fs).1];exact h3,by rw [(frzL_len cs).1];exact h4,frzL_ok hle fs _ f1 h6 (fun q hq=>hf q (by simp [hq])),frzL_ok hle cs _ f2 h7 (fun q hq=>hf q (by simp [hq]))⟩
 | .ifc t x,v,f,k,hf=>by
  simp only [R] at k
  obtain ⟨u,rfl,h2⟩:=k
  simp only [frz,AV.mapv,frz1,C]
  exact ⟨u,rfl,frz_ok hle x u f h2 hf⟩
 | .agg cs,v,f,k,hf=>by
  simp only [R] at k
  obtain ⟨h1,vs,rfl,h3,h4⟩:=k
  simp only [frz,AV.mapv,frz1,C]
  exact ⟨by rw [(frzL_len cs).2.2];exact h1,vs,rfl,by rw [(frzL_len cs).1];exact h3,frzL_ok hle cs _ f h4 hf⟩
 | .tup cs,v,f,k,hf=>by
  simp only [R] at k
  obtain ⟨vs,rfl,h3,h4⟩:=k
  simp only [frz,AV.mapv,frz1,C]
  exact ⟨vs,rfl,by rw [(frzL_len cs).1];exact h3,frzL_ok hle cs _ f h4 hf⟩
 | .sl sz cs,v,f,k,hf=>by
  simp only [R] at k
  obtain ⟨rfl,k⟩:=k
  have k:=C_mono hle _ _ k
  simp only [frz,AV.mapv,frz1]
  simp only [C] at k ⊢
  obtain ⟨h1,a,n,c,rfl,h3,h4,h5,h6⟩:=k
  obtain ⟨e1,e2,e3⟩:=frzL_len cs
  refine ⟨by rw [e3];exact h1,a,n,c,rfl,by rw [e1];exact h3,fun h=>h4 (e2 h),h5,fun hne=>?_⟩
  obtain ⟨b,o,h7,h8⟩:=h6 (fun e=>hne (by subst e;rfl))
  exact ⟨b,o,h7,frzC_ok cs _ h8⟩
 | .ip cs,v,f,k,hf=>by
  simp only [R] at k
  obtain ⟨rfl,k⟩:=k
  have k:=C_mono hle _ _ k
  simp only [frz,AV.mapv,frz1]
  simp only [C] at k ⊢
  obtain ⟨h1,b,o,rfl,h8⟩:=k
  exact ⟨by rw [(frzL_len cs).2.2];exact h1,b,o,rfl,frzC_ok cs _ h8⟩
 | .unk,v,f,k,hf | .any,v,f,k,hf | .maybe _ _,v,f,k,hf | .bool _,v,f,k,hf | .int _ _,v,f,k,hf | .str _,v,f,k,hf | .nils,v,f,k,hf | .nilp,v,f,k,hf | .nilf,v,f,k,hf | .nili,v,f,k,hf | .nilm,v,f,k,hf | .own _ _,v,f,k,hf | .osl _ _ _ _,v,f,k,hf | .ref _ _,v,f,k,hf | .mref _,v,f,k,hf | .yld _,v,f,k,hf=>by
  simp only [R] at k
  simpa only [frz,AV.mapv,frz1] using C_mono hle _ _ k.2
theorem frzL_ok {m':Mem} (hle:m.le m'):∀ (cs:List AV) (g:Nat→Option Value) (f:List Nat),RL m w cs g f→(∀ g∈f,∀ o,m'.im g o=w.cell? ⟨g,o,none⟩)→CL m' (mapL frz1 cs) g
 | [],_,_,_,_=>by simp [mapL,CL]
 |x::xs,g,f,k,hf=>by
  simp only [RL] at k
  obtain ⟨f1,f2,rfl,⟨u,h1,h2⟩,h3⟩:=k
  simp only [mapL,CL]
  exact ⟨⟨u,h1,frz_ok hle x u f1 h2 (fun q hq=>hf q (by simp [hq]))⟩,frzL_ok hle xs _ f2 h3 (fun q hq=>hf q (by simp [hq]))⟩
end
end
end Go.Proofs.Ytfbfbennheeglaa
