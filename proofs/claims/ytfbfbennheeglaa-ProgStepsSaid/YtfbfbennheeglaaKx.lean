import Derived.Test.YtfbfbennheeglaaKv
namespace Go.Proofs.Ytfbfbennheeglaa
set_option linter.unusedSimpArgs false
set_option linter.unusedVariables false
attribute [go_sem] Nat.reduceEqDiff Nat.reduceAdd Int.reduceToNat reduceCtorEq Nat.reduceLeDiff Nat.reduceSub Nat.reduceDiv Nat.reduceMod Nat.reduceMul
attribute [go_sem ↓] reduceIte
section
variable {T:Nat→Option Entry}
def Ev (T:Nat→Option Entry) (s:Stmt) (st:St) (Q:AX→St→Prop):Prop:=∃ r,run T (.stmt s st)=some r∧Q r.1 r.2
def EvO (T:Nat→Option Entry) (d:Bool) (l:List SOp) (st:St) (Q:St→Prop):Prop:=∃ r,run T (.ops d l st)=some r∧Q r.2
@[congr] theorem Ev_congr {s:Stmt} {st st':St} {Q:AX→St→Prop} (h:st=st'):Ev T s st Q=Ev T s st' Q:=by rw [h]
@[congr] theorem EvO_congr {d:Bool} {l:List SOp} {st st':St} {Q:St→Prop} (h:st=st'):EvO T d l st Q=EvO T d l st' Q:=by rw [h]
def thn:AX→Prop→Prop→Prop
 | .normal,a,_=>a
 |_,_,b=>b
@[congr] theorem thn_congr {x x':AX} {a b:Prop} (h:x=x'):thn x a b=thn x' a b:=by rw [h]
theorem thn_normal (a b:Prop):thn .normal a b=a:=rfl
theorem thn_ret (a b:Prop):thn .ret a b=b:=rfl
theorem thn_exit (id:Nat) (a b:Prop):thn (.exit id) a b=b:=rfl
def both (T:Nat→Option Entry) (a b:Stmt) (st:St) (Q:AX→St→Prop):Prop:=∃ r,run T (.stmt a st)=some r∧run T (.stmt b st)=some r∧Q r.1 r.2
def cnd:AV→Prop→Prop→Prop→Prop
 | .bool c,a,b,_=>if c=true then a else b
 | .maybe e c,a,b,m=>if e then m else if c=true then a else b
 |_,_,_,_=>False
@[congr] theorem cnd_congr {v v':AV} {a b m:Prop} (h:v=v'):cnd v a b m=cnd v' a b m:=by rw [h]
theorem cnd_true (a b m:Prop):cnd (.bool true) a b m=a:=by simp [cnd]
theorem cnd_false (a b m:Prop):cnd (.bool false) a b m=b:=by simp [cnd]
theorem cnd_pos {p:Prop} [Decidable p] (h:p) (a b m:Prop):cnd (.bool (decide p)) a b m=a:=by simp [cnd,h]
theorem cnd_neg {p:Prop} [Decidable p] (h:¬ p) (a b m:Prop):cnd (.bool (decide p)) a b m=b:=by simp [cnd,h]
theorem cnd_mtrue (c:Bool) (a b m:Prop):cnd (.maybe true c) a b m=m:=by simp [cnd]
theorem cnd_mfalse (c:Bool) (a b m:Prop):cnd (.maybe false c) a b m=cnd (.bool c) a b m:=by simp [cnd]
def nrf {α:Type} (a:α):α:=a
theorem nrf_eq {α:Type} (a:α):nrf a=a:=id rfl
def stp:Option (AV × List Blk)→(AV→List Blk→Prop)→Prop
 |some r,K=>K r.1 r.2
 |none,_=>False
@[congr] theorem stp_congr {o o':Option (AV × List Blk)} {K:AV→List Blk→Prop} (h:o=o'):stp o K=stp o' K:=by rw [h]
def stO (T:Nat→Option Entry) (d:Bool) (o:Option (AV × List Blk)) (t:Option Nat) (l:List SOp) (env:List (Nat × AV)) (lo:Nat) (mks:List Mark) (Q:St→Prop):Prop:=
 stp o fun v hp=>EvO T d l (St.put ⟨env,hp,lo,mks⟩ t v hp) Q
@[congr] theorem stO_congr {d:Bool} {o o':Option (AV × List Blk)} {t:Option Nat} {l:List SOp} {env:List (Nat × AV)} {lo:Nat} {mks:List Mark} {Q:St→Prop} (h:o=o'):stO T d o t l env lo mks Q=stO T d o' t l env lo mks Q:=by rw [h]
theorem stO_some (T:Nat→Option Entry) (d:Bool) (v:AV) (hp:List Blk) (t:Nat) (l:List SOp) (env:List (Nat × AV)) (lo mks) (Q:St→Prop):stO T d (some (v,hp)) (some t) l env lo mks Q=EvO T d l ⟨(t,v)::env,hp,lo,mks⟩ Q:=rfl
theorem stO_none (T:Nat→Option Entry) (d:Bool) (v:AV) (hp:List Blk) (l:List SOp) (env:List (Nat × AV)) (lo mks) (Q:St→Prop):stO T d (some (v,hp)) none l env lo mks Q=EvO T d l ⟨env,hp,lo,mks⟩ Q:=rfl
def unx (id:Nat) (x:AX):AX:=if x=.exit id then .normal else x
theorem unx_normal (id:Nat):unx id .normal=.normal:=rfl
theorem unx_ret (id:Nat):unx id .ret=.ret:=rfl
theorem unx_exit (id:Nat):unx id (.exit id)=.normal:=by simp [unx]
theorem unx_miss {id j:Nat} (h:j≠id):unx id (.exit j)=.exit j:=by simp [unx,h]
theorem ops_normal {d:Bool}:∀ {l:List SOp} {st:St} {r:Res},run T (.ops d l st)=some r→r.1=.normal
 | [],st,r,h=>by rw [run_eq] at h;simp only [F] at h;injection h with h;subst h;rfl
 |o::l,st,r,h=>by
  rw [run_eq] at h
  simp only [F,obI] at h
  obtain ⟨x,_,h⟩:=h
  exact ops_normal h
theorem Ev_skip (st:St) (Q:AX→St→Prop):Ev T .skip st Q=Q .normal st:=by simp [Ev,run_eq (.stmt .skip st),F]
theorem Ev_ret (st:St) (Q:AX→St→Prop):Ev T .ret st Q=Q .ret st:=by simp [Ev,run_eq (.stmt .ret st),F]
theorem Ev_exit (id:Nat) (st:St) (Q:AX→St→Prop):Ev T (.exit id) st Q=Q (.exit id) st:=by simp [Ev,run_eq (.stmt (.exit id) st),F]
theorem Ev_scope (b:Stmt) (st:St) (Q:AX→St→Prop):Ev T (.scope b) st Q=Ev T b st Q:=by simp only [Ev];rw [run_eq (.stmt (.scope b) st)];rfl
theorem Ev_ops (d:Bool) (l:List SOp) (env:List (Nat × AV)) (hp:List Blk) (lo mks) (Q:AX→St→Prop):Ev T (.ops d l) ⟨env,hp,lo,mks⟩ Q=EvO T d l ⟨env,hp,lo,mks⟩ (Q .normal):=by
 simp only [Ev,EvO]
 rw [run_eq (.stmt (.ops d l) _)]
 simp only [F]
 apply propext
 constructor
 ·rintro ⟨r,h1,h2⟩;exact ⟨r,h1,by rw [←ops_normal h1];exact h2⟩
 ·rintro ⟨r,h1,h2⟩;exact ⟨r,h1,by rw [ops_normal h1];exact h2⟩
theorem Ev_opsC (chk:List (Nat × Nat)) (l:List SOp) (env:List (Nat × AV)) (hp:List Blk) (lo mks) (Q:AX→St→Prop):Ev T (.opsC chk l) ⟨env,hp,lo,mks⟩ Q=EvO T true l ⟨env,hp,lo,mks⟩ (fun st=>chkOk chk st.env=true∧Q .normal st):=by
 simp only [Ev,EvO]
 rw [run_eq (.stmt (.opsC chk l) _)]
 simp only [F]
 apply propext
 constructor
 ·rintro ⟨r,h1,h2⟩
  rw [obI] at h1
  obtain ⟨r1,h3,h4⟩:=h1
  split at h4
  ·rename_i hc
   injection h4 with h4;subst h4
   exact ⟨r1,h3,hc,by rw [←ops_normal h3];exact h2⟩
  ·cases h4
 ·rintro ⟨r,h1,hc,h2⟩
  exact ⟨r,by rw [h1];simp [hc],by rw [ops_normal h1];exact h2⟩
theorem Ev_seq (a b:Stmt) (env:List (Nat × AV)) (hp:List Blk) (lo mks) (Q:AX→St→Prop):Ev T (.seq a b) ⟨env,hp,lo,mks⟩ Q=Ev T a ⟨env,hp,lo,mks⟩ (fun x st=>thn x (Ev T b st Q) (Q x st)):=by
 unfold Ev
 apply propext
 constructor
 ·rintro ⟨r,h1,h2⟩
  rw [run_eq] at h1
  simp only [F,obI] at h1
  obtain ⟨⟨x,st⟩,h3,h4⟩:=h1
  refine ⟨_,h3,?_⟩
  cases x with
  |normal=>rw [if_pos rfl] at h4;exact ⟨r,h4,h2⟩
  |ret=>rw [if_neg (by simp)] at h4;injection h4 with h4;subst h4;exact h2
  |exit id=>rw [if_neg (by simp)] at h4;injection h4 with h4;subst h4;exact h2
 ·rintro ⟨⟨x,st⟩,h3,h4⟩
  cases x with
  |normal=>
   obtain ⟨r,h5,h6⟩:=h4
   exact ⟨r,by rw [run_eq];simp only [F,h3,Option.bind_some];exact h5,h6⟩
  |ret=>exact ⟨_,by rw [run_eq];simp only [F,h3,Option.bind_some];rfl,h4⟩
  |exit id=>exact ⟨_,by rw [run_eq];simp only [F,h3,Option.bind_some];rfl,h4⟩
theorem Ev_cond (x:SX) (a b:Stmt) (env:List (Nat × AV)) (hp:List Blk) (lo mks) (Q:AX→St→Prop):Ev T (.cond x a b) ⟨env,hp,lo,mks⟩ Q=cnd (St.ev ⟨env,hp,lo,mks⟩ x) (Ev T a ⟨env,hp,lo,mks⟩ Q) (Ev T b ⟨env,hp,lo,mks⟩ Q) (both T a b ⟨env,hp,lo,mks⟩ Q):=by
 unfold Ev both
 rw [run_eq (.stmt (.cond x a b) _)]
 simp only [F]
 cases St.ev ⟨env,hp,lo,mks⟩ x with
 |bool c=>cases c<;>simp [cnd]
 |maybe e c=>
  cases e
  ·cases c<;>simp [cnd]
  ·simp only [if_true,cnd]
   apply propext
   constructor
   ·rintro ⟨r,h1,h2⟩
    obtain ⟨h3,h4⟩:=agree_some.1 h1
    exact ⟨r,h3,h4,h2⟩
   ·rintro ⟨r,h1,h2,h3⟩
    exact ⟨r,agree_some.2 ⟨h1,h2⟩,h3⟩
 |_=>simp [cnd]
theorem Ev_block (id:Nat) (b:Stmt) (env:List (Nat × AV)) (hp:List Blk) (lo mks) (Q:AX→St→Prop):Ev T (.block id b) ⟨env,hp,lo,mks⟩ Q=Ev T b ⟨env,hp,lo,mks⟩ (fun x st=>Q (unx id x) st):=by
 unfold Ev
 rw [run_eq (.stmt (.block id b) _)]
 simp only [F]
 apply propext
 constructor
 ·rintro ⟨r,h1,h2⟩
  rw [omI] at h1
  obtain ⟨y,h3,rfl⟩:=h1
  exact ⟨y,h3,h2⟩
 ·rintro ⟨y,h3,h4⟩
  exact ⟨_,by rw [h3];rfl,h4⟩
def gst:Option St→(St→Prop)→Prop
 |some st,Q=>Q st
 |none,_=>False
@[congr] theorem gst_congr {o o':Option St} {Q:St→Prop} (h:o=o'):gst o Q=gst o' Q:=by rw [h]
theorem gst_some (st:St) (Q:St→Prop):gst (some st) Q=Q st:=rfl
theorem gst_if {c:Prop} [Decidable c] (h:c) {a b:Option St} {Q:St→Prop}:gst (if c then a else b) Q=gst a Q:=by rw [if_pos h]
theorem Ev_ghost (g:SG) (b:Stmt) (env:List (Nat × AV)) (hp:List Blk) (lo mks) (Q:AX→St→Prop):Ev T (.ghost g b) ⟨env,hp,lo,mks⟩ Q=gst (ghost g ⟨env,hp,lo,mks⟩) (fun st=>Ev T b st Q):=by
 unfold Ev
 rw [run_eq (.stmt (.ghost g b) _)]
 simp only [F]
 cases ghost g ⟨env,hp,lo,mks⟩<;>simp [gst]
theorem Ev_after (g:SG) (b:Stmt) (env:List (Nat × AV)) (hp:List Blk) (lo mks) (Q:AX→St→Prop):Ev T (.after b g) ⟨env,hp,lo,mks⟩ Q=Ev T b ⟨env,hp,lo,mks⟩ (fun x st=>thn x (gst (ghost g st) (Q .normal)) (Q x st)):=by
 unfold Ev
 apply propext
 constructor
 ·rintro ⟨r,h1,h2⟩
  rw [run_eq] at h1
  simp only [F,obI] at h1
  obtain ⟨⟨x,st⟩,h3,h4⟩:=h1
  refine ⟨_,h3,?_⟩
  cases x with
  |normal=>
   rw [if_pos rfl,omI] at h4
   obtain ⟨st',h5,rfl⟩:=h4
   simp only [thn,h5,gst]
   exact h2
  |ret=>rw [if_neg (by simp)] at h4;injection h4 with h4;subst h4;exact h2
  |exit id=>rw [if_neg (by simp)] at h4;injection h4 with h4;subst h4;exact h2
 ·rintro ⟨⟨x,st⟩,h3,h4⟩
  cases x with
  |normal=>
   simp only [thn] at h4
   cases h5:ghost g st with
   |none=>rw [h5] at h4;exact h4.elim
   |some r=>rw [h5] at h4;exact ⟨(.normal,r),by rw [run_eq];simp [F,h3,h5],h4⟩
  |ret=>exact ⟨_,by rw [run_eq];simp only [F,h3,Option.bind_some];rfl,h4⟩
  |exit id=>exact ⟨_,by rw [run_eq];simp only [F,h3,Option.bind_some];rfl,h4⟩
def ivQ (I:Nat→St→Prop) (i:Nat) (Q:AX→St→Prop) (x:AX) (st:St):Prop:=(x=.normal∧∃ j,j<i∧I j st)∨(x≠.normal∧Q x st)
theorem ivQ_normal (I:Nat→St→Prop) (i:Nat) (Q:AX→St→Prop) (env:List (Nat × AV)) (hp:List Blk) (lo mks):ivQ I i Q .normal ⟨env,hp,lo,mks⟩=∃ j,j<i∧I j ⟨env,hp,lo,mks⟩:=by simp [ivQ]
theorem ivQ_ret (I:Nat→St→Prop) (i:Nat) (Q:AX→St→Prop) (env:List (Nat × AV)) (hp:List Blk) (lo mks):ivQ I i Q .ret ⟨env,hp,lo,mks⟩=Q .ret ⟨env,hp,lo,mks⟩:=by simp [ivQ]
theorem ivQ_exit (I:Nat→St→Prop) (i:Nat) (Q:AX→St→Prop) (k:Nat) (env:List (Nat × AV)) (hp:List Blk) (lo mks):ivQ I i Q (.exit k) ⟨env,hp,lo,mks⟩=Q (.exit k) ⟨env,hp,lo,mks⟩:=by simp [ivQ]
theorem Ev_loop {b:Stmt} (S:Nat→St) (n:Nat) {Q:AX→St→Prop} (hs:∀ i,i<n→Ev T b (S i) (fun x st=>x=.normal∧st=S (i+1))) (hn:Ev T b (S n) (fun x st=>x≠.normal∧Q x st)):Ev T (.loop b) (S 0) Q:=by
 suffices ∀ i,i≤n→Ev T (.loop b) (S (n - i)) Q by have:=this n (Nat.le_refl _);rwa [Nat.sub_self] at this
 intro i
 induction i with
 |zero=>
  intro _
  obtain ⟨r,h1,h2,h3⟩:=hn
  exact ⟨r,by rw [Nat.sub_zero,run_eq];simp [F,h1,h2],h3⟩
 |succ i ih=>
  intro hi
  obtain ⟨⟨x,st⟩,h1,h2,h3⟩:=hs (n - (i+1)) (by omega)
  obtain ⟨r,h4,h5⟩:=ih (by omega)
  simp only at h2 h3
  rw [show n - (i+1)+1=n - i by omega] at h3
  subst h2 h3
  exact ⟨r,by rw [run_eq];simpa [F,h1] using h4,h5⟩
theorem Ev_loop0 {b:Stmt} {st:St} (S:Nat→St) (n:Nat) {Q:AX→St→Prop} (h0:st=S 0) (hs:∀ i,i<n→Ev T b (S i) (fun x st=>x=.normal∧st=S (i+1))) (hn:Ev T b (S n) (fun x st=>x≠.normal∧Q x st)):Ev T (.loop b) st Q:=by
 subst h0
 exact Ev_loop S n hs hn
theorem EvO_nil (d:Bool) (st:St) (Q:St→Prop):EvO T d [] st Q=Q st:=by simp only [EvO];rw [run_eq];simp [F]
theorem EvO_cons (d:Bool) (o:SOp) (l:List SOp) (st:St) (Q:St→Prop):EvO T d (o::l) st Q=∃ r,run T (.op d o st)=some r∧EvO T d l r.2 Q:=by
 unfold EvO
 rw [run_eq (.ops d (o::l) st)]
 simp only [F,obI]
 apply propext
 constructor
 ·rintro ⟨r,⟨x,h1,h2⟩,h3⟩;exact ⟨x,h1,r,h2,h3⟩
 ·rintro ⟨x,h1,r,h2,h3⟩;exact ⟨r,⟨x,h1,h2⟩,h3⟩
def SO.isCall:SO→Bool
 | .call _ _ _ | .callf _ _ _ | .invoke _ _ _ _=>true
 |_=>false
theorem run_op_astep {d:Bool} {t:Option Nat} {op:SO} {g:Option (Nat × Bool)} (hc:op.isCall=false) (st:St):run T (.op d ⟨t,op,g⟩ st)=(wanted st.env g).bind fun go=>if go then (astep st.hp st.ev op).map fun r=>(.normal,st.put t r.1 r.2) else some (.normal,st.put t (.tup []) st.hp):=by
 rw [run_eq]
 simp only [F]
 cases op<;>first | rfl | cases hc
theorem EvO_astep {d:Bool} {t:Option Nat} {op:SO} (hc:op.isCall=false) {l:List SOp} {env:List (Nat × AV)} {hp:List Blk} {lo mks} {Q:St→Prop}:
  EvO T d (⟨t,op,none⟩::l) ⟨env,hp,lo,mks⟩ Q=stO T d (astep hp (St.ev ⟨env,hp,lo,mks⟩) op) t l env lo mks Q:=by
 rw [EvO_cons,run_op_astep hc]
 simp only [wanted,Option.bind_some,if_true,omI,stO]
 cases h:astep hp (St.ev ⟨env,hp,lo,mks⟩) op with
 |none=>simp [stp]
 |some r=>
  simp only [stp,Option.some.injEq]
  apply propext
  constructor
  ·rintro ⟨_,⟨_,rfl,rfl⟩,h2⟩;exact h2
  ·intro h;exact ⟨_,⟨_,rfl,rfl⟩,h⟩
def grd:AV→Bool→Prop→Prop→Prop
 | .bool c,b,p,q=>if c=b then p else q
 | .tup [],_,_,q=>q
 |_,_,_,_=>False
@[congr] theorem grd_congr {v v':AV} {c:Bool} {a b:Prop} (h:v=v'):grd v c a b=grd v' c a b:=by rw [h]
theorem grd_tt (a b:Prop):grd (.bool true) true a b=a:=by simp [grd]
theorem grd_tf (a b:Prop):grd (.bool true) false a b=b:=by simp [grd]
theorem grd_ft (a b:Prop):grd (.bool false) true a b=b:=by simp [grd]
theorem grd_ff (a b:Prop):grd (.bool false) false a b=a:=by simp [grd]
theorem grd_un (c:Bool) (a b:Prop):grd (.tup []) c a b=b:=by simp [grd]
theorem grd_tpos {p:Prop} [Decidable p] (h:p) (a b:Prop):grd (.bool (decide p)) true a b=a:=by simp [grd,h]
theorem grd_tneg {p:Prop} [Decidable p] (h:¬ p) (a b:Prop):grd (.bool (decide p)) true a b=b:=by simp [grd,h]
theorem grd_fpos {p:Prop} [Decidable p] (h:p) (a b:Prop):grd (.bool (decide p)) false a b=b:=by simp [grd,h]
theorem grd_fneg {p:Prop} [Decidable p] (h:¬ p) (a b:Prop):grd (.bool (decide p)) false a b=a:=by simp [grd,h]
theorem EvO_guard {d:Bool} {t:Option Nat} {g:Nat} {b:Bool} {op:SO} {l:List SOp} {env:List (Nat × AV)} {hp:List Blk} {lo mks} {Q:St→Prop}:
  EvO T d (⟨t,op,some (g,b)⟩::l) ⟨env,hp,lo,mks⟩ Q=grd (lk env g) b (EvO T d (⟨t,op,none⟩::l) ⟨env,hp,lo,mks⟩ Q) (EvO T d l (St.put ⟨env,hp,lo,mks⟩ t (.tup []) hp) Q):=by
 have key:∀ c:Bool,wanted env (some (g,b))=some c→EvO T d (⟨t,op,some (g,b)⟩::l) ⟨env,hp,lo,mks⟩ Q=if c=true then EvO T d (⟨t,op,none⟩::l) ⟨env,hp,lo,mks⟩ Q else EvO T d l (St.put ⟨env,hp,lo,mks⟩ t (.tup []) hp) Q:=by
  intro c hc
  rw [EvO_cons,EvO_cons,run_eq,run_eq (.op d ⟨t,op,none⟩ _)]
  cases c with
  |true=>simp only [F];rw [hc];simp only [wanted,Option.bind_some,if_true]
  |false=>simp only [F];rw [hc];simp
 have none':wanted env (some (g,b))=none→EvO T d (⟨t,op,some (g,b)⟩::l) ⟨env,hp,lo,mks⟩ Q=False:=by
  intro hc
  rw [EvO_cons,run_eq]
  simp only [F]
  rw [hc]
  simp
 cases h:lk env g with
 |bool c=>rw [key (c == b) (by simp [wanted,h])];simp [grd]
 |tup vs=>cases vs with | nil=>rw [key false (by simp [wanted,h])];simp [grd] | cons v vs=>rw [none' (by simp [wanted,h])];simp [grd]
 |_=>rw [none' (by simp [wanted,h])];simp [grd]
theorem run_callo (d:Bool) (t:Option Nat) (md:Md) (k:Nat) (as:List SX) (st:St):run T (.op d ⟨t,.call md k as,none⟩ st)=callOp (run T) T d md k (as.map st.ev) t st:=by
 rw [run_eq];rfl
noncomputable def callP (T:Nat→Option Entry) (k:Nat) (hp:List Blk) (vs:List AV):Option (AV × List Blk):=(fzL hp vs).bind fun ps=>runP T k ps []
noncomputable def callM (T:Nat→Option Entry) (k:Nat) (hp:List Blk) (vs:List AV):Option (AV × List Blk):=(subHp hp (dedup (idsL vs) [])).bind fun hps=>runP T k (renL (idxOf (dedup (idsL vs) [])) vs) hps
def plO (T:Nat→Option Entry) (d:Bool) (o:Option (AV × List Blk)) (vs:List AV) (t:Option Nat) (l:List SOp) (env:List (Nat × AV)) (hp:List Blk) (lo:Nat) (mks:List Mark) (Q:St→Prop):Prop:=
 match o with
 |some r=>(!d || ((noimm r.1 || (idsL vs).isEmpty) && noid r.1))=true∧EvO T d l (St.put ⟨env,hp,lo,mks⟩ t (thaw (if noimm r.1 then hp else still hp (idsL vs)) r.1).1 (thaw (if noimm r.1 then hp else still hp (idsL vs)) r.1).2) Q
 |none=>False
@[congr] theorem plO_congr {d:Bool} {o o':Option (AV × List Blk)} {vs:List AV} {t:Option Nat} {l:List SOp} {env:List (Nat × AV)} {hp:List Blk} {lo:Nat} {mks:List Mark} {Q:St→Prop} (h:o=o'):plO T d o vs t l env hp lo mks Q=plO T d o' vs t l env hp lo mks Q:=by rw [h]
def thO (T:Nat→Option Entry) (d:Bool) (q:AV × List Blk) (t:Option Nat) (l:List SOp) (env:List (Nat × AV)) (lo:Nat) (mks:List Mark) (Q:St→Prop):Prop:=EvO T d l (St.put ⟨env,q.2,lo,mks⟩ t q.1 q.2) Q
@[congr] theorem thO_congr {d:Bool} {q q':AV × List Blk} {t:Option Nat} {l:List SOp} {env:List (Nat × AV)} {lo:Nat} {mks:List Mark} {Q:St→Prop} (h:q=q'):thO T d q t l env lo mks Q=thO T d q' t l env lo mks Q:=by rw [h]
theorem thO_some (d:Bool) (v:AV) (hp:List Blk) (t:Nat) (l:List SOp) (env:List (Nat × AV)) (lo mks) (Q:St→Prop):thO T d (v,hp) (some t) l env lo mks Q=EvO T d l ⟨(t,v)::env,hp,lo,mks⟩ Q:=rfl
theorem thO_none (d:Bool) (v:AV) (hp:List Blk) (l:List SOp) (env:List (Nat × AV)) (lo mks) (Q:St→Prop):thO T d (v,hp) none l env lo mks Q=EvO T d l ⟨env,hp,lo,mks⟩ Q:=rfl
def two:Bool→Prop→Prop→Prop
 |true,a,_=>a
 |false,_,b=>b
@[congr] theorem two_congr {c c':Bool} {a b:Prop} (h:c=c'):two c a b=two c' a b:=by rw [h]
theorem two_true (a b:Prop):two true a b=a:=rfl
theorem two_false (a b:Prop):two false a b=b:=rfl
theorem plO_some (d:Bool) (v:AV) (hps:List Blk) (vs:List AV) (t:Option Nat) (l:List SOp) (env:List (Nat × AV)) (hp:List Blk) (lo mks) (Q:St→Prop):plO T d (some (v,hps)) vs t l env hp lo mks Q=two (nrf (!d || ((noimm v || (idsL vs).isEmpty) && noid v))) (two (nrf (noimm v || (idsL vs).isEmpty)) (thO T d (nrf (thaw hp v)) t l env lo mks Q) (thO T d (nrf (thaw (still hp (idsL vs)) v)) t l env lo mks Q)) False:=by
 have hst:(idsL vs).isEmpty=true→still hp (idsL vs)=hp:=fun h=>by rw [List.isEmpty_iff.1 h];rfl
 simp only [plO,thO,nrf]
 cases h2:noimm v with
 |true=>
  cases h1:(!d || ((true || (idsL vs).isEmpty) && noid v)) with
  |true=>simp [two];cases t<;>rfl
  |false=>simp [two]
 |false=>
  cases h3:(idsL vs).isEmpty with
  |true=>
   rw [hst h3]
   cases h1:(!d || ((false || true) && noid v)) with
   |true=>simp [two];cases t<;>rfl
   |false=>simp [two]
  |false=>
   cases h1:(!d || ((false || false) && noid v)) with
   |true=>simp [two];cases t<;>rfl
   |false=>simp [two]
theorem EvO_plain (d:Bool) (t:Option Nat) (k:Nat) (as:List SX) (l:List SOp) (env:List (Nat × AV)) (hp:List Blk) (lo mks) (Q:St→Prop):
  EvO T d (⟨t,.call .plain k as,none⟩::l) ⟨env,hp,lo,mks⟩ Q=plO T d (callP T k hp (as.map (St.ev ⟨env,hp,lo,mks⟩))) (as.map (St.ev ⟨env,hp,lo,mks⟩)) t l env hp lo mks Q:=by
 rw [EvO_cons,run_callo]
 simp only [callOp,callP,runP,plO]
 cases fzL hp (as.map (St.ev ⟨env,hp,lo,mks⟩)) with
 |none=>simp
 |some ps=>
  simp only [Option.bind_some]
  cases callRes (run T) T k ps [] with
  |none=>simp
  |some r=>
   simp only [Option.bind_some]
   apply propext
   constructor
   ·rintro ⟨x,h1,h2⟩
    split at h1
    ·rename_i hc;injection h1 with h1;subst h1;exact ⟨hc,h2⟩
    ·cases h1
   ·rintro ⟨hc,h2⟩
    exact ⟨_,by rw [if_pos hc],h2⟩
def quO (T:Nat→Option Entry) (d:Bool) (o:Option (AV × List Blk)) (vs:List AV) (t:Option Nat) (l:List SOp) (env:List (Nat × AV)) (hp:List Blk) (lo:Nat) (mks:List Mark) (Q:St→Prop):Prop:=
 match o with
 |some r=>(noinl r.1 && (noimm r.1 || (idsL vs).isEmpty))=true∧EvO T d l (St.put ⟨env,hp,lo,mks⟩ t r.1 hp) Q
 |none=>False
@[congr] theorem quO_congr {d:Bool} {o o':Option (AV × List Blk)} {vs:List AV} {t:Option Nat} {l:List SOp} {env:List (Nat × AV)} {hp:List Blk} {lo:Nat} {mks:List Mark} {Q:St→Prop} (h:o=o'):quO T d o vs t l env hp lo mks Q=quO T d o' vs t l env hp lo mks Q:=by rw [h]
theorem quO_some (v:AV) (vs:List AV) (d:Bool) (hps:List Blk) (t:Nat) (l:List SOp) (env:List (Nat × AV)) (hp:List Blk) (lo mks) (Q:St→Prop):quO T d (some (v,hps)) vs (some t) l env hp lo mks Q=two (nrf (noinl v && (noimm v || (idsL vs).isEmpty))) (EvO T d l ⟨(t,v)::env,hp,lo,mks⟩ Q) False:=by
 simp only [quO,St.put,nrf]
 cases (noinl v && (noimm v || (idsL vs).isEmpty))<;>simp [two]
theorem EvO_quiet (d:Bool) (t:Option Nat) (k:Nat) (as:List SX) (l:List SOp) (env:List (Nat × AV)) (hp:List Blk) (lo mks) (Q:St→Prop):
  EvO T d (⟨t,.call .quiet k as,none⟩::l) ⟨env,hp,lo,mks⟩ Q=quO T d (callP T k hp (as.map (St.ev ⟨env,hp,lo,mks⟩))) (as.map (St.ev ⟨env,hp,lo,mks⟩)) t l env hp lo mks Q:=by
 rw [EvO_cons,run_callo]
 simp only [callOp,callP,runP,quO]
 cases fzL hp (as.map (St.ev ⟨env,hp,lo,mks⟩)) with
 |none=>simp
 |some ps=>
  simp only [Option.bind_some]
  cases callRes (run T) T k ps [] with
  |none=>simp
  |some r=>
   simp only [Option.bind_some]
   apply propext
   constructor
   ·rintro ⟨x,h1,h2⟩
    split at h1
    ·rename_i hc;injection h1 with h1;subst h1;exact ⟨hc,h2⟩
    ·cases h1
   ·rintro ⟨hc,h2⟩
    exact ⟨_,by rw [if_pos hc],h2⟩
def meO (T:Nat→Option Entry) (d:Bool) (o:Option (AV × List Blk)) (vs:List AV) (t:Option Nat) (l:List SOp) (env:List (Nat × AV)) (hp:List Blk) (lo:Nat) (mks:List Mark) (Q:St→Prop):Prop:=
 match o with
 |some r=>(r.2.length=(dedup (idsL vs) []).length∧r.2.all Blk.noidb=true)∧thO T d (thaw (putHp hp (dedup (idsL vs) []) r.2) (ren (fun i=>(dedup (idsL vs) []).getD i 0) r.1)) t l env lo mks Q
 |none=>False
@[congr] theorem meO_congr {d:Bool} {o o':Option (AV × List Blk)} {vs:List AV} {t:Option Nat} {l:List SOp} {env:List (Nat × AV)} {hp:List Blk} {lo:Nat} {mks:List Mark} {Q:St→Prop} (h:o=o'):meO T d o vs t l env hp lo mks Q=meO T d o' vs t l env hp lo mks Q:=by rw [h]
theorem meO_some (d:Bool) (v:AV) (hps:List Blk) (vs:List AV) (t:Option Nat) (l:List SOp) (env:List (Nat × AV)) (hp:List Blk) (lo mks) (Q:St→Prop):meO T d (some (v,hps)) vs t l env hp lo mks Q=two (nrf (decide (hps.length=(dedup (idsL vs) []).length) && hps.all Blk.noidb)) (thO T d (nrf (thaw (putHp hp (dedup (idsL vs) []) hps) (ren (fun i=>(dedup (idsL vs) []).getD i 0) v))) t l env lo mks Q) False:=by
 simp only [meO,nrf]
 by_cases h:hps.length=(dedup (idsL vs) []).length<;>cases h2:hps.all Blk.noidb<;>simp [h,two]
theorem EvO_mem (d:Bool) (t:Option Nat) (k:Nat) (as:List SX) (l:List SOp) (env:List (Nat × AV)) (hp:List Blk) (lo mks) (Q:St→Prop):
  EvO T d (⟨t,.call .mem k as,none⟩::l) ⟨env,hp,lo,mks⟩ Q=meO T d (callM T k hp (as.map (St.ev ⟨env,hp,lo,mks⟩))) (as.map (St.ev ⟨env,hp,lo,mks⟩)) t l env hp lo mks Q:=by
 rw [EvO_cons,run_callo]
 simp only [callOp,callM,runP,meO]
 cases subHp hp (dedup (idsL (as.map (St.ev ⟨env,hp,lo,mks⟩))) []) with
 |none=>simp
 |some ps=>
  simp only [Option.bind_some]
  cases callRes (run T) T k (renL (idxOf (dedup (idsL (as.map (St.ev ⟨env,hp,lo,mks⟩))) [])) (as.map (St.ev ⟨env,hp,lo,mks⟩))) ps with
  |none=>simp
  |some r=>
   simp only [Option.bind_some]
   apply propext
   constructor
   ·rintro ⟨x,h1,h2⟩
    split at h1
    ·rename_i hc;injection h1 with h1;subst h1;refine ⟨hc,?_⟩;cases t<;>exact h2
    ·cases h1
   ·rintro ⟨hc,h2⟩
    refine ⟨_,by rw [if_pos hc],?_⟩
    cases t<;>exact h2
theorem EvG_call (d:Bool) (t g:Nat) (b:Bool) (md:Md) (k:Nat) (as:List SX) (l:List SOp) (env:List (Nat × AV)) (hp:List Blk) (lo mks) (Q:St→Prop):
  EvO T d (⟨some t,.call md k as,some (g,b)⟩::l) ⟨env,hp,lo,mks⟩ Q=grd (lk env g) b (EvO T d (⟨some t,.call md k as,none⟩::l) ⟨env,hp,lo,mks⟩ Q) (EvO T d l ⟨(t,.tup [])::env,hp,lo,mks⟩ Q):=EvO_guard
theorem EvO_move (d:Bool) (t:Nat) (x:SX) (l:List SOp) (env:List (Nat × AV)) (hp:List Blk) (lo mks) (Q:St→Prop):EvO T d (⟨some t,(.move x),none⟩::l) ⟨env,hp,lo,mks⟩ Q=stO T d (nrf (astep hp (St.ev ⟨env,hp,lo,mks⟩) (.move x))) (some t) l env lo mks Q:=EvO_astep rfl
theorem EvG_move (d:Bool) (t g:Nat) (gb:Bool) (x:SX) (l:List SOp) (env:List (Nat × AV)) (hp:List Blk) (lo mks) (Q:St→Prop):EvO T d (⟨some t,(.move x),some (g,gb)⟩::l) ⟨env,hp,lo,mks⟩ Q=grd (lk env g) gb (EvO T d (⟨some t,(.move x),none⟩::l) ⟨env,hp,lo,mks⟩ Q) (EvO T d l ⟨(t,.tup [])::env,hp,lo,mks⟩ Q):=EvO_guard
theorem EvO_pick (d:Bool) (t:Nat) (c a b:SX) (l:List SOp) (env:List (Nat × AV)) (hp:List Blk) (lo mks) (Q:St→Prop):EvO T d (⟨some t,(.pick c a b),none⟩::l) ⟨env,hp,lo,mks⟩ Q=stO T d (nrf (astep hp (St.ev ⟨env,hp,lo,mks⟩) (.pick c a b))) (some t) l env lo mks Q:=EvO_astep rfl
theorem EvG_pick (d:Bool) (t g:Nat) (gb:Bool) (c a b:SX) (l:List SOp) (env:List (Nat × AV)) (hp:List Blk) (lo mks) (Q:St→Prop):EvO T d (⟨some t,(.pick c a b),some (g,gb)⟩::l) ⟨env,hp,lo,mks⟩ Q=grd (lk env g) gb (EvO T d (⟨some t,(.pick c a b),none⟩::l) ⟨env,hp,lo,mks⟩ Q) (EvO T d l ⟨(t,.tup [])::env,hp,lo,mks⟩ Q):=EvO_guard
theorem EvO_box (d:Bool) (t:Nat) (n:Nat) (x:SX) (l:List SOp) (env:List (Nat × AV)) (hp:List Blk) (lo mks) (Q:St→Prop):EvO T d (⟨some t,(.box n x),none⟩::l) ⟨env,hp,lo,mks⟩ Q=stO T d (nrf (astep hp (St.ev ⟨env,hp,lo,mks⟩) (.box n x))) (some t) l env lo mks Q:=EvO_astep rfl
theorem EvG_box (d:Bool) (t g:Nat) (gb:Bool) (n:Nat) (x:SX) (l:List SOp) (env:List (Nat × AV)) (hp:List Blk) (lo mks) (Q:St→Prop):EvO T d (⟨some t,(.box n x),some (g,gb)⟩::l) ⟨env,hp,lo,mks⟩ Q=grd (lk env g) gb (EvO T d (⟨some t,(.box n x),none⟩::l) ⟨env,hp,lo,mks⟩ Q) (EvO T d l ⟨(t,.tup [])::env,hp,lo,mks⟩ Q):=EvO_guard
theorem EvO_alloc (d:Bool) (t:Nat) (z:List AV) (l:List SOp) (env:List (Nat × AV)) (hp:List Blk) (lo mks) (Q:St→Prop):EvO T d (⟨some t,(.alloc z),none⟩::l) ⟨env,hp,lo,mks⟩ Q=stO T d (nrf (astep hp (St.ev ⟨env,hp,lo,mks⟩) (.alloc z))) (some t) l env lo mks Q:=EvO_astep rfl
theorem EvG_alloc (d:Bool) (t g:Nat) (gb:Bool) (z:List AV) (l:List SOp) (env:List (Nat × AV)) (hp:List Blk) (lo mks) (Q:St→Prop):EvO T d (⟨some t,(.alloc z),some (g,gb)⟩::l) ⟨env,hp,lo,mks⟩ Q=grd (lk env g) gb (EvO T d (⟨some t,(.alloc z),none⟩::l) ⟨env,hp,lo,mks⟩ Q) (EvO T d l ⟨(t,.tup [])::env,hp,lo,mks⟩ Q):=EvO_guard
theorem EvO_build (d:Bool) (t:Nat) (z:List AV) (ps:List (Nat × Nat × SX)) (l:List SOp) (env:List (Nat × AV)) (hp:List Blk) (lo mks) (Q:St→Prop):EvO T d (⟨some t,(.build z ps),none⟩::l) ⟨env,hp,lo,mks⟩ Q=stO T d (nrf (astep hp (St.ev ⟨env,hp,lo,mks⟩) (.build z ps))) (some t) l env lo mks Q:=EvO_astep rfl
theorem EvG_build (d:Bool) (t g:Nat) (gb:Bool) (z:List AV) (ps:List (Nat × Nat × SX)) (l:List SOp) (env:List (Nat × AV)) (hp:List Blk) (lo mks) (Q:St→Prop):EvO T d (⟨some t,(.build z ps),some (g,gb)⟩::l) ⟨env,hp,lo,mks⟩ Q=grd (lk env g) gb (EvO T d (⟨some t,(.build z ps),none⟩::l) ⟨env,hp,lo,mks⟩ Q) (EvO T d l ⟨(t,.tup [])::env,hp,lo,mks⟩ Q):=EvO_guard
theorem EvO_lit (d:Bool) (t:Nat) (m:Bool) (z:List AV) (sz len:Nat) (ps:List (Nat × Nat × SX)) (l:List SOp) (env:List (Nat × AV)) (hp:List Blk) (lo mks) (Q:St→Prop):EvO T d (⟨some t,(.lit m z sz len ps),none⟩::l) ⟨env,hp,lo,mks⟩ Q=stO T d (nrf (astep hp (St.ev ⟨env,hp,lo,mks⟩) (.lit m z sz len ps))) (some t) l env lo mks Q:=EvO_astep rfl
theorem EvG_lit (d:Bool) (t g:Nat) (gb:Bool) (m:Bool) (z:List AV) (sz len:Nat) (ps:List (Nat × Nat × SX)) (l:List SOp) (env:List (Nat × AV)) (hp:List Blk) (lo mks) (Q:St→Prop):EvO T d (⟨some t,(.lit m z sz len ps),some (g,gb)⟩::l) ⟨env,hp,lo,mks⟩ Q=grd (lk env g) gb (EvO T d (⟨some t,(.lit m z sz len ps),none⟩::l) ⟨env,hp,lo,mks⟩ Q) (EvO T d l ⟨(t,.tup [])::env,hp,lo,mks⟩ Q):=EvO_guard
theorem EvO_load (d:Bool) (t:Nat) (u:Bool) (n:Option Nat) (x:SX) (l:List SOp) (env:List (Nat × AV)) (hp:List Blk) (lo mks) (Q:St→Prop):EvO T d (⟨some t,(.load u n x),none⟩::l) ⟨env,hp,lo,mks⟩ Q=stO T d (nrf (astep hp (St.ev ⟨env,hp,lo,mks⟩) (.load u n x))) (some t) l env lo mks Q:=EvO_astep rfl
theorem EvG_load (d:Bool) (t g:Nat) (gb:Bool) (u:Bool) (n:Option Nat) (x:SX) (l:List SOp) (env:List (Nat × AV)) (hp:List Blk) (lo mks) (Q:St→Prop):EvO T d (⟨some t,(.load u n x),some (g,gb)⟩::l) ⟨env,hp,lo,mks⟩ Q=grd (lk env g) gb (EvO T d (⟨some t,(.load u n x),none⟩::l) ⟨env,hp,lo,mks⟩ Q) (EvO T d l ⟨(t,.tup [])::env,hp,lo,mks⟩ Q):=EvO_guard
theorem EvO_nilCheck (d:Bool) (t:Nat) (x:SX) (l:List SOp) (env:List (Nat × AV)) (hp:List Blk) (lo mks) (Q:St→Prop):EvO T d (⟨some t,(.nilCheck x),none⟩::l) ⟨env,hp,lo,mks⟩ Q=stO T d (nrf (astep hp (St.ev ⟨env,hp,lo,mks⟩) (.nilCheck x))) (some t) l env lo mks Q:=EvO_astep rfl
theorem EvG_nilCheck (d:Bool) (t g:Nat) (gb:Bool) (x:SX) (l:List SOp) (env:List (Nat × AV)) (hp:List Blk) (lo mks) (Q:St→Prop):EvO T d (⟨some t,(.nilCheck x),some (g,gb)⟩::l) ⟨env,hp,lo,mks⟩ Q=grd (lk env g) gb (EvO T d (⟨some t,(.nilCheck x),none⟩::l) ⟨env,hp,lo,mks⟩ Q) (EvO T d l ⟨(t,.tup [])::env,hp,lo,mks⟩ Q):=EvO_guard
theorem EvO_bin (d:Bool) (t:Nat) (tc:Nat) (op:BinOp) (x y:SX) (l:List SOp) (env:List (Nat × AV)) (hp:List Blk) (lo mks) (Q:St→Prop):EvO T d (⟨some t,(.bin tc op x y),none⟩::l) ⟨env,hp,lo,mks⟩ Q=stO T d (nrf (astep hp (St.ev ⟨env,hp,lo,mks⟩) (.bin tc op x y))) (some t) l env lo mks Q:=EvO_astep rfl
theorem EvG_bin (d:Bool) (t g:Nat) (gb:Bool) (tc:Nat) (op:BinOp) (x y:SX) (l:List SOp) (env:List (Nat × AV)) (hp:List Blk) (lo mks) (Q:St→Prop):EvO T d (⟨some t,(.bin tc op x y),some (g,gb)⟩::l) ⟨env,hp,lo,mks⟩ Q=grd (lk env g) gb (EvO T d (⟨some t,(.bin tc op x y),none⟩::l) ⟨env,hp,lo,mks⟩ Q) (EvO T d l ⟨(t,.tup [])::env,hp,lo,mks⟩ Q):=EvO_guard
theorem EvO_isnil (d:Bool) (t:Nat) (neg:Bool) (x:SX) (l:List SOp) (env:List (Nat × AV)) (hp:List Blk) (lo mks) (Q:St→Prop):EvO T d (⟨some t,(.isnil neg x),none⟩::l) ⟨env,hp,lo,mks⟩ Q=stO T d (nrf (astep hp (St.ev ⟨env,hp,lo,mks⟩) (.isnil neg x))) (some t) l env lo mks Q:=EvO_astep rfl
theorem EvG_isnil (d:Bool) (t g:Nat) (gb:Bool) (neg:Bool) (x:SX) (l:List SOp) (env:List (Nat × AV)) (hp:List Blk) (lo mks) (Q:St→Prop):EvO T d (⟨some t,(.isnil neg x),some (g,gb)⟩::l) ⟨env,hp,lo,mks⟩ Q=grd (lk env g) gb (EvO T d (⟨some t,(.isnil neg x),none⟩::l) ⟨env,hp,lo,mks⟩ Q) (EvO T d l ⟨(t,.tup [])::env,hp,lo,mks⟩ Q):=EvO_guard
theorem EvO_un (d:Bool) (t:Nat) (op:UnOp) (x:SX) (l:List SOp) (env:List (Nat × AV)) (hp:List Blk) (lo mks) (Q:St→Prop):EvO T d (⟨some t,(.un op x),none⟩::l) ⟨env,hp,lo,mks⟩ Q=stO T d (nrf (astep hp (St.ev ⟨env,hp,lo,mks⟩) (.un op x))) (some t) l env lo mks Q:=EvO_astep rfl
theorem EvG_un (d:Bool) (t g:Nat) (gb:Bool) (op:UnOp) (x:SX) (l:List SOp) (env:List (Nat × AV)) (hp:List Blk) (lo mks) (Q:St→Prop):EvO T d (⟨some t,(.un op x),some (g,gb)⟩::l) ⟨env,hp,lo,mks⟩ Q=grd (lk env g) gb (EvO T d (⟨some t,(.un op x),none⟩::l) ⟨env,hp,lo,mks⟩ Q) (EvO T d l ⟨(t,.tup [])::env,hp,lo,mks⟩ Q):=EvO_guard
theorem EvO_conv (d:Bool) (t:Nat) (k:IntKind) (x:SX) (l:List SOp) (env:List (Nat × AV)) (hp:List Blk) (lo mks) (Q:St→Prop):EvO T d (⟨some t,(.conv k x),none⟩::l) ⟨env,hp,lo,mks⟩ Q=stO T d (nrf (astep hp (St.ev ⟨env,hp,lo,mks⟩) (.conv k x))) (some t) l env lo mks Q:=EvO_astep rfl
theorem EvG_conv (d:Bool) (t g:Nat) (gb:Bool) (k:IntKind) (x:SX) (l:List SOp) (env:List (Nat × AV)) (hp:List Blk) (lo mks) (Q:St→Prop):EvO T d (⟨some t,(.conv k x),some (g,gb)⟩::l) ⟨env,hp,lo,mks⟩ Q=grd (lk env g) gb (EvO T d (⟨some t,(.conv k x),none⟩::l) ⟨env,hp,lo,mks⟩ Q) (EvO T d l ⟨(t,.tup [])::env,hp,lo,mks⟩ Q):=EvO_guard
theorem EvO_same (d:Bool) (t:Nat) (x:SX) (l:List SOp) (env:List (Nat × AV)) (hp:List Blk) (lo mks) (Q:St→Prop):EvO T d (⟨some t,(.same x),none⟩::l) ⟨env,hp,lo,mks⟩ Q=stO T d (nrf (astep hp (St.ev ⟨env,hp,lo,mks⟩) (.same x))) (some t) l env lo mks Q:=EvO_astep rfl
theorem EvG_same (d:Bool) (t g:Nat) (gb:Bool) (x:SX) (l:List SOp) (env:List (Nat × AV)) (hp:List Blk) (lo mks) (Q:St→Prop):EvO T d (⟨some t,(.same x),some (g,gb)⟩::l) ⟨env,hp,lo,mks⟩ Q=grd (lk env g) gb (EvO T d (⟨some t,(.same x),none⟩::l) ⟨env,hp,lo,mks⟩ Q) (EvO T d l ⟨(t,.tup [])::env,hp,lo,mks⟩ Q):=EvO_guard
theorem EvO_fieldAddr (d:Bool) (t:Nat) (o:Nat) (x:SX) (l:List SOp) (env:List (Nat × AV)) (hp:List Blk) (lo mks) (Q:St→Prop):EvO T d (⟨some t,(.fieldAddr o x),none⟩::l) ⟨env,hp,lo,mks⟩ Q=stO T d (nrf (astep hp (St.ev ⟨env,hp,lo,mks⟩) (.fieldAddr o x))) (some t) l env lo mks Q:=EvO_astep rfl
theorem EvG_fieldAddr (d:Bool) (t g:Nat) (gb:Bool) (o:Nat) (x:SX) (l:List SOp) (env:List (Nat × AV)) (hp:List Blk) (lo mks) (Q:St→Prop):EvO T d (⟨some t,(.fieldAddr o x),some (g,gb)⟩::l) ⟨env,hp,lo,mks⟩ Q=grd (lk env g) gb (EvO T d (⟨some t,(.fieldAddr o x),none⟩::l) ⟨env,hp,lo,mks⟩ Q) (EvO T d l ⟨(t,.tup [])::env,hp,lo,mks⟩ Q):=EvO_guard
theorem EvO_field (d:Bool) (t:Nat) (n:Option Nat) (o:Nat) (x:SX) (l:List SOp) (env:List (Nat × AV)) (hp:List Blk) (lo mks) (Q:St→Prop):EvO T d (⟨some t,(.field n o x),none⟩::l) ⟨env,hp,lo,mks⟩ Q=stO T d (nrf (astep hp (St.ev ⟨env,hp,lo,mks⟩) (.field n o x))) (some t) l env lo mks Q:=EvO_astep rfl
theorem EvG_field (d:Bool) (t g:Nat) (gb:Bool) (n:Option Nat) (o:Nat) (x:SX) (l:List SOp) (env:List (Nat × AV)) (hp:List Blk) (lo mks) (Q:St→Prop):EvO T d (⟨some t,(.field n o x),some (g,gb)⟩::l) ⟨env,hp,lo,mks⟩ Q=grd (lk env g) gb (EvO T d (⟨some t,(.field n o x),none⟩::l) ⟨env,hp,lo,mks⟩ Q) (EvO T d l ⟨(t,.tup [])::env,hp,lo,mks⟩ Q):=EvO_guard
theorem EvO_indexAddr (d:Bool) (t:Nat) (sz:Nat) (x i:SX) (l:List SOp) (env:List (Nat × AV)) (hp:List Blk) (lo mks) (Q:St→Prop):EvO T d (⟨some t,(.indexAddr sz x i),none⟩::l) ⟨env,hp,lo,mks⟩ Q=stO T d (nrf (astep hp (St.ev ⟨env,hp,lo,mks⟩) (.indexAddr sz x i))) (some t) l env lo mks Q:=EvO_astep rfl
theorem EvG_indexAddr (d:Bool) (t g:Nat) (gb:Bool) (sz:Nat) (x i:SX) (l:List SOp) (env:List (Nat × AV)) (hp:List Blk) (lo mks) (Q:St→Prop):EvO T d (⟨some t,(.indexAddr sz x i),some (g,gb)⟩::l) ⟨env,hp,lo,mks⟩ Q=grd (lk env g) gb (EvO T d (⟨some t,(.indexAddr sz x i),none⟩::l) ⟨env,hp,lo,mks⟩ Q) (EvO T d l ⟨(t,.tup [])::env,hp,lo,mks⟩ Q):=EvO_guard
theorem EvO_indexArr (d:Bool) (t:Nat) (len sz:Nat) (x i:SX) (l:List SOp) (env:List (Nat × AV)) (hp:List Blk) (lo mks) (Q:St→Prop):EvO T d (⟨some t,(.indexArr len sz x i),none⟩::l) ⟨env,hp,lo,mks⟩ Q=stO T d (nrf (astep hp (St.ev ⟨env,hp,lo,mks⟩) (.indexArr len sz x i))) (some t) l env lo mks Q:=EvO_astep rfl
theorem EvG_indexArr (d:Bool) (t g:Nat) (gb:Bool) (len sz:Nat) (x i:SX) (l:List SOp) (env:List (Nat × AV)) (hp:List Blk) (lo mks) (Q:St→Prop):EvO T d (⟨some t,(.indexArr len sz x i),some (g,gb)⟩::l) ⟨env,hp,lo,mks⟩ Q=grd (lk env g) gb (EvO T d (⟨some t,(.indexArr len sz x i),none⟩::l) ⟨env,hp,lo,mks⟩ Q) (EvO T d l ⟨(t,.tup [])::env,hp,lo,mks⟩ Q):=EvO_guard
theorem EvO_indexV (d:Bool) (t:Nat) (q:Option Nat) (len sz:Nat) (x i:SX) (l:List SOp) (env:List (Nat × AV)) (hp:List Blk) (lo mks) (Q:St→Prop):EvO T d (⟨some t,(.indexV q len sz x i),none⟩::l) ⟨env,hp,lo,mks⟩ Q=stO T d (nrf (astep hp (St.ev ⟨env,hp,lo,mks⟩) (.indexV q len sz x i))) (some t) l env lo mks Q:=EvO_astep rfl
theorem EvG_indexV (d:Bool) (t g:Nat) (gb:Bool) (q:Option Nat) (len sz:Nat) (x i:SX) (l:List SOp) (env:List (Nat × AV)) (hp:List Blk) (lo mks) (Q:St→Prop):EvO T d (⟨some t,(.indexV q len sz x i),some (g,gb)⟩::l) ⟨env,hp,lo,mks⟩ Q=grd (lk env g) gb (EvO T d (⟨some t,(.indexV q len sz x i),none⟩::l) ⟨env,hp,lo,mks⟩ Q) (EvO T d l ⟨(t,.tup [])::env,hp,lo,mks⟩ Q):=EvO_guard
theorem EvO_index (d:Bool) (t:Nat) (x i:SX) (l:List SOp) (env:List (Nat × AV)) (hp:List Blk) (lo mks) (Q:St→Prop):EvO T d (⟨some t,(.index x i),none⟩::l) ⟨env,hp,lo,mks⟩ Q=stO T d (nrf (astep hp (St.ev ⟨env,hp,lo,mks⟩) (.index x i))) (some t) l env lo mks Q:=EvO_astep rfl
theorem EvG_index (d:Bool) (t g:Nat) (gb:Bool) (x i:SX) (l:List SOp) (env:List (Nat × AV)) (hp:List Blk) (lo mks) (Q:St→Prop):EvO T d (⟨some t,(.index x i),some (g,gb)⟩::l) ⟨env,hp,lo,mks⟩ Q=grd (lk env g) gb (EvO T d (⟨some t,(.index x i),none⟩::l) ⟨env,hp,lo,mks⟩ Q) (EvO T d l ⟨(t,.tup [])::env,hp,lo,mks⟩ Q):=EvO_guard
theorem EvO_slice (d:Bool) (t:Nat) (sz:Nat) (x:SX) (p q r:Option SX) (l:List SOp) (env:List (Nat × AV)) (hp:List Blk) (lo mks) (Q:St→Prop):EvO T d (⟨some t,(.slice sz x p q r),none⟩::l) ⟨env,hp,lo,mks⟩ Q=stO T d (nrf (astep hp (St.ev ⟨env,hp,lo,mks⟩) (.slice sz x p q r))) (some t) l env lo mks Q:=EvO_astep rfl
theorem EvG_slice (d:Bool) (t g:Nat) (gb:Bool) (sz:Nat) (x:SX) (p q r:Option SX) (l:List SOp) (env:List (Nat × AV)) (hp:List Blk) (lo mks) (Q:St→Prop):EvO T d (⟨some t,(.slice sz x p q r),some (g,gb)⟩::l) ⟨env,hp,lo,mks⟩ Q=grd (lk env g) gb (EvO T d (⟨some t,(.slice sz x p q r),none⟩::l) ⟨env,hp,lo,mks⟩ Q) (EvO T d l ⟨(t,.tup [])::env,hp,lo,mks⟩ Q):=EvO_guard
theorem EvO_slices (d:Bool) (t:Nat) (x:SX) (p q:Option SX) (l:List SOp) (env:List (Nat × AV)) (hp:List Blk) (lo mks) (Q:St→Prop):EvO T d (⟨some t,(.slices x p q),none⟩::l) ⟨env,hp,lo,mks⟩ Q=stO T d (nrf (astep hp (St.ev ⟨env,hp,lo,mks⟩) (.slices x p q))) (some t) l env lo mks Q:=EvO_astep rfl
theorem EvG_slices (d:Bool) (t g:Nat) (gb:Bool) (x:SX) (p q:Option SX) (l:List SOp) (env:List (Nat × AV)) (hp:List Blk) (lo mks) (Q:St→Prop):EvO T d (⟨some t,(.slices x p q),some (g,gb)⟩::l) ⟨env,hp,lo,mks⟩ Q=grd (lk env g) gb (EvO T d (⟨some t,(.slices x p q),none⟩::l) ⟨env,hp,lo,mks⟩ Q) (EvO T d l ⟨(t,.tup [])::env,hp,lo,mks⟩ Q):=EvO_guard
theorem EvO_extract (d:Bool) (t:Nat) (i:Nat) (x:SX) (l:List SOp) (env:List (Nat × AV)) (hp:List Blk) (lo mks) (Q:St→Prop):EvO T d (⟨some t,(.extract i x),none⟩::l) ⟨env,hp,lo,mks⟩ Q=stO T d (nrf (astep hp (St.ev ⟨env,hp,lo,mks⟩) (.extract i x))) (some t) l env lo mks Q:=EvO_astep rfl
theorem EvG_extract (d:Bool) (t g:Nat) (gb:Bool) (i:Nat) (x:SX) (l:List SOp) (env:List (Nat × AV)) (hp:List Blk) (lo mks) (Q:St→Prop):EvO T d (⟨some t,(.extract i x),some (g,gb)⟩::l) ⟨env,hp,lo,mks⟩ Q=grd (lk env g) gb (EvO T d (⟨some t,(.extract i x),none⟩::l) ⟨env,hp,lo,mks⟩ Q) (EvO T d l ⟨(t,.tup [])::env,hp,lo,mks⟩ Q):=EvO_guard
theorem EvO_len (d:Bool) (t:Nat) (s:Bool) (x:SX) (l:List SOp) (env:List (Nat × AV)) (hp:List Blk) (lo mks) (Q:St→Prop):EvO T d (⟨some t,(.len s x),none⟩::l) ⟨env,hp,lo,mks⟩ Q=stO T d (nrf (astep hp (St.ev ⟨env,hp,lo,mks⟩) (.len s x))) (some t) l env lo mks Q:=EvO_astep rfl
theorem EvG_len (d:Bool) (t g:Nat) (gb:Bool) (s:Bool) (x:SX) (l:List SOp) (env:List (Nat × AV)) (hp:List Blk) (lo mks) (Q:St→Prop):EvO T d (⟨some t,(.len s x),some (g,gb)⟩::l) ⟨env,hp,lo,mks⟩ Q=grd (lk env g) gb (EvO T d (⟨some t,(.len s x),none⟩::l) ⟨env,hp,lo,mks⟩ Q) (EvO T d l ⟨(t,.tup [])::env,hp,lo,mks⟩ Q):=EvO_guard
theorem EvO_append (d:Bool) (t:Nat) (sz bytes:Nat) (s x:SX) (l:List SOp) (env:List (Nat × AV)) (hp:List Blk) (lo mks) (Q:St→Prop):EvO T d (⟨some t,(.append sz bytes s x),none⟩::l) ⟨env,hp,lo,mks⟩ Q=stO T d (nrf (astep hp (St.ev ⟨env,hp,lo,mks⟩) (.append sz bytes s x))) (some t) l env lo mks Q:=EvO_astep rfl
theorem EvG_append (d:Bool) (t g:Nat) (gb:Bool) (sz bytes:Nat) (s x:SX) (l:List SOp) (env:List (Nat × AV)) (hp:List Blk) (lo mks) (Q:St→Prop):EvO T d (⟨some t,(.append sz bytes s x),some (g,gb)⟩::l) ⟨env,hp,lo,mks⟩ Q=grd (lk env g) gb (EvO T d (⟨some t,(.append sz bytes s x),none⟩::l) ⟨env,hp,lo,mks⟩ Q) (EvO T d l ⟨(t,.tup [])::env,hp,lo,mks⟩ Q):=EvO_guard
theorem EvO_make (d:Bool) (t:Nat) (z:List AV) (bytes:Nat) (n:SX) (l:List SOp) (env:List (Nat × AV)) (hp:List Blk) (lo mks) (Q:St→Prop):EvO T d (⟨some t,(.make z bytes n),none⟩::l) ⟨env,hp,lo,mks⟩ Q=stO T d (nrf (astep hp (St.ev ⟨env,hp,lo,mks⟩) (.make z bytes n))) (some t) l env lo mks Q:=EvO_astep rfl
theorem EvG_make (d:Bool) (t g:Nat) (gb:Bool) (z:List AV) (bytes:Nat) (n:SX) (l:List SOp) (env:List (Nat × AV)) (hp:List Blk) (lo mks) (Q:St→Prop):EvO T d (⟨some t,(.make z bytes n),some (g,gb)⟩::l) ⟨env,hp,lo,mks⟩ Q=grd (lk env g) gb (EvO T d (⟨some t,(.make z bytes n),none⟩::l) ⟨env,hp,lo,mks⟩ Q) (EvO T d l ⟨(t,.tup [])::env,hp,lo,mks⟩ Q):=EvO_guard
theorem EvO_copy (d:Bool) (t:Nat) (sz:Nat) (s x:SX) (l:List SOp) (env:List (Nat × AV)) (hp:List Blk) (lo mks) (Q:St→Prop):EvO T d (⟨some t,(.copy sz s x),none⟩::l) ⟨env,hp,lo,mks⟩ Q=stO T d (nrf (astep hp (St.ev ⟨env,hp,lo,mks⟩) (.copy sz s x))) (some t) l env lo mks Q:=EvO_astep rfl
theorem EvG_copy (d:Bool) (t g:Nat) (gb:Bool) (sz:Nat) (s x:SX) (l:List SOp) (env:List (Nat × AV)) (hp:List Blk) (lo mks) (Q:St→Prop):EvO T d (⟨some t,(.copy sz s x),some (g,gb)⟩::l) ⟨env,hp,lo,mks⟩ Q=grd (lk env g) gb (EvO T d (⟨some t,(.copy sz s x),none⟩::l) ⟨env,hp,lo,mks⟩ Q) (EvO T d l ⟨(t,.tup [])::env,hp,lo,mks⟩ Q):=EvO_guard
theorem EvO_mm (d:Bool) (t:Nat) (mx:Bool) (x y:SX) (l:List SOp) (env:List (Nat × AV)) (hp:List Blk) (lo mks) (Q:St→Prop):EvO T d (⟨some t,(.mm mx x y),none⟩::l) ⟨env,hp,lo,mks⟩ Q=stO T d (nrf (astep hp (St.ev ⟨env,hp,lo,mks⟩) (.mm mx x y))) (some t) l env lo mks Q:=EvO_astep rfl
theorem EvG_mm (d:Bool) (t g:Nat) (gb:Bool) (mx:Bool) (x y:SX) (l:List SOp) (env:List (Nat × AV)) (hp:List Blk) (lo mks) (Q:St→Prop):EvO T d (⟨some t,(.mm mx x y),some (g,gb)⟩::l) ⟨env,hp,lo,mks⟩ Q=grd (lk env g) gb (EvO T d (⟨some t,(.mm mx x y),none⟩::l) ⟨env,hp,lo,mks⟩ Q) (EvO T d l ⟨(t,.tup [])::env,hp,lo,mks⟩ Q):=EvO_guard
theorem EvO_fn (d:Bool) (t:Nat) (f:Nat) (fs cs:List SX) (l:List SOp) (env:List (Nat × AV)) (hp:List Blk) (lo mks) (Q:St→Prop):EvO T d (⟨some t,(.fn f fs cs),none⟩::l) ⟨env,hp,lo,mks⟩ Q=stO T d (nrf (astep hp (St.ev ⟨env,hp,lo,mks⟩) (.fn f fs cs))) (some t) l env lo mks Q:=EvO_astep rfl
theorem EvG_fn (d:Bool) (t g:Nat) (gb:Bool) (f:Nat) (fs cs:List SX) (l:List SOp) (env:List (Nat × AV)) (hp:List Blk) (lo mks) (Q:St→Prop):EvO T d (⟨some t,(.fn f fs cs),some (g,gb)⟩::l) ⟨env,hp,lo,mks⟩ Q=grd (lk env g) gb (EvO T d (⟨some t,(.fn f fs cs),none⟩::l) ⟨env,hp,lo,mks⟩ Q) (EvO T d l ⟨(t,.tup [])::env,hp,lo,mks⟩ Q):=EvO_guard
theorem EvO_iface (d:Bool) (t:Nat) (tt:Nat) (x:SX) (l:List SOp) (env:List (Nat × AV)) (hp:List Blk) (lo mks) (Q:St→Prop):EvO T d (⟨some t,(.iface tt x),none⟩::l) ⟨env,hp,lo,mks⟩ Q=stO T d (nrf (astep hp (St.ev ⟨env,hp,lo,mks⟩) (.iface tt x))) (some t) l env lo mks Q:=EvO_astep rfl
theorem EvG_iface (d:Bool) (t g:Nat) (gb:Bool) (tt:Nat) (x:SX) (l:List SOp) (env:List (Nat × AV)) (hp:List Blk) (lo mks) (Q:St→Prop):EvO T d (⟨some t,(.iface tt x),some (g,gb)⟩::l) ⟨env,hp,lo,mks⟩ Q=grd (lk env g) gb (EvO T d (⟨some t,(.iface tt x),none⟩::l) ⟨env,hp,lo,mks⟩ Q) (EvO T d l ⟨(t,.tup [])::env,hp,lo,mks⟩ Q):=EvO_guard
theorem EvO_assert (d:Bool) (t:Nat) (tt:Nat) (x:SX) (l:List SOp) (env:List (Nat × AV)) (hp:List Blk) (lo mks) (Q:St→Prop):EvO T d (⟨some t,(.assert tt x),none⟩::l) ⟨env,hp,lo,mks⟩ Q=stO T d (nrf (astep hp (St.ev ⟨env,hp,lo,mks⟩) (.assert tt x))) (some t) l env lo mks Q:=EvO_astep rfl
theorem EvG_assert (d:Bool) (t g:Nat) (gb:Bool) (tt:Nat) (x:SX) (l:List SOp) (env:List (Nat × AV)) (hp:List Blk) (lo mks) (Q:St→Prop):EvO T d (⟨some t,(.assert tt x),some (g,gb)⟩::l) ⟨env,hp,lo,mks⟩ Q=grd (lk env g) gb (EvO T d (⟨some t,(.assert tt x),none⟩::l) ⟨env,hp,lo,mks⟩ Q) (EvO T d l ⟨(t,.tup [])::env,hp,lo,mks⟩ Q):=EvO_guard
theorem EvO_mkmap (d:Bool) (t:Nat)  (l:List SOp) (env:List (Nat × AV)) (hp:List Blk) (lo mks) (Q:St→Prop):EvO T d (⟨some t,(.mkmap),none⟩::l) ⟨env,hp,lo,mks⟩ Q=stO T d (nrf (astep hp (St.ev ⟨env,hp,lo,mks⟩) (.mkmap))) (some t) l env lo mks Q:=EvO_astep rfl
theorem EvG_mkmap (d:Bool) (t g:Nat) (gb:Bool)  (l:List SOp) (env:List (Nat × AV)) (hp:List Blk) (lo mks) (Q:St→Prop):EvO T d (⟨some t,(.mkmap),some (g,gb)⟩::l) ⟨env,hp,lo,mks⟩ Q=grd (lk env g) gb (EvO T d (⟨some t,(.mkmap),none⟩::l) ⟨env,hp,lo,mks⟩ Q) (EvO T d l ⟨(t,.tup [])::env,hp,lo,mks⟩ Q):=EvO_guard
theorem EvO_look (d:Bool) (t:Nat) (u:Bool) (kc:Nat) (z:AV) (ok:Bool) (x i:SX) (l:List SOp) (env:List (Nat × AV)) (hp:List Blk) (lo mks) (Q:St→Prop):EvO T d (⟨some t,(.look u kc z ok x i),none⟩::l) ⟨env,hp,lo,mks⟩ Q=stO T d (nrf (astep hp (St.ev ⟨env,hp,lo,mks⟩) (.look u kc z ok x i))) (some t) l env lo mks Q:=EvO_astep rfl
theorem EvG_look (d:Bool) (t g:Nat) (gb:Bool) (u:Bool) (kc:Nat) (z:AV) (ok:Bool) (x i:SX) (l:List SOp) (env:List (Nat × AV)) (hp:List Blk) (lo mks) (Q:St→Prop):EvO T d (⟨some t,(.look u kc z ok x i),some (g,gb)⟩::l) ⟨env,hp,lo,mks⟩ Q=grd (lk env g) gb (EvO T d (⟨some t,(.look u kc z ok x i),none⟩::l) ⟨env,hp,lo,mks⟩ Q) (EvO T d l ⟨(t,.tup [])::env,hp,lo,mks⟩ Q):=EvO_guard
theorem EvO_rng (d:Bool) (t:Nat) (x:SX) (l:List SOp) (env:List (Nat × AV)) (hp:List Blk) (lo mks) (Q:St→Prop):EvO T d (⟨some t,(.rng x),none⟩::l) ⟨env,hp,lo,mks⟩ Q=stO T d (nrf (astep hp (St.ev ⟨env,hp,lo,mks⟩) (.rng x))) (some t) l env lo mks Q:=EvO_astep rfl
theorem EvG_rng (d:Bool) (t g:Nat) (gb:Bool) (x:SX) (l:List SOp) (env:List (Nat × AV)) (hp:List Blk) (lo mks) (Q:St→Prop):EvO T d (⟨some t,(.rng x),some (g,gb)⟩::l) ⟨env,hp,lo,mks⟩ Q=grd (lk env g) gb (EvO T d (⟨some t,(.rng x),none⟩::l) ⟨env,hp,lo,mks⟩ Q) (EvO T d l ⟨(t,.tup [])::env,hp,lo,mks⟩ Q):=EvO_guard
theorem EvO_entry (d:Bool) (t:Nat) (x:SX) (l:List SOp) (env:List (Nat × AV)) (hp:List Blk) (lo mks) (Q:St→Prop):EvO T d (⟨some t,(.entry x),none⟩::l) ⟨env,hp,lo,mks⟩ Q=stO T d (nrf (astep hp (St.ev ⟨env,hp,lo,mks⟩) (.entry x))) (some t) l env lo mks Q:=EvO_astep rfl
theorem EvG_entry (d:Bool) (t g:Nat) (gb:Bool) (x:SX) (l:List SOp) (env:List (Nat × AV)) (hp:List Blk) (lo mks) (Q:St→Prop):EvO T d (⟨some t,(.entry x),some (g,gb)⟩::l) ⟨env,hp,lo,mks⟩ Q=grd (lk env g) gb (EvO T d (⟨some t,(.entry x),none⟩::l) ⟨env,hp,lo,mks⟩ Q) (EvO T d l ⟨(t,.tup [])::env,hp,lo,mks⟩ Q):=EvO_guard
theorem EvO_cap (d:Bool) (t:Nat) (x:SX) (l:List SOp) (env:List (Nat × AV)) (hp:List Blk) (lo mks) (Q:St→Prop):EvO T d (⟨some t,(.cap x),none⟩::l) ⟨env,hp,lo,mks⟩ Q=stO T d (nrf (astep hp (St.ev ⟨env,hp,lo,mks⟩) (.cap x))) (some t) l env lo mks Q:=EvO_astep rfl
theorem EvG_cap (d:Bool) (t g:Nat) (gb:Bool) (x:SX) (l:List SOp) (env:List (Nat × AV)) (hp:List Blk) (lo mks) (Q:St→Prop):EvO T d (⟨some t,(.cap x),some (g,gb)⟩::l) ⟨env,hp,lo,mks⟩ Q=grd (lk env g) gb (EvO T d (⟨some t,(.cap x),none⟩::l) ⟨env,hp,lo,mks⟩ Q) (EvO T d l ⟨(t,.tup [])::env,hp,lo,mks⟩ Q):=EvO_guard
theorem EvO_appz (d:Bool) (t:Nat) (z:List AV) (bytes:Nat) (s n:SX) (l:List SOp) (env:List (Nat × AV)) (hp:List Blk) (lo mks) (Q:St→Prop):EvO T d (⟨some t,(.appz z bytes s n),none⟩::l) ⟨env,hp,lo,mks⟩ Q=stO T d (nrf (astep hp (St.ev ⟨env,hp,lo,mks⟩) (.appz z bytes s n))) (some t) l env lo mks Q:=EvO_astep rfl
theorem EvG_appz (d:Bool) (t g:Nat) (gb:Bool) (z:List AV) (bytes:Nat) (s n:SX) (l:List SOp) (env:List (Nat × AV)) (hp:List Blk) (lo mks) (Q:St→Prop):EvO T d (⟨some t,(.appz z bytes s n),some (g,gb)⟩::l) ⟨env,hp,lo,mks⟩ Q=grd (lk env g) gb (EvO T d (⟨some t,(.appz z bytes s n),none⟩::l) ⟨env,hp,lo,mks⟩ Q) (EvO T d l ⟨(t,.tup [])::env,hp,lo,mks⟩ Q):=EvO_guard
theorem EvO_text (d:Bool) (t:Nat) (x:SX) (l:List SOp) (env:List (Nat × AV)) (hp:List Blk) (lo mks) (Q:St→Prop):EvO T d (⟨some t,(.text x),none⟩::l) ⟨env,hp,lo,mks⟩ Q=stO T d (nrf (astep hp (St.ev ⟨env,hp,lo,mks⟩) (.text x))) (some t) l env lo mks Q:=EvO_astep rfl
theorem EvG_text (d:Bool) (t g:Nat) (gb:Bool) (x:SX) (l:List SOp) (env:List (Nat × AV)) (hp:List Blk) (lo mks) (Q:St→Prop):EvO T d (⟨some t,(.text x),some (g,gb)⟩::l) ⟨env,hp,lo,mks⟩ Q=grd (lk env g) gb (EvO T d (⟨some t,(.text x),none⟩::l) ⟨env,hp,lo,mks⟩ Q) (EvO T d l ⟨(t,.tup [])::env,hp,lo,mks⟩ Q):=EvO_guard
theorem EvO_room (d:Bool) (t:Nat) (z:List AV) (bytes:Nat) (n:SX) (l:List SOp) (env:List (Nat × AV)) (hp:List Blk) (lo mks) (Q:St→Prop):EvO T d (⟨some t,(.room z bytes n),none⟩::l) ⟨env,hp,lo,mks⟩ Q=stO T d (nrf (astep hp (St.ev ⟨env,hp,lo,mks⟩) (.room z bytes n))) (some t) l env lo mks Q:=EvO_astep rfl
theorem EvG_room (d:Bool) (t g:Nat) (gb:Bool) (z:List AV) (bytes:Nat) (n:SX) (l:List SOp) (env:List (Nat × AV)) (hp:List Blk) (lo mks) (Q:St→Prop):EvO T d (⟨some t,(.room z bytes n),some (g,gb)⟩::l) ⟨env,hp,lo,mks⟩ Q=grd (lk env g) gb (EvO T d (⟨some t,(.room z bytes n),none⟩::l) ⟨env,hp,lo,mks⟩ Q) (EvO T d l ⟨(t,.tup [])::env,hp,lo,mks⟩ Q):=EvO_guard
theorem EvO_store (d:Bool) (mv:Bool) (n:Nat) (x v:SX) (l:List SOp) (env:List (Nat × AV)) (hp:List Blk) (lo mks) (Q:St→Prop):EvO T d (⟨none,(.store mv n x v),none⟩::l) ⟨env,hp,lo,mks⟩ Q=stO T d (nrf (astep hp (St.ev ⟨env,hp,lo,mks⟩) (.store mv n x v))) none l env lo mks Q:=EvO_astep rfl
theorem EvO_clear (d:Bool) (z:List AV) (x:SX) (l:List SOp) (env:List (Nat × AV)) (hp:List Blk) (lo mks) (Q:St→Prop):EvO T d (⟨none,(.clear z x),none⟩::l) ⟨env,hp,lo,mks⟩ Q=stO T d (nrf (astep hp (St.ev ⟨env,hp,lo,mks⟩) (.clear z x))) none l env lo mks Q:=EvO_astep rfl
theorem EvO_upd (d:Bool) (kc:Nat) (x k v:SX) (l:List SOp) (env:List (Nat × AV)) (hp:List Blk) (lo mks) (Q:St→Prop):EvO T d (⟨none,(.upd kc x k v),none⟩::l) ⟨env,hp,lo,mks⟩ Q=stO T d (nrf (astep hp (St.ev ⟨env,hp,lo,mks⟩) (.upd kc x k v))) none l env lo mks Q:=EvO_astep rfl
def finQ (n:Nat) (res:List RS) (r:AV × List Blk) (x:AX) (st:St):Prop:=(∀ id,x≠.exit id)∧(results st.env st.hp res).bind (fun v=>fin n (still st.hp (rsIds st.env st.hp res)) v)=some r
theorem finQ_ret (n:Nat) (res:List RS) (r:AV × List Blk) (env:List (Nat × AV)) (hp:List Blk) (lo mks):finQ n res r .ret ⟨env,hp,lo,mks⟩=((results env hp res).bind (fun v=>fin n (still hp (rsIds env hp res)) v)=some r):=by simp [finQ]
theorem finQ_normal (n:Nat) (res:List RS) (r:AV × List Blk) (env:List (Nat × AV)) (hp:List Blk) (lo mks):finQ n res r .normal ⟨env,hp,lo,mks⟩=((results env hp res).bind (fun v=>fin n (still hp (rsIds env hp res)) v)=some r):=by simp [finQ]
theorem runP_fn {k:Nat} {d:FnDef} (hT:T k=some (.fn d)) {as:List AV} {hps:List Blk} (hl:as.length=d.params) {r:AV × List Blk}
  (h:Ev T d.body ⟨bindParams 0 as,hps,hps.length,[]⟩ (finQ hps.length d.res r)):runP T k as hps=some r:=by
 obtain ⟨⟨x,st⟩,h1,h2,h3⟩:=h
 simp only [obI] at h3
 obtain ⟨v,h3,h4⟩:=h3
 unfold runP callRes
 rw [hT]
 simp only
 rw [run_eq]
 simp only [F,hT]
 rw [if_pos hl,h1]
 cases x with
 |exit id=>exact absurd rfl (h2 id)
 |normal=>simpa [lk,h3] using h4
 |ret=>simpa [lk,h3] using h4
def EvC (T:Nat→Option Entry) (k:Nat) (as:List AV) (hp:List Blk) (Q:AV→List Blk→Prop):Prop:=∃ r,run T (.call k as hp)=some r∧Q (lk r.2.env 0) r.2.hp
def EvR (T:Nat→Option Entry) (id:Nat) (vs:List AV) (hp:List Blk) (Q:AV→List Blk→Prop):Prop:=∃ r,run T (.round id vs hp)=some r∧Q (lk r.2.env 0) r.2.hp
def resQ (o:Option AV) (K:AV→Prop):Prop:=match o with
 |some v=>K v
 |none=>False
@[congr] theorem resQ_congr {o o':Option AV} {K:AV→Prop} (h:o=o'):resQ o K=resQ o' K:=by rw [h]
theorem resQ_some (v:AV) (K:AV→Prop):resQ (some v) K=K v:=rfl
def fnQ (res:List RS) (Q:AV→List Blk→Prop) (x:AX) (st:St):Prop:=(∀ id,x≠.exit id)∧resQ (results st.env st.hp res) (fun v=>Q v (still st.hp (rsIds st.env st.hp res)))
theorem fnQ_ret (res:List RS) (Q:AV→List Blk→Prop) (env:List (Nat × AV)) (hp:List Blk) (lo mks):fnQ res Q .ret ⟨env,hp,lo,mks⟩=resQ (nrf (results env hp res)) (fun v=>Q v (still hp (rsIds env hp res))):=by simp [fnQ,nrf]
theorem fnQ_normal (res:List RS) (Q:AV→List Blk→Prop) (env:List (Nat × AV)) (hp:List Blk) (lo mks):fnQ res Q .normal ⟨env,hp,lo,mks⟩=resQ (nrf (results env hp res)) (fun v=>Q v (still hp (rsIds env hp res))):=by simp [fnQ,nrf]
theorem EvC_fn {k:Nat} {d:FnDef} (hT:T k=some (.fn d)) {as:List AV} {hp:List Blk} (hl:as.length=d.params) {Q:AV→List Blk→Prop}
  (h:Ev T d.body ⟨bindParams 0 as,hp,hp.length,[]⟩ (fnQ d.res Q)):EvC T k as hp Q:=by
 obtain ⟨⟨x,st⟩,h1,h2,h3⟩:=h
 unfold resQ at h3
 unfold EvC
 rw [run_eq]
 simp only [F,hT]
 rw [if_pos hl,h1]
 split at h3
 ·rename_i v h4
  simp only at h4
  cases x with
  |exit id=>exact absurd rfl (h2 id)
  |normal=>exact ⟨(.ret,⟨[(0,v)],still st.hp (rsIds st.env st.hp d.res),hp.length,[]⟩),by simp [h4],h3⟩
  |ret=>exact ⟨(.ret,⟨[(0,v)],still st.hp (rsIds st.env st.hp d.res),hp.length,[]⟩),by simp [h4],h3⟩
 ·exact h3.elim
def lpQ (o:Option Blk) (K:Nat→AX→Prop):Prop:=match o with
 |some (.lp s _ _ _ _ j)=>K s j
 |_=>False
@[congr] theorem lpQ_congr {o o':Option Blk} {K:Nat→AX→Prop} (h:o=o'):lpQ o K=lpQ o' K:=by rw [h]
theorem lpQ_some (s env ps asg body j) (K:Nat→AX→Prop):lpQ (some (.lp s env ps asg body j)) K=K s j:=rfl
def rfQ (id:Nat) (env:List (Nat × AV)) (lo:Nat) (mks:List Mark) (Q:AX→St→Prop) (_:AV) (hp':List Blk):Prop:=lpQ hp'[id]? (fun s j=>s≠1∧Q j ⟨env,hp'.set id .dead,lo,mks⟩)
theorem rfQ_eq (id:Nat) (env:List (Nat × AV)) (lo:Nat) (mks:List Mark) (Q:AX→St→Prop) (v:AV) (b:Blk) (l:List Blk):rfQ id env lo mks Q v (b::l)=lpQ (nrf ((b::l)[id]?)) (fun s j=>s≠1∧Q j ⟨env,(b::l).set id .dead,lo,mks⟩):=rfl
theorem Ev_rangef {x:SX} {ps:List Nat} {asg body:Stmt} {env:List (Nat × AV)} {hp:List Blk} {lo:Nat} {mks:List Mark} {Q:AX→St→Prop} {k:Nat} {fs cs:List AV} (hx:St.ev ⟨env,hp,lo,mks⟩ x=.clo k fs cs)
  (h:EvC T k (fs++[.yld hp.length]++cs) (hp++[.lp 0 env ps asg body .normal]) (rfQ hp.length env lo mks Q)):Ev T (.rangef x ps asg body) ⟨env,hp,lo,mks⟩ Q:=by
 obtain ⟨r,h1,h2⟩:=h
 unfold rfQ lpQ at h2
 unfold Ev
 rw [run_eq]
 simp only [F,hx]
 rw [h1]
 simp only [Option.bind_some]
 split at h2
 ·rename_i s env' ps' asg' body' j hb
  refine ⟨(j,⟨env,r.2.hp.set hp.length .dead,lo,mks⟩),?_,h2.2⟩
  rw [hb]
  simp only [if_pos h2.1]
 ·exact h2.elim
def rd2Q (id:Nat) (env:List (Nat × AV)) (ps:List Nat) (asg body:Stmt) (j0:AX) (Q:AV→List Blk→Prop) (x2:AX) (st2:St):Prop:=st2.hp[id]? = some (.lp 1 env ps asg body j0)∧Q (.bool (decide (x2=.normal))) (st2.hp.set id (.lp (if x2=.normal then 0 else 2) env ps asg body x2))
theorem rd2Q_normal (id:Nat) (env:List (Nat × AV)) (ps:List Nat) (asg body:Stmt) (j0:AX) (Q:AV→List Blk→Prop) (e hp lo mks):rd2Q id env ps asg body j0 Q .normal ⟨e,hp,lo,mks⟩=(hp[id]? = some (.lp 1 env ps asg body j0)∧Q (.bool true) (hp.set id (.lp 0 env ps asg body .normal))):=by simp [rd2Q]
theorem rd2Q_exit (id:Nat) (env:List (Nat × AV)) (ps:List Nat) (asg body:Stmt) (j0:AX) (Q:AV→List Blk→Prop) (e hp lo mks) (i:Nat):rd2Q id env ps asg body j0 Q (.exit i) ⟨e,hp,lo,mks⟩=(hp[id]? = some (.lp 1 env ps asg body j0)∧Q (.bool false) (hp.set id (.lp 2 env ps asg body (.exit i)))):=by simp [rd2Q]
theorem rd2Q_ret (id:Nat) (env:List (Nat × AV)) (ps:List Nat) (asg body:Stmt) (j0:AX) (Q:AV→List Blk→Prop) (e hp lo mks):rd2Q id env ps asg body j0 Q .ret ⟨e,hp,lo,mks⟩=(hp[id]? = some (.lp 1 env ps asg body j0)∧Q (.bool false) (hp.set id (.lp 2 env ps asg body .ret))):=by simp [rd2Q]
def rdQ (T:Nat→Option Entry) (id:Nat) (env:List (Nat × AV)) (ps:List Nat) (asg body:Stmt) (j0:AX) (n:Nat) (Q:AV→List Blk→Prop) (x:AX) (st:St):Prop:=x=.normal∧st.hp[id]? = some (.lp 0 env ps asg body j0)∧Ev T body ⟨st.env,st.hp.set id (.lp 1 env ps asg body j0),n,[]⟩ (rd2Q id env ps asg body j0 Q)
theorem rdQ_normal (T:Nat→Option Entry) (id:Nat) (env:List (Nat × AV)) (ps:List Nat) (asg body:Stmt) (j0:AX) (n:Nat) (Q:AV→List Blk→Prop) (e hp lo mks):rdQ T id env ps asg body j0 n Q .normal ⟨e,hp,lo,mks⟩=(hp[id]? = some (.lp 0 env ps asg body j0)∧gst (nrf (some ⟨e,hp.set id (.lp 1 env ps asg body j0),n,[]⟩)) (fun st=>Ev T body st (rd2Q id env ps asg body j0 Q))):=by simp [rdQ,nrf,gst]
theorem EvR_eq {id:Nat} {vs:List AV} {hp:List Blk} {env:List (Nat × AV)} {ps:List Nat} {asg body:Stmt} {j0:AX} {Q:AV→List Blk→Prop} (hb:hp[id]? = some (.lp 0 env ps asg body j0)) (hl:vs.length=ps.length)
  (h:Ev T asg ⟨bindTo ps vs env,hp,hp.length,[]⟩ (rdQ T id env ps asg body j0 hp.length Q)):EvR T id vs hp Q:=by
 obtain ⟨⟨x,st⟩,h1,h2,h3,⟨x2,st2⟩,h4,h5,h6⟩:=h
 simp only at h2 h3 h4 h5 h6
 subst h2
 unfold EvR
 rw [run_eq]
 simp only [F,hb,if_pos hl,h1,Option.bind_some,if_true,h3,h4,h5]
 exact ⟨_,rfl,h6⟩
def ylQ (T:Nat→Option Entry) (d:Bool) (t:Nat) (l:List SOp) (env:List (Nat × AV)) (lo:Nat) (mks:List Mark) (Q:St→Prop) (v:AV) (hp':List Blk):Prop:=EvO T d l ⟨(t,v)::env,hp',lo,mks⟩ Q
theorem ylQ_eq (T:Nat→Option Entry) (d:Bool) (t:Nat) (l:List SOp) (env:List (Nat × AV)) (lo:Nat) (mks:List Mark) (Q:St→Prop) (v:AV) (b:Blk) (hp':List Blk):ylQ T d t l env lo mks Q v (b::hp')=EvO T d l ⟨(t,v)::env,b::hp',lo,mks⟩ Q:=rfl
def cfO (v:AV) (A:Nat→List AV→List AV→Prop) (B:Nat→Prop):Prop:=match v with
 | .clo k fs cs=>A k fs cs
 | .yld id=>B id
 |_=>False
@[congr] theorem cfO_congr {v v':AV} {A:Nat→List AV→List AV→Prop} {B:Nat→Prop} (h:v=v'):cfO v A B=cfO v' A B:=by rw [h]
theorem cfO_clo (k:Nat) (fs cs:List AV) (A:Nat→List AV→List AV→Prop) (B:Nat→Prop):cfO (.clo k fs cs) A B=A k fs cs:=rfl
theorem cfO_yld (id:Nat) (A:Nat→List AV→List AV→Prop) (B:Nat→Prop):cfO (.yld id) A B=B id:=rfl
theorem EvO_callf (d:Bool) (md:Md) (t:Nat) (x:SX) (as:List SX) (l:List SOp) (env:List (Nat × AV)) (hp:List Blk) (lo mks) (Q:St→Prop):EvO T d (⟨some t,.callf md x as,none⟩::l) ⟨env,hp,lo,mks⟩ Q =
  cfO (St.ev ⟨env,hp,lo,mks⟩ x) (fun k fs cs=>EvO T d (⟨some t,.call md k (fs.map .val++as++cs.map .val),none⟩::l) ⟨env,hp,lo,mks⟩ Q) (fun id=>md=.all∧EvR T id (as.map (St.ev ⟨env,hp,lo,mks⟩)) hp (ylQ T d t l env lo mks Q)):=by
 have e:∀ l:List AV,l.map (St.ev ⟨env,hp,lo,mks⟩ ∘ SX.val)=l:=fun l=>by
  induction l with
  |nil=>rfl
  |cons a l ih=>simp only [List.map_cons,ih,Function.comp,St.ev]
 rw [EvO_cons,run_eq]
 simp only [F,wanted,Option.bind_some,if_true]
 cases hx:St.ev ⟨env,hp,lo,mks⟩ x with
 |clo k fs cs=>
  simp only [cfO]
  rw [EvO_cons]
  simp only [run_callo,List.map_append,List.map_map,e]
 |yld id=>
  simp only [cfO,EvR,ylQ]
  apply propext
  constructor
  ·rintro ⟨r,h1,h2⟩
   split at h1
   ·rename_i hm
    rw [omI] at h1
    obtain ⟨q,h3,rfl⟩:=h1
    exact ⟨hm,q,h3,h2⟩
   ·cases h1
  ·rintro ⟨hm,q,h3,h2⟩
   exact ⟨_,by rw [if_pos hm,h3];rfl,h2⟩
 |_=>simp [cfO]
theorem ev_hp (env:List (Nat × AV)) (hp hp':List Blk) (lo:Nat) (mks:List Mark):St.ev ⟨env,hp,lo,mks⟩=St.ev ⟨env,hp',lo,mks⟩:=by funext x;cases x<;>rfl
def paO (o:Option (List Blk)) (A:List Blk→Prop):Prop:=match o with
 |some hp=>A hp
 |none=>False
@[congr] theorem paO_congr {o o':Option (List Blk)} {A:List Blk→Prop} (h:o=o'):paO o A=paO o' A:=by rw [h]
theorem paO_some (hp:List Blk) (A:List Blk→Prop):paO (some hp) A=A hp:=rfl
theorem EvO_memp (d:Bool) (t:Option Nat) (k:Nat) (as:List SX) (l:List SOp) (env:List (Nat × AV)) (hp:List Blk) (lo mks) (Q:St→Prop):
  EvO T d (⟨t,.call .memp k as,none⟩::l) ⟨env,hp,lo,mks⟩ Q=paO (nrf (packs hp (dedup (idsL (as.map (St.ev ⟨env,hp,lo,mks⟩))) []))) (fun hp1=>EvO T d (⟨t,.call .mem k as,none⟩::l) ⟨env,hp1,lo,mks⟩ Q):=by
 rw [EvO_cons,run_callo]
 simp only [callOp,nrf]
 cases packs hp (dedup (idsL (as.map (St.ev ⟨env,hp,lo,mks⟩))) []) with
 |none=>simp [paO]
 |some hp1=>
  simp only [Option.bind_some,paO]
  rw [EvO_cons,run_callo]
  simp only [callOp,ev_hp env hp1 hp lo mks]
  apply propext
  constructor
  ·rintro ⟨r,h1,h2⟩
   simp only [obI] at h1 ⊢
   obtain ⟨hps,h3,x,h4,h5⟩:=h1
   refine ⟨r,⟨hps,h3,x,h4,?_⟩,h2⟩
   split at h5
   ·rename_i hc;rw [if_pos hc,←h5];cases t<;>rfl
   ·cases h5
  ·rintro ⟨r,h1,h2⟩
   simp only [obI] at h1 ⊢
   obtain ⟨hps,h3,x,h4,h5⟩:=h1
   refine ⟨r,⟨hps,h3,x,h4,?_⟩,h2⟩
   split at h5
   ·rename_i hc;rw [if_pos hc,←h5];cases t<;>rfl
   ·cases h5
def rcO (o:Option (Nat × AV × List Blk)) (A:Nat→AV→List Blk→Prop):Prop:=match o with
 |some (k,v,hp)=>A k v hp
 |none=>False
@[congr] theorem rcO_congr {o o':Option (Nat × AV × List Blk)} {A:Nat→AV→List Blk→Prop} (h:o=o'):rcO o A=rcO o' A:=by rw [h]
theorem rcO_some (k:Nat) (v:AV) (hp:List Blk) (A:Nat→AV→List Blk→Prop):rcO (some (k,v,hp)) A=A k v hp:=rfl
def mrc (ms:List (Nat × Nat × RK)) (hp:List Blk):AV→Option (Nat × AV × List Blk)
 | .ifc t v=>(mlk ms t).bind fun q=>(rcv hp q.2 v).map (q.1,·)
 |_=>none
theorem mrc_ifc (ms:List (Nat × Nat × RK)) (hp:List Blk) (t:Nat) (v:AV):mrc ms hp (.ifc t v)=(mlk ms t).bind fun q=>(rcv hp q.2 v).map (q.1,·):=rfl
theorem mlk_cons (t s:Nat) (q:Nat × RK) (l:List (Nat × Nat × RK)):mlk ((t,q)::l) s=if t=s then some q else mlk l s:=rfl
theorem rcv_ptr (hp:List Blk) (o:Nat) (v:AV):rcv hp (.ptr o) v=(moved o v).map (·,hp):=rfl
theorem rcv_val (hp:List Blk) (o:Nat) (n:Option Nat) (v:AV):rcv hp (.val o n) v=(moved o v).bind fun v'=>astep hp (fun _=>v') (.load true n (.tmp 0)):=rfl
theorem moved_ip (o:Nat) (cs:List AV):moved o (.ip cs)=some (.ip (cs.drop o)):=rfl
theorem moved_ref (o id off:Nat):moved o (.ref id off)=some (.ref id (off+o)):=rfl
theorem EvO_invoke (d:Bool) (t:Option Nat) (md:Md) (x:SX) (ms:List (Nat × Nat × RK)) (as:List SX) (l:List SOp) (env:List (Nat × AV)) (hp:List Blk) (lo mks) (Q:St→Prop):EvO T d (⟨t,.invoke md x ms as,none⟩::l) ⟨env,hp,lo,mks⟩ Q =
  rcO (nrf (mrc ms hp (St.ev ⟨env,hp,lo,mks⟩ x))) (fun k v hp1=>EvO T d (⟨t,.call md k (.val v::as),none⟩::l) ⟨env,hp1,lo,mks⟩ Q):=by
 rw [EvO_cons,run_eq]
 simp only [F,wanted,Option.bind_some,if_true,nrf]
 cases hx:St.ev ⟨env,hp,lo,mks⟩ x with
 |ifc t' v=>
  simp only [mrc]
  cases hm:mlk ms t' with
  |none=>simp [rcO]
  |some q=>
   simp only [Option.bind_some]
   cases hr:rcv hp q.2 v with
   |none=>simp [rcO]
   |some r=>
    simp only [Option.bind_some,Option.map_some,rcO]
    rw [EvO_cons,run_callo]
    simp only [List.map_cons,ev_hp env r.2 hp lo mks]
    rfl
 |_=>simp [mrc,rcO]
theorem EvG_invoke (d:Bool) (t g:Nat) (b:Bool) (md:Md) (x:SX) (ms:List (Nat × Nat × RK)) (as:List SX) (l:List SOp) (env:List (Nat × AV)) (hp:List Blk) (lo mks) (Q:St→Prop):
  EvO T d (⟨some t,.invoke md x ms as,some (g,b)⟩::l) ⟨env,hp,lo,mks⟩ Q=grd (lk env g) b (EvO T d (⟨some t,.invoke md x ms as,none⟩::l) ⟨env,hp,lo,mks⟩ Q) (EvO T d l ⟨(t,.tup [])::env,hp,lo,mks⟩ Q):=EvO_guard
theorem EvG_callf (d:Bool) (t g:Nat) (b:Bool) (md:Md) (x:SX) (as:List SX) (l:List SOp) (env:List (Nat × AV)) (hp:List Blk) (lo mks) (Q:St→Prop):
  EvO T d (⟨some t,.callf md x as,some (g,b)⟩::l) ⟨env,hp,lo,mks⟩ Q=grd (lk env g) b (EvO T d (⟨some t,.callf md x as,none⟩::l) ⟨env,hp,lo,mks⟩ Q) (EvO T d l ⟨(t,.tup [])::env,hp,lo,mks⟩ Q):=EvO_guard
theorem runP_orc {k:Nat} {g:List AV→List Blk→Option (AV × List Blk)} (hT:T k=some (.orc g)) (as:List AV) (hps:List Blk):runP T k as hps=g as hps:=by
 unfold runP callRes
 rw [hT]
end
theorem ev_tmp (env:List (Nat × AV)) (hp:List Blk) (lo mks) (t:Nat):St.ev ⟨env,hp,lo,mks⟩ (.tmp t)=lk env t:=id rfl
theorem ev_val (st:St) (v:AV):St.ev st (.val v)=v:=id rfl
theorem lk_cons (d:Nat) (v:AV) (l:List (Nat × AV)) (s:Nat):lk ((d,v)::l) s=if d=s then v else lk l s:=id rfl
theorem int_beq (a b:Int):(a == b)=decide (a=b):=rfl
theorem int_bne (a b:Int):(a != b)=decide (a≠b):=by rw [bne,int_beq];simp
theorem not_dec (p:Prop) [Decidable p]:(!decide p)=decide (¬ p):=by simp
theorem dec_pos {p:Prop} [Decidable p] (h:p):decide p=true:=by simp [h]
theorem dec_neg {p:Prop} [Decidable p] (h:¬ p):decide p=false:=by simp [h]
theorem ff_tt:(false=true)=False:=by simp
theorem tt_tt:(true=true)=True:=by simp
theorem wrap_id {n:Int} (h1:-9223372036854775808≤n) (h2:n≤9223372036854775807):IntKind.wrap .i64 n=n:=by
 show (if (true && decide (n % 18446744073709551616 ≥ 9223372036854775808))=true then n % 18446744073709551616 - 18446744073709551616 else n % 18446744073709551616)=n
 split
 ·rename_i h;simp at h;omega
 ·rename_i h;simp at h;omega
theorem rdc_one (a:AV) (l:List AV):rdc (a::l) none=some a:=rfl
theorem rdc_row (l:List AV) (k:Nat):rdc l (some k)=if k≤l.length then some (.agg (l.take k)) else none:=rfl
theorem modify_zero (a:Blk) (l:List Blk) (f:Blk→Blk):(a::l).modify 0 f=f a::l:=by simp
theorem modify_succ (a:Blk) (l:List Blk) (n:Nat) (f:Blk→Blk):(a::l).modify (n+1) f=a::l.modify n f:=by simp
theorem keepEnv_nil (env:List (Nat × AV)):keepEnv env []=[]:=id rfl
theorem keepEnv_cons (env:List (Nat × AV)) (s:Nat) (l:List Nat):keepEnv env (s::l)=(s,lk env s)::keepEnv env l:=id rfl
theorem swapAll_nil (st:St):swapAll [] st=some st:=id rfl
theorem pick_pos {α:Type} {p:Prop} [Decidable p] (h:p) (a b:α):(if decide p=true then a else b)=a:=by simp [h]
theorem pick_neg {α:Type} {p:Prop} [Decidable p] (h:¬ p) (a b:α):(if decide p=true then a else b)=b:=by simp [h]
theorem ghost_push (lid:Nat) (keep:List Nat) (env:List (Nat × AV)) (hp:List Blk) (lo mks):ghost (.push lid keep) ⟨env,hp,lo,mks⟩=some ⟨keepEnv env keep,hp,lo,(lid,hp.length,keep,homesOf env keep)::mks⟩:=id rfl
theorem ghost_part (s:Nat) (env:List (Nat × AV)) (hp:List Blk) (lo mks):ghost (.part s) ⟨env,hp,lo,mks⟩=(match lk env s with | .own sz id=>(rowc hp id).bind (fun cs=>if 0<sz then some ⟨(s,.osl sz id 0 (cs.length / sz))::env,hp,lo,mks⟩ else none) | _=>some ⟨env,hp,lo,mks⟩):=by
 simp only [ghost]
 cases lk env s with
 |own sz id=>
  simp only [rowc]
  cases hp[id]? with
  |none=>rfl
  |some b=>cases b<;>rfl
 |_=>rfl
theorem ghost_keep (l:List Nat) (env:List (Nat × AV)) (hp:List Blk) (lo mks):ghost (.keep l) ⟨env,hp,lo,mks⟩=some ⟨keepEnv env l,hp,lo,mks⟩:=id rfl
theorem ghost_norm (lid:Nat) (env:List (Nat × AV)) (hp:List Blk) (lo mks n keep hs):ghost (.norm lid) ⟨env,hp,lo,(lid,n,keep,hs)::mks⟩=(swapAll hs ⟨keepEnv env keep,hp,lo,(lid,n,keep,hs)::mks⟩).bind (trim n):=by simp [ghost,lkm]
theorem ghost_norm' {lid d:Nat} (h:d≠lid) (env:List (Nat × AV)) (hp:List Blk) (lo mks v):ghost (.norm lid) ⟨env,hp,lo,(d,v)::mks⟩=ghost (.norm lid) ⟨env,hp,lo,mks⟩:=by simp [ghost,lkm,h]
theorem ghost_own (sz s:Nat) (env:List (Nat × AV)) (hp:List Blk) (lo mks):ghost (.own sz s) ⟨env,hp,lo,mks⟩=(match lk env s with | .nils=>some ⟨(s,.own sz hp.length)::env,hp++[.row false []],lo,mks⟩ | _=>some ⟨env,hp,lo,mks⟩):=by
 simp only [ghost];split<;>simp_all
def opnH (hp:List Blk):AV→Option (List Blk)
 | .ref id _=>match hp[id]? with
  |some (.row false cs)=>if noinlL (unpk (hp.set id .dead) cs).1=true then some ((unpk (hp.set id .dead) cs).2.set id (.row false (unpk (hp.set id .dead) cs).1)) else none
  |_=>some hp
 |_=>some hp
theorem ghost_opn (s:Nat) (env:List (Nat × AV)) (hp:List Blk) (lo mks):ghost (.opn s) ⟨env,hp,lo,mks⟩=(opnH hp (lk env s)).map fun hp'=>⟨env,hp',lo,mks⟩:=by
 simp only [ghost]
 generalize lk env s=v
 cases v with
 |ref id o=>
  simp only [opnH]
  generalize hp[id]? = b
  cases b with
  |none=>rfl
  |some b=>cases b with
   |row fr cs=>cases fr with
    |true=>rfl
    |false=>simp only;split<;>rfl
   |_=>rfl
 |_=>rfl
def opnAH (hp:List Blk) (o:Nat):AV→AV→Option (List Blk)
 | .own _ id,.ref id2 o2=>match hp[id]?,(rowc hp id2).bind fun c=>c[o2+o]? with
  |some (.row false cs),some (.int _ i)=>if i.toNat<cs.length∧noinlL (unpk (hp.set id .dead) ((cs.drop i.toNat).take 1)).1=true then some ((unpk (hp.set id .dead) ((cs.drop i.toNat).take 1)).2.set id (.row false (setAll cs i.toNat (unpk (hp.set id .dead) ((cs.drop i.toNat).take 1)).1))) else none
  |_,_=>some hp
 |_,_=>some hp
theorem ghost_opnA (s t o:Nat) (env:List (Nat × AV)) (hp:List Blk) (lo mks):ghost (.opnA s t o) ⟨env,hp,lo,mks⟩=(opnAH hp o (lk env s) (lk env t)).map fun hp'=>⟨env,hp',lo,mks⟩:=by
 simp only [ghost,opnAH]
 generalize lk env s=x
 generalize lk env t=y
 cases x with
 |own sz id=>cases y with
  |ref id2 o2=>
   simp only
   generalize (rowc hp id2).bind (fun c=>c[o2+o]?)=c
   cases hp[id]? with
   |none=>rfl
   |some b=>cases b with
    |row fr cs=>cases fr with
     |true=>rfl
     |false=>cases c with
      |none=>rfl
      |some v=>cases v with
       |int k i=>simp only;split<;>rfl
       |_=>rfl
    |_=>rfl
  |_=>rfl
 |_=>rfl
def frzmH (hp:List Blk):AV→Option (List Blk)
 | .mref id=>match hp[id]? with
  |some (.mp ks vs)=>if noidL vs then some (hp.set id (.mp ks (frzL vs))) else none
  |_=>some hp
 |_=>some hp
theorem ghost_frzm (s:Nat) (env:List (Nat × AV)) (hp:List Blk) (lo mks):ghost (.frzm s) ⟨env,hp,lo,mks⟩=(frzmH hp (lk env s)).map fun hp'=>⟨env,hp',lo,mks⟩:=by
 simp only [ghost,frzmH]
 generalize lk env s=x
 cases x with
 |mref id=>
  simp only
  cases hp[id]? with
  |none=>rfl
  |some b=>cases b with
   |mp ks vs=>simp only;split<;>rfl
   |_=>rfl
 |_=>rfl
def pkbH (hp:List Blk):AV→Option (List Blk)
 | .ref id _=>tidy 0 hp id 1
 |_=>some hp
theorem ghost_pkb (s:Nat) (env:List (Nat × AV)) (hp:List Blk) (lo mks):ghost (.pkb s) ⟨env,hp,lo,mks⟩=(pkbH hp (lk env s)).map fun hp'=>⟨env,hp',lo,mks⟩:=by
 simp only [ghost]
 generalize lk env s=v
 cases v<;>rfl
def opnFH (hp:List Blk) (o:Nat):AV→AV→Option (List Blk)
 | .ref id o2,.int _ i=>match hp[id]? with
  |some (.row false ds)=>match ds[o2+o]? with
   |some (.own _ id2)=>match hp[id2]? with
    |some (.row false cs)=>if i.toNat<cs.length∧noinlL (unpk (hp.set id2 .dead) ((cs.drop i.toNat).take 1)).1=true then some ((unpk (hp.set id2 .dead) ((cs.drop i.toNat).take 1)).2.set id2 (.row false (setAll cs i.toNat (unpk (hp.set id2 .dead) ((cs.drop i.toNat).take 1)).1))) else none
    |_=>some hp
   |_=>some hp
  |_=>some hp
 |_,_=>some hp
theorem ghost_opnF (s o t:Nat) (env:List (Nat × AV)) (hp:List Blk) (lo mks):ghost (.opnF s o t) ⟨env,hp,lo,mks⟩=(opnFH hp o (lk env s) (lk env t)).map fun hp'=>⟨env,hp',lo,mks⟩:=by
 simp only [ghost,opnFH]
 generalize lk env s=x
 generalize lk env t=y
 cases x with
 |ref id o2=>cases y with
  |int k i=>
   simp only
   cases hp[id]? with
   |none=>rfl
   |some b=>cases b with
    |row fr ds=>cases fr with
     |true=>rfl
     |false=>
      simp only
      generalize ds[o2+o]? = q
      cases q with
      |none=>rfl
      |some q=>cases q with
       |own z id2=>
        simp only
        cases hp[id2]? with
        |none=>rfl
        |some b=>cases b with
         |row fr cs=>cases fr with
          |true=>rfl
          |false=>simp only;split<;>rfl
         |_=>rfl
       |_=>rfl
    |_=>rfl
  |_=>rfl
 |_=>rfl
def opnMH (hp:List Blk):AV→AV→AV→Option (List Blk)
 | .own _ id,.int _ i,.int _ m=>match hp[id]? with
  |some (.row false cs)=>if (i % m).toNat<cs.length∧noinlL (unpk (hp.set id .dead) ((cs.drop (i % m).toNat).take 1)).1=true then some ((unpk (hp.set id .dead) ((cs.drop (i % m).toNat).take 1)).2.set id (.row false (setAll cs (i % m).toNat (unpk (hp.set id .dead) ((cs.drop (i % m).toNat).take 1)).1))) else none
  |_=>some hp
 |_,_,_=>some hp
theorem ghost_opnM (s t u:Nat) (env:List (Nat × AV)) (hp:List Blk) (lo mks):ghost (.opnM s t u) ⟨env,hp,lo,mks⟩=(opnMH hp (lk env s) (lk env t) (lk env u)).map fun hp'=>⟨env,hp',lo,mks⟩:=by
 simp only [ghost,opnMH]
 generalize lk env s=x
 generalize lk env t=y
 generalize lk env u=z
 cases x with
 |own sz id=>cases y with
  |int k i=>cases z with
   |int k2 m=>
    simp only
    cases hp[id]? with
    |none=>rfl
    |some b=>cases b with
     |row fr cs=>cases fr with
      |true=>rfl
      |false=>simp only;split<;>rfl
     |_=>rfl
   |_=>rfl
  |_=>rfl
 |_=>rfl
def ownbH (sz off:Nat) (hp:List Blk):AV→Option (List Blk)
 | .ref id o=>match hp[id]? with
  |some (.row false cs)=>match cs[o+off]? with
   |some .nils=>some (hp.set id (.row false (cs.set (o+off) (.vec sz []))))
   |_=>some hp
  |_=>some hp
 |_=>some hp
theorem ghost_ownb (sz s off:Nat) (env:List (Nat × AV)) (hp:List Blk) (lo mks):ghost (.ownb sz s off) ⟨env,hp,lo,mks⟩=(ownbH sz off hp (lk env s)).map fun hp'=>⟨env,hp',lo,mks⟩:=by
 simp only [ghost]
 generalize lk env s=v
 cases v with
 |ref id o=>
  simp only [ownbH]
  generalize hp[id]? = b
  cases b with
  |none=>rfl
  |some b=>cases b with
   |row fr cs=>cases fr with
    |true=>rfl
    |false=>
     simp only
     generalize cs[o+off]? = q
     cases q with
     |none=>rfl
     |some x=>cases x<;>rfl
   |_=>rfl
 |_=>rfl
attribute [go_sem] paO_some rcO_some mrc_ifc mlk_cons rcv_ptr rcv_val moved_ip moved_ref packs ghost_part cfO_clo cfO_yld resQ_some lpQ_some rfQ_eq rd2Q_normal rd2Q_exit rd2Q_ret ylQ_eq nrf_eq ghost_frzm ghost_opn ghost_opnA ghost_ownb ghost_push ghost_keep ghost_norm ghost_own keepEnv_nil swapAll_nil gst_some stO_some stO_none int_beq int_bne not_dec ff_tt tt_tt cnd_true cnd_false cnd_mtrue cnd_mfalse unx_normal unx_ret unx_exit grd_tt grd_tf grd_ft grd_ff grd_un thO_some thO_none meO_some plO_some quO_some two_true two_false
attribute [go_sem ↓] ivQ_normal ivQ_ret ivQ_exit thn_normal thn_ret thn_exit finQ_ret finQ_normal fnQ_ret fnQ_normal rdQ_normal Ev_skip Ev_ret Ev_exit Ev_scope Ev_ops Ev_opsC Ev_seq Ev_cond Ev_block Ev_ghost Ev_after EvO_nil EvO_move EvG_move EvO_pick EvG_pick EvO_box EvG_box EvO_alloc EvG_alloc EvO_build EvG_build EvO_lit EvG_lit EvO_load EvG_load EvO_nilCheck EvG_nilCheck EvO_bin EvG_bin EvO_isnil EvG_isnil EvO_un EvG_un EvO_conv EvG_conv EvO_same EvG_same EvO_fieldAddr EvG_fieldAddr EvO_field EvG_field EvO_indexAddr EvG_indexAddr EvO_indexArr EvG_indexArr EvO_indexV EvG_indexV EvO_index EvG_index EvO_slice EvG_slice EvO_slices EvG_slices EvO_extract EvG_extract EvO_len EvG_len EvO_append EvG_append EvO_make EvG_make EvO_copy EvG_copy EvO_mm EvG_mm EvO_fn EvG_fn EvO_iface EvG_iface EvO_assert EvG_assert EvO_mkmap EvG_mkmap EvO_look EvG_look EvO_rng EvG_rng EvO_entry EvG_entry EvO_cap EvG_cap EvO_appz EvG_appz EvO_text EvG_text EvO_room EvG_room EvO_store EvO_clear EvO_upd EvO_plain EvO_quiet EvO_mem EvO_memp EvO_invoke EvG_invoke EvG_call EvO_callf EvG_callf ev_tmp ev_val lk_cons keepEnv_cons
theorem thn_unx_ret (i:Nat) (a b:Prop):thn (unx i .ret) a b=b:=id rfl
attribute [go_sem ↓] thn_unx_ret
end Go.Proofs.Ytfbfbennheeglaa
