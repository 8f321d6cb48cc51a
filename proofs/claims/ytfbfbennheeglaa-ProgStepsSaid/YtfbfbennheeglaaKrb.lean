import Derived.Test.YtfbfbennheeglaaKt
namespace Go.Proofs.Ytfbfbennheeglaa
set_option linter.unusedSimpArgs false
set_option linter.unusedVariables false
open Go.RowKit
structure DrawnM (ops:Array Oper) (l:List SOp):Prop where
 plain:∀ (i:Nat) si,l[i]? = some si→si.op.loadsPlain=true
 kind:∀ (i:Nat) si,l[i]? = some si→kindOk l si=true
 edge:∀ (j:Nat) o,ops[j]? = some o→∀ e∈ons o,e<j
 pair:∀ (i j:Nat) si sj,l[i]? = some si→l[j]? = some sj→pairM (ancs ops.toList []) si sj i j=true
theorem drawnM_of {ops:Array Oper} {l:List SOp} (h:drawM ops l=true) (hl:l.length=ops.size):DrawnM ops l:=by
 simp only [drawM,Bool.and_eq_true,List.all_eq_true,List.mem_range] at h
 refine ⟨fun i si hi=>(h.1.1 si (List.mem_of_getElem? hi)).1,fun i si hi=>(h.1.1 si (List.mem_of_getElem? hi)).2,?_,?_⟩
 ·intro j o ho e he
  have:=h.1.2 j (Array.getElem?_eq_some_iff.1 ho).1
  rw [ho] at this
  simp only [List.all_eq_true,decide_eq_true_eq] at this
  exact this e he
 ·intro i j si sj hi hj
  have h1:=(List.getElem?_eq_some_iff.1 hi).1
  have h2:=(List.getElem?_eq_some_iff.1 hj).1
  have:=h.2 j (by omega) i (by omega)
  rw [hi,hj] at this
  exact this
theorem pairM_lt {A:List (List Nat)} {si sj:SOp} {i j:Nat} (h:pairM A si sj i j=true) (hij:i<j):(∀ d,si.dst=some d→sj.dst≠some d)∧((∃ d,si.dst=some d∧d∈sj.looks)→i∈A.getD j []):=by
 unfold pairM at h
 simp only [if_pos hij,Bool.and_eq_true,Bool.or_eq_true,Bool.not_eq_true',List.contains_iff_mem] at h
 obtain ⟨h1,h2⟩:=h
 refine ⟨?_,?_⟩
 ·intro d hd
  rw [hd] at h1
  simpa using h1
 ·rintro ⟨d,hd,hm⟩
  rw [hd] at h2
  rcases h2 with h2 | h2
  ·simp at h2;exact absurd hm h2
  ·exact h2
theorem pairM_gt {A:List (List Nat)} {si sj:SOp} {i j:Nat} (h:pairM A si sj i j=true) (hij:j<i):∀ d,si.dst=some d→d∈sj.looks→j∈A.getD i []:=by
 intro d hd hm
 unfold pairM at h
 rw [if_neg (by omega),if_pos hij,hd] at h
 simp [hm] at h
 exact h.1
theorem pairM_gt2 {A:List (List Nat)} {si sj:SOp} {i j:Nat} (h:pairM A si sj i j=true) (hij:j<i) (hmk:si.isMk=true):∀ d,si.dst=some d→d ∉ sj.looks:=by
 intro d hd hm
 unfold pairM at h
 rw [if_neg (by omega),if_pos hij,hd] at h
 simp [hm,hmk] at h
def fls (f:Nat→List Nat) (k:Nat):Nat→List Nat
 |0=>[]
 |n+1=>f k++fls f (k+1) n
theorem fls_congr {f g:Nat→List Nat}:∀ {n k:Nat},(∀ j,k≤j→j<k+n→f j=g j)→fls f k n=fls g k n
 |0,_,_=>rfl
 |n+1,k,h=>by
  simp only [fls]
  rw [h k (Nat.le_refl _) (by omega),fls_congr (n:=n) (k:=k+1) (fun j h1 h2=>h j (by omega) (by omega))]
theorem fls_perm {f g:Nat→List Nat} {i:Nat} {X:List Nat} (hf:f i=X) (hg:g i=[]) (he:∀ j,j≠i→f j=g j):∀ {n k:Nat},k≤i→i<k+n→(fls f k n).Perm (X++fls g k n)
 |0,k,h1,h2=>by omega
 |n+1,k,h1,h2=>by
  simp only [fls]
  by_cases e:k=i
  ·subst e
   rw [hf,hg,fls_congr (f:=f) (g:=g) (fun j a b=>he j (by omega))]
   exact List.Perm.refl _
  ·rw [he k e]
   have:=fls_perm hf hg he (n:=n) (k:=k+1) (by omega) (by omega)
   exact (this.append_left (g k)).trans (by rw [←List.append_assoc,←List.append_assoc];exact List.Perm.append_right _ List.perm_append_comm)
theorem fls_in {f:Nat→List Nat} {x j:Nat}:∀ {n k:Nat},k≤j→j<k+n→x∈f j→x∈fls f k n
 |0,_,h1,h2,_=>by omega
 |n+1,k,h1,h2,h=>by
  simp only [fls,List.mem_append]
  by_cases e:k=j
  ·subst e;exact .inl h
  ·exact .inr (fls_in (by omega) (by omega) h)
def mkAt (l:List SOp) (j:Nat):Bool:=match l[j]? with | some so=>so.isMk | none=>false
def flO (l:List SOp) (Lb:Array Bool) (Fl:Nat→List Nat) (j:Nat):List Nat:=if Lb.getD j false && mkAt l j then Fl j else []
section
variable {P:Program} {fid:FuncId→Option Nat} {fr fr0:Nat→Prop} {w0 w w':World} {m m':Mem} {hp hp':List Blk} {fl:List Nat} {nt:Nat} {a:Act} {ro:Option Nat} {n:Nat} {ops:Array Oper} {Q:Exit→Act→World→Prop}
theorem HInv.frames:∀ {fl:List Nat} {fr:Nat→Prop},HInv fr w m hp w fl→HInv (fun g=>fr g∨g∈fl) w m hp w []
 | [],fr,H=>by
  rw [show (fun g=>fr g∨g∈([]:List Nat))=fr from funext fun g=>by simp]
  exact H
 |r::fl,fr,H=>by
  have:=HInv.frames (HInv.frame H)
  rw [show (fun g=>(fr g∨g=r)∨g∈fl)=(fun g=>fr g∨g∈r::fl) from funext fun g=>by simp [or_assoc]] at this
  exact this
theorem HInv.unframes (H0:HInv fr w0 m hp w fl) (hE:Ext (fun g=>fr g∨g∈fl) m m') (H1:HInv (fun g=>fr g∨g∈fl) w m' hp' w' []):HInv fr w0 m' hp' w' fl∧(∀ g∈fl,w'.heap[g]? = w.heap[g]?)∧Ext fr m m':=by
 have hfix:∀ g∈fl,w'.heap[g]? = w.heap[g]?:=fun g hg=>(H1.fix g (.inr hg)).2
 refine ⟨?_,hfix,hE.le,fun b hb o=>hE.low b (.inl hb) o⟩
 have H2:HInv fr w0 m' hp' w' []:=⟨H1.os.trans H0.os,H1.tape.trans H0.tape,H1.output.trans H0.output,Nat.le_trans H0.size H1.size,fun g hg=>⟨(H1.fix g (.inl hg)).1,(H1.fix g (.inl hg)).2.trans (H0.fix g hg).2⟩,H1.len,H1.im,H1.blk,
  fun id g hg=>⟨fun q=>(H1.own id g hg).1 (.inl q),(H1.own id g hg).2⟩,H1.nd,H1.dj,H1.fpz,by simp,by simp,by simp⟩
 exact H2.floats (fun g hg=>⟨(H0.fown g hg).1,(H1.fix g (.inr hg)).1,fun o=>by rw [hE.low g (.inr hg) o];exact (H0.fown g hg).2.2 o⟩) H0.fnd (fun id g hg h=>(H1.own id g hg).1 (.inr h))
theorem idsL_app:∀ (a b:List AV),idsL (a++b)=idsL a++idsL b
 | [],_=>rfl
 |x::a,b=>by simp only [List.cons_append,idsL,idsL_app a b,List.append_assoc]
theorem tile_ids {z:List AV} (h:idsL z=[]):∀ n,idsL (tile n z)=[]
 |0=>rfl
 |n+1=>by rw [tile,idsL_app,h,tile_ids h n];rfl
theorem step_make {so:SOp} {st:St} {v:AV} {hp':List Blk} (hm:so.isMk=true) (h:Step P fid true so st v hp'):∃ d z bytes x k N,so=⟨some d,.make z bytes x,none⟩∧st.ev x=.int k ((N:Nat):Int)∧(N:Int)*bytes≤140737488355328∧v=.own z.length st.hp.length∧hp'=st.hp++[.row false (tile N z)]:=by
 unfold SOp.isMk at hm
 split at hm
 ·rename_i d z bytes x
  cases h with
  |skip hw=>simp [wanted] at hw
  | @op r hw ha=>
   simp only [astep] at ha
   split at ha
   ·rename_i k i hx
    split at ha
    ·rename_i hc
     injection ha with ha;subst ha
     obtain ⟨N,rfl⟩:=Int.eq_ofNat_of_zero_le hc.1
     exact ⟨d,z,bytes,x,k,N,rfl,hx,hc.2,rfl,by simp⟩
    ·cases ha
   ·cases ha
  | @call md k' vs v hp' hw ho hc=>simp [SO.callee] at ho
  | @round x as id v hp' hw ho hx hr=>cases ho
  | @invk q hp1 v hp' hw ho hc=>cases ho
 ·cases hm
theorem step_alias {so:SOp} {M:List Nat} {st:St} {v:AV} {hp':List Blk} (hm:so.isAl M=true) (h:Step P fid true so st v hp'):∃ d s,so=⟨some d,.move (.tmp s),none⟩∧s∈M∧v=lk st.env s∧hp'=st.hp:=by
 unfold SOp.isAl at hm
 split at hm
 ·rename_i d s
  cases h with
  |skip hw=>simp [wanted] at hw
  | @op r hw ha=>
   simp only [astep] at ha
   injection ha with ha;subst ha
   exact ⟨d,s,rfl,by simpa using hm,rfl,rfl⟩
  | @call md k' vs v hp' hw ho hc=>simp [SO.callee] at ho
  | @round x as id v hp' hw ho hx hr=>cases ho
  | @invk q hp1 v hp' hw ho hc=>cases ho
 ·cases hm
theorem make_free {o:Oper} {so:SOp} {i:Nat} {env:List (Nat × AV)} {lo:Nat} {mks:List Mark} {K:Act→World→Prop} {d:Nat} {z:List AV} {bytes:Nat} {x:SX} {k:IntKind} {N:Nat} (hso:so=⟨some d,.make z bytes x,none⟩) (hz:idsL z=[]) (hP:m.P=P) (hcd:m.cd=fid) (hcs:csop P fid nt ops o=some so.base) (hi:ops[i]? = some o) (H:HInv fr w0 m hp w fl)
  (hx:St.ev ⟨env,hp,lo,mks⟩ x=.int k (N:Int)) (hC:∀ t∈so.looks,C m (lk env t) (a.tmps.getD t undef)) (hN:(N:Int)*bytes≤140737488355328)
  (hK:∀ m' e F u w',Ext fr m m'→m'.bl=m.bl→BlkOk m' w' (.row false (tile N z)) e F→HInv fr w0 m' hp w' (F++fl)→(∀ g,g<w.heap.size→w'.heap[g]? = w.heap[g]?)→u=.slice e.a e.n e.cap→e.sz=z.length→K (a.put o.dst u) w'):wpOpIn (FF ro) n P ops Q i K a w:=by
 subst hso
 let me:Mem:={ m with bl:=[],fp:=fun _=>[] }
 have He:HInv (fun g=>g<w.heap.size) w me [] w []:=⟨rfl,rfl,rfl,Nat.le_refl _,fun g hg=>⟨hg,rfl⟩,rfl,H.im,by simp,by simp [me],by simp [me],by simp [me],by simp [me],by simp,by simp,by simp⟩
 let env':List (Nat × AV):=match x with | .tmp t=>[(t,.int k (N:Int))] | .val _=>[]
 have hEnv:EnvOk me env' a.tmps:=by
  intro s
  cases x with
  |val v=>simp [env',lk,C]
  |tmp t=>
   simp only [env',lk]
   split
   ·rename_i hst
    subst hst
    have:=hC t (by simp [SOp.looks,SO.tmps,SX.tmps])
    rw [show lk env t=.int k (N:Int) from hx] at this
    simpa only [C] using this
   ·simp [C]
 have hev:St.ev ⟨env',[],lo,mks⟩ x=.int k (N:Int):=by
  cases x with
  |val v=>exact hx
  |tmp t=>simp [env',St.ev,lk]
 have hst:Step P fid true ⟨some d,.make z bytes x,none⟩ ⟨env',[],lo,mks⟩ (.own z.length 0) [.row false (tile N z)]:=by
  refine Step.op (r:=(.own z.length 0,[.row false (tile N z)])) rfl ?_
  simp only [astep]
  rw [hev]
  simp only
  rw [if_pos ⟨by omega,hN⟩]
  simp
 refine step_ok (m:=me) (st:=⟨env',[],lo,mks⟩) hP hcd hcs hi He hEnv hst ?_
 intro m2 u w2 hE2 hC2 H2
 simp only [C] at hC2
 obtain ⟨e,he,hu,hesz⟩:=hC2
 have hblk:=H2.blk 0 _ e rfl he
 let m1:Mem:={ m with im:=m2.im }
 have himle:∀ b o u,m.im b o=some u→m2.im b o=some u:=hE2.le.im
 have hlow:∀ b,b<w.heap.size→∀ o,m2.im b o=m.im b o:=hE2.low
 have hold:∀ g,g<w.heap.size→w2.heap[g]? = w.heap[g]?:=fun g hg=>(H2.fix g hg).2
 have Hw:HInv fr w0 m hp w2 fl:=H.world H2.os H2.tape H2.output H2.size hold
 have H1:HInv fr w0 m1 hp w2 fl:=Hw.imle himle H2.im (fun id g hg o=>by rw [hlow g (H.own id g hg).2.1];exact (H.own id g hg).2.2 o) (fun g hg o=>by rw [hlow g (H.fown g hg).2.1];exact (H.fown g hg).2.2 o)
 have hblk1:BlkOk m1 w2 (.row false (tile N z)) e (m2.fp 0):=by
  have hs:Sim id (Blk.row false (tile N z)).ids m2 m1:=⟨hP.trans (hE2.le.P.trans hP).symm,hcd.trans (hE2.le.cd.trans hcd).symm,fun _ _ _ h=>h,fun q hq=>by
   simp only [Blk.ids] at hq
   rw [tile_ids hz N] at hq;cases hq⟩
  have:=hblk.sim hs
  rwa [Blk.ren_id] at this
 refine hK m1 e (m2.fp 0) u w2 ⟨⟨rfl,rfl,himle,fun _ _ h=>h⟩,fun b hb o=>hlow b (H.fix b hb).1 o⟩ rfl hblk1 ?_ hold hu hesz
 refine ⟨H1.os,H1.tape,H1.output,H1.size,H1.fix,H1.len,H1.im,H1.blk,H1.own,H1.nd,H1.dj,H1.fpz,?_,?_,?_⟩
 ·intro g hg
  rcases List.mem_append.1 hg with hg | hg
  ·have:=H2.own 0 g hg
   exact ⟨fun q=>this.1 (H.fix g q).1,this.2.1,this.2.2⟩
  ·exact H1.fown g hg
 ·rw [List.nodup_append]
  refine ⟨H2.nd 0,H1.fnd,fun g hg g' hg'=>?_⟩
  rintro rfl
  exact (H2.own 0 g hg).1 (H.fown g hg').2.1
 ·intro id g hg h
  rcases List.mem_append.1 h with h | h
  ·exact (H2.own 0 g h).1 (H.own id g hg).2.1
  ·exact H1.fdj id g hg h
def VM (m:Mem) (E:Nat→Ent) (Lb:Array Bool) (l:List SOp) (vals:Nat→AV) (hps:Nat→List Blk) (j:Nat) (sj:SOp) (u:Value):Prop:=
 if sj.isMk || sj.isAl (mks1 l) then ∃ jm sm,l[jm]? = some sm∧sm.isMk=true∧Lb.getD jm false=true∧vals j=.own (E jm).sz (hps jm).length∧u=.slice (E jm).a (E jm).n (E jm).cap
 else C m (vals j) u
structure RM (P:Program) (fid:FuncId→Option Nat) (fr:Nat→Prop) (w0:World) (nt:Nat) (ops:Array Oper) (l:List SOp) (vals:Nat→AV) (hps:Nat→List Blk) (st:St) (m0:Mem) (ds:List Deferred) (Lb:Array Bool) (a:Act) (w:World):Prop where
 size:Lb.size=ops.size
 closed:∀ (j:Nat) o,Lb.getD j false=true→ops[j]? = some o→∀ e∈ons o,Lb.getD e false=true
 mem:∃ (m:Mem) (E:Nat→Ent) (Fl:Nat→List Nat),m.P=P∧m.cd=fid∧Ext fr m0 m∧HInv fr w0 m st.hp w (fls (flO l Lb Fl) 0 l.length) ∧
  (∀ (j:Nat) sj,Lb.getD j false=true→l[j]? = some sj→sj.isMk=true→∀ b,hps (j+1)=hps j++[b]→BlkOk m w b (E j) (Fl j)) ∧
  (∀ (j:Nat) sj t,Lb.getD j false=true→l[j]? = some sj→sj.dst=some t→VM m E Lb l vals hps j sj (a.tmps.getD t undef)) ∧
  (∀ s,(∀ (j:Nat) sj,Lb.getD j false=true→l[j]? = some sj→sj.dst≠some s)→C m (lk st.env s) (a.tmps.getD s undef))
 n:nt≤a.tmps.size
 d:a.defers=ds
theorem mem_mks1 {l:List SOp} {s:Nat} (h:s∈mks1 l):∃ (j:Nat) (sj:SOp),l[j]? = some sj∧sj.isMk=true∧sj.dst=some s:=by
 unfold mks1 at h
 obtain ⟨so,hso,h2⟩:=List.mem_filterMap.1 h
 obtain ⟨j,hj⟩:=List.getElem?_of_mem hso
 split at h2
 ·rename_i hm;exact ⟨j,so,hj,hm,h2⟩
 ·cases h2
theorem mem_msetL {l:List SOp} {j:Nat} {sj:SOp} {t:Nat} (hj:l[j]? = some sj) (hm:(sj.isMk || sj.isAl (mks1 l))=true) (hd:sj.dst=some t):t∈msetL l:=
 List.mem_filterMap.2 ⟨sj,List.mem_of_getElem? hj,by rw [if_pos hm];exact hd⟩
theorem alias_free {o:Oper} {i:Nat} {K:Act→World→Prop} {d t:Nat} {e:Ent} (hP:m.P=P) (hcd:m.cd=fid) (hcs:csop P fid nt ops o=some (SOp.base ⟨some d,.move (.tmp t),none⟩)) (hi:ops[i]? = some o) (H:HInv fr w0 m hp w fl)
  (hu:a.tmps.getD t undef=.slice e.a e.n e.cap)
  (hK:∀ u w',HInv fr w0 m hp w' fl→(∀ g,g<w.heap.size→w'.heap[g]? = w.heap[g]?)→u=.slice e.a e.n e.cap→K (a.put o.dst u) w'):wpOpIn (FF ro) n P ops Q i K a w:=by
 let me:Mem:={ m with bl:=[e],fp:=fun _=>[] }
 have He:HInv (fun g=>g<w.heap.size) w me [.dead] w []:=⟨rfl,rfl,rfl,Nat.le_refl _,fun g hg=>⟨hg,rfl⟩,rfl,H.im,fun id b e hb he=>by
  cases id with
  |zero=>simp at hb;subst hb;rfl
  |succ id=>simp at hb,by simp [me],by simp [me],by simp [me],by simp [me],by simp,by simp,by simp⟩
 have hEnv:EnvOk me [(t,.own e.sz 0)] a.tmps:=by
  intro s
  simp only [lk]
  split
  ·rename_i h;subst h;rw [hu];simp only [C];exact ⟨e,rfl,rfl,rfl⟩
  ·simp [C]
 have hst:Step P fid true ⟨some d,.move (.tmp t),none⟩ ⟨[(t,.own e.sz 0)],[.dead],0,[]⟩ (.own e.sz 0) [.dead]:=by
  refine Step.op (r:=(.own e.sz 0,[.dead])) rfl ?_
  simp [astep,St.ev,lk]
 refine step_ok (m:=me) (st:=⟨[(t,.own e.sz 0)],[.dead],0,[]⟩) hP hcd hcs hi He hEnv hst ?_
 intro m2 u w2 hE2 hC2 H2
 simp only [C] at hC2
 obtain ⟨e',he',hu',_⟩:=hC2
 have:=hE2.le.bl 0 e rfl
 rw [this] at he';injection he' with he';subst he'
 exact hK u w2 (H.world H2.os H2.tape H2.output H2.size fun g hg=>(H2.fix g hg).2) (fun g hg=>(H2.fix g hg).2) hu'
theorem reads_lt {m:Mem} {so:SOp} {st:St} {ts:Array Value} (hload:so.op.isLoad=true) (hplain:so.op.loadsPlain=true) (hlook:∀ t∈so.looks,C m (lk st.env t) (ts.getD t undef)) {id:Nat} (hid:id∈so.op.reads (St.ev st)):id<m.bl.length:=by
 have hopd:∀ x:SX,x.plain=true→(∀ t∈x.tmps,t∈so.looks)→∀ id∈(St.ev st x).ids,id<m.bl.length:=by
  intro x hx ht id hid
  cases x with
  |val v=>
   simp only [SX.plain,List.isEmpty_iff] at hx
   simp only [St.ev] at hid
   rw [hx] at hid;cases hid
  |tmp t=>exact C_ids _ _ (hlook t (ht t (by simp [SX.tmps]))) id hid
 have hopdL:∀ xs:List SX,xs.all SX.plain=true→(∀ t∈xas xs,t∈so.looks)→∀ id∈idsL (xs.map (St.ev st)),id<m.bl.length:=by
  intro xs
  induction xs with
  |nil=>intro _ _ id h;simp [idsL] at h
  |cons x xs ih=>
   intro hx ht id h
   simp only [List.all_cons,Bool.and_eq_true] at hx
   simp only [List.map_cons,idsL,List.mem_append] at h
   rcases h with h | h
   ·exact hopd x hx.1 (fun t h=>ht t (by simp [xas,h])) id h
   ·exact ih hx.2 (fun t h=>ht t (by simp [xas,h])) id h
 cases hop:so.op with
 |load u q x=>rw [hop] at hid hplain;exact hopd x hplain (fun t h=>by simp [SOp.looks,hop,SO.tmps,h]) id hid
 |len q x=>rw [hop] at hid hplain;exact hopd x hplain (fun t h=>by simp [SOp.looks,hop,SO.tmps,h]) id hid
 |isnil q x=>rw [hop] at hid hplain;exact hopd x hplain (fun t h=>by simp [SOp.looks,hop,SO.tmps,h]) id hid
 |indexAddr q x y=>rw [hop] at hid hplain;exact hopd x hplain (fun t h=>by simp [SOp.looks,hop,SO.tmps,h]) id hid
 |slice q x y z u=>rw [hop] at hid hplain;exact hopd x hplain (fun t h=>by simp [SOp.looks,hop,SO.tmps,h]) id hid
 |look q kc z ok x y=>rw [hop] at hid hplain;exact hopd x hplain (fun t h=>by simp [SOp.looks,hop,SO.tmps,h]) id hid
 |call md q as=>rw [hop] at hid hplain;exact hopdL as hplain (fun t h=>by simp [SOp.looks,hop,SO.tmps,h]) id hid
 |callf md x as=>
  rw [hop] at hid hplain
  simp only [SO.loadsPlain,Bool.and_eq_true] at hplain
  simp only [SO.reads,List.mem_append] at hid
  rcases hid with hid | hid
  ·exact hopd x hplain.1 (fun t h=>by simp [SOp.looks,hop,SO.tmps,h]) id hid
  ·exact hopdL as hplain.2 (fun t h=>by simp [SOp.looks,hop,SO.tmps,h]) id hid
 |_=>rw [hop] at hload;simp [SO.isLoad] at hload
theorem draw_stepM {ops:Array Oper} {l:List SOp} (D:DrawnM ops l) (hlen:l.length=ops.size) (hcs:∀ (i:Nat) so,l[i]? = some so→∃ o,ops[i]? = some o∧csop P fid nt ops o=some so.base) {vals:Nat→AV} {hps:Nat→List Blk} {st:St} (h0:hps 0=st.hp)
  (hs:∀ (i:Nat) so,l[i]? = some so→Step P fid true so ⟨envT l vals st.env i,hps i,st.lo,st.mks⟩ (vals i) (hps (i+1))) {m0:Mem} {ds:List Deferred} {Lb:Array Bool} {a:Act} {w:World} (R:RM P fid fr w0 nt ops l vals hps st m0 ds Lb a w)
  {i:Nat} (hi:i∈Region.ready .any ops Lb) {Q:Exit→Act→World→Prop} {K:Act→World→Prop} (hK:∀ a' w',RM P fid fr w0 nt ops l vals hps st m0 ds (Lb.setIfInBounds i true) a' w'→K a' w'):wpOpIn (FF ro) n P ops Q i K a w:=by
 obtain ⟨hun,o,ho,hedge⟩:=mem_ready.1 hi
 obtain ⟨hib,hif⟩:=getD_true hun
 have hedge':∀ e∈ons o,Lb.getD e false=true:=by
  intro e he
  simp only [ons,List.mem_map,List.mem_filter] at he
  obtain ⟨ed,⟨h1,h2⟩,rfl⟩:=he
  exact hedge ed (by simpa using h1) h2
 have hil:i<l.length:=by rw [hlen,←R.size];exact hib
 obtain ⟨si,hsi⟩:∃ si,l[i]? = some si:=⟨l[i],List.getElem?_eq_getElem hil⟩
 obtain ⟨o',ho',hcsi⟩:=hcs i si hsi
 rw [ho] at ho';injection ho' with ho';subst ho'
 obtain ⟨_,hdst,hdlt,_⟩:=csop_ok hcsi
 have hanc:∀ j∈(ancs ops.toList []).getD i [],Lb.getD j false=true:=
  ancs_ok (L:=fun j=>Lb.getD j false=true) (fun j o h1 h2=>R.closed j o h1 h2) ops.toList [] (by simp) (by simp) i o ho (by simpa [←R.size] using hib) hedge'
 have hancL:∀ (j:Nat) oj,Lb.getD j false=true→ops[j]? = some oj→∀ j'∈(ancs ops.toList []).getD j [],Lb.getD j' false=true:=by
  intro j oj hj hoj
  refine ancs_ok (L:=fun j=>Lb.getD j false=true) (fun j o h1 h2=>R.closed j o h1 h2) ops.toList [] (by simp) (by simp) j oj hoj ?_ (R.closed j oj hj hoj)
  have:=(Array.getElem?_eq_some_iff.1 hoj).1
  simpa using this
 have hopsj:∀ (j:Nat) sj,l[j]? = some sj→∃ oj,ops[j]? = some oj:=fun j sj h=>by obtain ⟨oj,h1,_⟩:=hcs j sj h;exact ⟨oj,h1⟩
 obtain ⟨m,E,Fl,hmP,hmcd,hE,HH,hbk,htm,hot⟩:=R.mem
 have hstep:=hs i si hsi
 have hgetL:∀ j,(Lb.setIfInBounds i true).getD j false=if j=i then true else Lb.getD j false:=fun j=>getD_set hib
 have hdef:∀ t∈si.looks,(∃ (j:Nat) (sj:SOp),j<i∧l[j]? = some sj∧sj.dst=some t∧Lb.getD j false=true∧lk (envT l vals st.env i) t=vals j)∨(lk (envT l vals st.env i) t=lk st.env t∧∀ (j:Nat) sj,Lb.getD j false=true→l[j]? = some sj→sj.dst≠some t):=by
  intro t ht
  by_cases hex:∃ (j:Nat) (sj:SOp),j<i∧l[j]? = some sj∧sj.dst=some t
  ·obtain ⟨j,sj,hji,hsj,hdj⟩:=hex
   obtain ⟨p1,p2⟩:=pairM_lt (D.pair j i sj si hsj hsi) hji
   exact .inl ⟨j,sj,hji,hsj,hdj,hanc j (p2 ⟨t,hdj,ht⟩),envT_hit hsj hdj i hji (fun j' so h1 h2 h3=>(pairM_lt (D.pair j j' sj so hsj h3) h1).1 t hdj)⟩
  ·refine .inr ⟨envT_miss i (fun j so h1 h2 h3=>hex ⟨j,so,h1,h2,h3⟩),fun j sj hj hsj hd=>?_⟩
   rcases Nat.lt_trichotomy j i with h | h | h
   ·exact hex ⟨j,sj,h,hsj,hd⟩
   ·subst h;rw [hif] at hj;cases hj
   ·obtain ⟨oj,hoj⟩:=hopsj j sj hsj
    have:=hancL j oj hj hoj i (pairM_gt (D.pair j i sj si hsj hsi) h t hd ht)
    rw [hif] at this;cases this
 have hlook:(∀ t∈si.looks,t ∉ msetL l)→∀ t∈si.looks,C m (lk (envT l vals st.env i) t) (a.tmps.getD t undef):=by
  intro hno t ht
  rcases hdef t ht with ⟨j,sj,hji,hsj,hdj,hjL,hv⟩ | ⟨hv,hn⟩
  ·rw [hv]
   have:=htm j sj t hjL hsj hdj
   unfold VM at this
   rw [if_neg (fun hm=>hno t ht (mem_msetL hsj hm hdj))] at this
   exact this
  ·rw [hv];exact hot t hn
 have fin:∀ m' E' Fl' u w',Ext fr m m'→HInv fr w0 m' st.hp w' (fls (flO l (Lb.setIfInBounds i true) Fl') 0 l.length) →
   (∀ (j:Nat) sj,(Lb.setIfInBounds i true).getD j false=true→l[j]? = some sj→sj.isMk=true→∀ b,hps (j+1)=hps j++[b]→BlkOk m' w' b (E' j) (Fl' j)) →
   (∀ j,Lb.getD j false=true→E' j=E j)→VM m' E' (Lb.setIfInBounds i true) l vals hps i si u→K (a.put o.dst u) w':=by
  intro m' E' Fl' u w' hE' HH' hbk' hEq hV
  apply hK
  have hput:∀ t,(a.put o.dst u).tmps.getD t undef=if o.dst=some t then u else a.tmps.getD t undef:=by
   intro t
   cases hd:o.dst with
   |none=>simp [Act.put]
   |some d=>
    have hdn:d<a.tmps.size:=Nat.lt_of_lt_of_le (hdlt d hd) R.n
    simp only [Act.put]
    rw [Array.getD_eq_getD_getElem?,Array.getD_eq_getD_getElem?,Array.getElem?_setIfInBounds]
    by_cases hdt:d=t
    ·subst hdt;simp [hdn]
    ·rw [if_neg hdt,if_neg (by simpa using hdt)]
  refine ⟨by simp [R.size],?_,⟨m',E',Fl',hE'.le.P.trans hmP,hE'.le.cd.trans hmcd,hE.trans hE',HH',hbk',?_,?_⟩,?_,?_⟩
  ·intro j oj hj hoj e he
   rw [hgetL] at hj ⊢
   by_cases hei:e=i
   ·rw [if_pos hei]
   ·rw [if_neg hei]
    by_cases hji:j=i
    ·subst hji
     rw [ho] at hoj;injection hoj with hoj;subst hoj
     exact hedge' e he
    ·rw [if_neg hji] at hj
     exact R.closed j oj hj hoj e he
  ·intro j sj t hj hsj hd
   rw [hput]
   by_cases hji:j=i
   ·subst hji
    rw [hsi] at hsj;injection hsj with hsj;subst hsj
    rw [←hdst,if_pos hd]
    exact hV
   ·rw [hgetL,if_neg hji] at hj
    rw [if_neg]
    ·have:=htm j sj t hj hsj hd
     unfold VM at this ⊢
     split
     ·rename_i hm
      rw [if_pos hm] at this
      obtain ⟨jm,sm,q1,q2,q3,q4,q5⟩:=this
      refine ⟨jm,sm,q1,q2,?_,by rw [hEq jm q3];exact q4,by rw [hEq jm q3];exact q5⟩
      rw [hgetL];split
      ·rfl
      ·exact q3
     ·rename_i hm
      rw [if_neg hm] at this
      exact C_mono hE'.le _ _ this
    ·rw [←hdst]
     rcases Nat.lt_or_gt_of_ne hji with h | h
     ·exact (pairM_lt (D.pair j i sj si hsj hsi) h).1 t hd
     ·intro e;exact (pairM_lt (D.pair i j si sj hsi hsj) h).1 t e hd
  ·intro s hno
   rw [hput]
   have hne:o.dst≠some s:=by
    rw [←hdst]
    exact hno i si (by rw [hgetL,if_pos rfl]) hsi
   rw [if_neg hne]
   refine C_mono hE'.le _ _ (hot s (fun j sj hj hsj=>hno j sj ?_ hsj))
   rw [hgetL]
   split
   ·rfl
   ·exact hj
  ·have:=R.n
   cases o.dst<;>simpa [Act.put] using this
  ·have:=R.d
   cases o.dst<;>simpa [Act.put] using this
 have hflin:∀ (j:Nat) sj,Lb.getD j false=true→l[j]? = some sj→sj.isMk=true→∀ g∈Fl j,g∈fls (flO l Lb Fl) 0 l.length:=by
  intro j sj hj hsj hm g hg
  refine fls_in (j:=j) (Nat.zero_le _) (by have:=(List.getElem?_eq_some_iff.1 hsj).1;omega) ?_
  rw [flO,hj,mkAt,hsj];simp [hm,hg]
 have hflsame:si.isMk=false→fls (flO l (Lb.setIfInBounds i true) Fl) 0 l.length=fls (flO l Lb Fl) 0 l.length:=by
  intro hm
  refine fls_congr fun j _ _=>?_
  unfold flO
  rw [hgetL]
  by_cases hji:j=i
  ·subst hji;rw [mkAt,hsi];simp [hm]
  ·rw [if_neg hji]
 have hkind:=D.kind i si hsi
 unfold kindOk at hkind
 cases hmk:si.isMk with
 |true=>
  rw [hmk] at hkind
  simp only [Bool.true_or,if_true,Bool.and_eq_true,Bool.true_and,List.all_eq_true,Bool.not_eq_true'] at hkind
  obtain ⟨hz,hno⟩:=hkind
  obtain ⟨d,z,bytes,x,k,N,hso,hx,hN,hv,hhp⟩:=step_make hmk hstep
  have hz':idsL z=[]:=by rw [hso] at hz;simpa [SOp.zOk] using hz
  refine make_free (env:=envT l vals st.env i) (lo:=st.lo) (mks:=st.mks) hso hz' hmP hmcd hcsi ho HH hx (hlook fun t ht hm=>by have:=hno t ht;simp [hm] at this) hN ?_
  intro m' e F u w' hE' hbl hB H' hold hu hesz
  have hEq:∀ j,Lb.getD j false=true→j≠i:=fun j hj e=>by subst e;rw [hif] at hj;cases hj
  refine fin m' (fun j=>if j=i then e else E j) (fun j=>if j=i then F else Fl j) u w' hE' ?_ ?_ (fun j hj=>if_neg (hEq j hj)) ?_
  ·refine H'.perm (fls_perm (i:=i) (X:=F) ?_ ?_ ?_ (Nat.zero_le _) (by omega)).symm
   ·unfold flO;rw [hgetL,if_pos rfl,mkAt,hsi];simp [hmk]
   ·unfold flO;rw [hif];simp
   ·intro j hji;unfold flO;rw [hgetL,if_neg hji];simp only [if_neg hji]
  ·intro j sj hj hsj hm b hb
   by_cases hji:j=i
   ·subst hji
    rw [if_pos rfl,if_pos rfl]
    rw [hhp] at hb
    have:=List.append_cancel_left hb
    injection this with this _
    rw [←this];exact hB
   ·rw [if_neg hji,if_neg hji]
    rw [hgetL,if_neg hji] at hj
    exact (hbk j sj hj hsj hm b hb).mono hE'.le (fun g hg=>hold g (HH.fown g (hflin j sj hj hsj hm g hg)).2.1)
  ·unfold VM
   rw [hmk,Bool.true_or,if_pos rfl]
   refine ⟨i,si,hsi,hmk,by rw [hgetL,if_pos rfl],?_,?_⟩
   ·simp only [if_pos];rw [hesz];exact hv
   ·simp only [if_pos];exact hu
 |false=>
  cases hal:si.isAl (mks1 l) with
  |true=>
   obtain ⟨d,s,hso,hsM,hv,hhp⟩:=step_alias hal hstep
   obtain ⟨j,sj,hsj,hjm,hjd⟩:=mem_mks1 hsM
   have hls:s∈si.looks:=by rw [hso];simp [SOp.looks,SO.tmps,SX.tmps]
   have key:∃ jm sm,l[jm]? = some sm∧sm.isMk=true∧Lb.getD jm false=true∧vals i=.own (E jm).sz (hps jm).length∧a.tmps.getD s undef=.slice (E jm).a (E jm).n (E jm).cap:=by
    rcases hdef s hls with ⟨j',sj',hji,hsj',hdj,hjL,hv'⟩ | ⟨_,hn⟩
    ·have hje:j'=j:=by
      rcases Nat.lt_trichotomy j' j with h | h | h
      ·exact absurd hjd ((pairM_lt (D.pair j' j sj' sj hsj' hsj) h).1 s hdj)
      ·exact h
      ·exact absurd hdj ((pairM_lt (D.pair j j' sj sj' hsj hsj') h).1 s hjd)
     subst hje
     rw [hsj] at hsj';injection hsj' with hsj';subst hsj'
     have:=htm j' sj s hjL hsj hjd
     unfold VM at this
     rw [hjm,Bool.true_or,if_pos rfl] at this
     obtain ⟨jm,sm,q1,q2,q3,q4,q5⟩:=this
     exact ⟨jm,sm,q1,q2,q3,by rw [hv];exact hv'.trans q4,q5⟩
    ·exfalso
     have hjlt:j<i:=by
      rcases Nat.lt_trichotomy j i with h | h | h
      ·exact h
      ·subst h;rw [hsi] at hsj;injection hsj with hsj;subst hsj;rw [hmk] at hjm;cases hjm
      ·exact absurd hls (pairM_gt2 (D.pair j i sj si hsj hsi) h hjm s hjd)
     have:=hanc j ((pairM_lt (D.pair j i sj si hsj hsi) hjlt).2 ⟨s,hjd,hls⟩)
     exact hn j sj this hsj hjd
   obtain ⟨jm,sm,q1,q2,q3,q4,q5⟩:=key
   rw [hso] at hcsi
   refine alias_free (e:=E jm) hmP hmcd hcsi ho HH q5 ?_
   intro u w' H' hold hu
   refine fin m E Fl u w' (Ext.refl _ _) (by rw [hflsame hmk];exact H') ?_ (fun _ _=>rfl) ?_
   ·intro j sj hj hsj hm b hb
    by_cases hji:j=i
    ·subst hji;rw [hsi] at hsj;injection hsj with hsj;subst hsj;rw [hmk] at hm;cases hm
    ·rw [hgetL,if_neg hji] at hj
     exact (hbk j sj hj hsj hm b hb).mono (Mem.le.refl m) (fun g hg=>hold g (HH.fown g (hflin j sj hj hsj hm g hg)).2.1)
   ·unfold VM
    rw [hal,Bool.or_true,if_pos rfl]
    refine ⟨jm,sm,q1,q2,?_,q4,hu⟩
    rw [hgetL];split
    ·rfl
    ·exact q3
  |false=>
   rw [hmk,hal] at hkind
   simp only [Bool.not_false,Bool.or_true,if_true,Bool.false_or,Bool.and_eq_true,List.all_eq_true,Bool.not_eq_true'] at hkind
   obtain ⟨⟨hh,_⟩,hno⟩:=hkind
   have hlook':=hlook fun t ht hm=>by have:=hno t ht;simp [hm] at this
   let env':=si.looks.map fun t=>(t,lk (envT l vals st.env i) t)
   have henv':∀ t∈si.looks,lk env' t=lk (envT l vals st.env i) t:=by
    have key:∀ (q:List Nat) t,t∈q→lk (q.map fun t=>(t,lk (envT l vals st.env i) t)) t=lk (envT l vals st.env i) t:=by
     intro q
     induction q with
     |nil=>intro t h;simp at h
     |cons x q ih=>
      intro t h
      simp only [List.map_cons,lk]
      by_cases hx:x=t
      ·rw [if_pos hx,hx]
      ·rw [if_neg hx];exact ih t ((List.mem_cons.1 h).resolve_left (fun e=>hx e.symm))
    exact key si.looks
   have hEnv:EnvOk m env' a.tmps:=by
    intro t
    by_cases ht:t∈si.looks
    ·rw [henv' t ht];exact hlook' t ht
    ·have key:∀ (q:List Nat),t ∉ q→lk (q.map fun t=>(t,lk (envT l vals st.env i) t)) t=.unk:=by
      intro q
      induction q with
      |nil=>intro _;rfl
      |cons x q ih=>
       intro h
       simp only [List.map_cons,lk]
       rw [if_neg (fun e=>h (by simp [e]))]
       exact ih (fun e=>h (by simp [e]))
     show C m (lk env' t) _
     rw [key si.looks ht]
     simp [C]
   have hplain:=D.plain i si hsi
   have hread:si.op.isLoad=true→∀ id∈si.op.reads (St.ev ⟨envT l vals st.env i,hps i,st.lo,st.mks⟩),id<st.hp.length:=by
    intro hload id hid
    rw [←HH.len]
    exact reads_lt hload hplain hlook' hid
   have hhps:∃ q,hps i=hps 0++q:=hps_app hs (Nat.zero_le i) (by omega) (fun j sj _ _ hsj hhv=>by
    have hk:=D.kind j sj hsj
    unfold kindOk at hk
    cases hm2:sj.isMk with
    |true=>
     unfold SOp.isMk at hm2
     split at hm2
     ·rfl
     ·cases hm2
    |false=>
     cases ha2:sj.isAl (mks1 l) with
     |true=>
      unfold SOp.isAl at ha2
      split at ha2
      ·simp [SO.heavy] at hhv
      ·cases ha2
     |false=>rw [hm2,ha2,hhv] at hk;simp at hk)
   have hA:si.op.isLoad=true→∀ id∈si.op.reads (St.ev ⟨envT l vals st.env i,hps i,st.lo,st.mks⟩),∀ b,(hps i)[id]? = some b→st.hp[id]? = some b:=by
    intro hload id hid b hb
    obtain ⟨q,hq⟩:=hhps
    rw [hq,h0,List.getElem?_append_left (hread hload id hid)] at hb
    exact hb
   obtain ⟨e1,e2⟩:=step_light (hp2:=st.hp) (lo':=st.lo) (mk':=st.mks) hh hstep henv' hA
   refine step_ok (st:=⟨env',st.hp,st.lo,st.mks⟩) hmP hmcd hcsi ho HH.rebase.frames hEnv e2 ?_
   intro m' u w' hE' hC' HH'
   obtain ⟨U1,U2,U3⟩:=HH.unframes hE' HH'
   refine fin m' E Fl u w' U3 (by rw [hflsame hmk];exact U1) ?_ (fun _ _=>rfl) ?_
   ·intro j sj hj hsj hm b hb
    by_cases hji:j=i
    ·subst hji;rw [hsi] at hsj;injection hsj with hsj;subst hsj;rw [hmk] at hm;cases hm
    ·rw [hgetL,if_neg hji] at hj
     exact (hbk j sj hj hsj hm b hb).mono hE'.le (fun g hg=>U2 g (hflin j sj hj hsj hm g hg))
   ·unfold VM
    rw [hmk,hal]
    exact hC'
theorem adoptAll {l:List SOp} {vals:Nat→AV} {hps:Nat→List Blk} {st:St} (D:DrawnM ops l) (hlen:l.length=ops.size) (h0:hps 0=st.hp)
  (hs:∀ (i:Nat) so,l[i]? = some so→Step P fid true so ⟨envT l vals st.env i,hps i,st.lo,st.mks⟩ (vals i) (hps (i+1))) {m:Mem} {E:Nat→Ent} {Fl:Nat→List Nat}
  (HH:HInv fr w0 m st.hp w (fls (fun j=>if mkAt l j then Fl j else []) 0 l.length)) (hbk:∀ (j:Nat) sj,l[j]? = some sj→sj.isMk=true→∀ b,hps (j+1)=hps j++[b]→BlkOk m w b (E j) (Fl j)):
  ∀ k,k≤l.length→∃ mk,Ext fr m mk∧HInv fr w0 mk (hps k) w (fls (fun j=>if mkAt l j then Fl j else []) k (l.length - k))∧∀ (j:Nat) sj,j<k→l[j]? = some sj→sj.isMk=true→mk.bl[(hps j).length]? = some (E j)
 |0,_=>⟨m,Ext.refl _ _,by rw [h0];exact HH,fun j sj h=>by omega⟩
 |k+1,hk=>by
  obtain ⟨mk,hE,H,hb⟩:=adoptAll D hlen h0 hs HH hbk k (by omega)
  obtain ⟨sk,hsk⟩:∃ sk,l[k]? = some sk:=⟨l[k],List.getElem?_eq_getElem (by omega)⟩
  have hst:=hs k sk hsk
  have e1:l.length - k=(l.length - (k+1))+1:=by omega
  rw [e1,fls] at H
  cases hm:sk.isMk with
  |true=>
   obtain ⟨d,z,bytes,x,kk,N,hso,hx,hN,hv,hhp⟩:=step_make hm hst
   simp only at hhp
   have hbl:=(hbk k sk hsk hm _ hhp).mono hE.le (fun g _=>rfl)
   have e2:mkAt l k=true:=by rw [mkAt,hsk];exact hm
   rw [if_pos e2] at H
   have H2:=H.adopt hbl
   rw [←hhp] at H2
   have hE2:Ext fr mk { mk with bl:=mk.bl++[E k],fp:=fun i=>if i=(hps k).length then Fl k else mk.fp i }:=ext_app _ _
   refine ⟨_,hE.trans hE2,H2,fun j sj hj hsj hjm=>?_⟩
   by_cases e:j=k
   ·subst e
    rw [←H.len]
    exact get_new
   ·exact hE2.le.bl _ _ (hb j sj (by omega) hsj hjm)
  |false=>
   have e2:mkAt l k=false:=by rw [mkAt,hsk];exact hm
   rw [if_neg (by rw [e2];simp),List.nil_append] at H
   have hhp:hps (k+1)=hps k:=by
    cases ha:sk.isAl (mks1 l) with
    |true=>obtain ⟨_,_,_,_,_,hhp⟩:=step_alias ha hst;exact hhp
    |false=>
     have hkd:=D.kind k sk hsk
     unfold kindOk at hkd
     rw [hm,ha] at hkd
     simp only [Bool.not_false,Bool.or_true,if_true,Bool.false_or,Bool.and_eq_true,Bool.not_eq_true'] at hkd
     exact step_hp hkd.1.1 hst
   rw [hhp]
   refine ⟨mk,hE,H,fun j sj hj hsj hjm=>?_⟩
   by_cases e:j=k
   ·subst e;rw [hsk] at hsj;injection hsj with hsj;subst hsj;rw [hm] at hjm;cases hjm
   ·exact hb j sj (by omega) hsj hjm
theorem draw_okM {ops:Array Oper} {l:List SOp} (hD:drawM ops l=true) (hlen:l.length=ops.size) (hcs:∀ (i:Nat) so,l[i]? = some so→∃ o,ops[i]? = some o∧csop P fid nt ops o=some so.base)
  {st st':St} {m0:Mem} {a0:Act} {w00:World} (ht:Trace P fid true l st st') (S:SInv P fid fr0 fr w0 nt m0 st a0 w00) {Q:Exit→Act→World→Prop}
  (hQ:∀ m' a' w',Fwd fr st.lo m0 m'→st'.lo=st.lo→SInv P fid fr0 fr w0 nt m' st' a' w'→Q .normal a' w'):wpAnyIn (FF ro) n P .any ops Q ops.size (Array.replicate ops.size false) a0 w00.drew:=by
 obtain ⟨vals,hps,h0,hs,rfl⟩:=trace_fn ht
 have D:=drawnM_of hD hlen
 have hfalse:∀ j,(Array.replicate ops.size false).getD j false=false:=by
  intro j
  rw [Array.getD_eq_getD_getElem?,Array.getElem?_replicate]
  split<;>rfl
 have fin:∀ Lb a w,RM P fid fr w0 nt ops l vals hps st m0 a0.defers Lb a w→Region.ready .any ops Lb=[]→Q .normal a w:=by
  intro Lb a w R hr
  have hall:=ready_all D.edge R.size hr
  have hall':∀ (j:Nat) sj,l[j]? = some sj→Lb.getD j false=true:=fun j sj h=>hall j (by have:=(List.getElem?_eq_some_iff.1 h).1;omega)
  obtain ⟨m,E,Fl,hmP,hmcd,hE,HH,hbk,htm,hot⟩:=R.mem
  have hfl:fls (flO l Lb Fl) 0 l.length=fls (fun j=>if mkAt l j then Fl j else []) 0 l.length:=fls_congr fun j _ hj=>by
   unfold flO
   rw [hall j (by omega),Bool.true_and]
  rw [hfl] at HH
  obtain ⟨mk,hE2,H2,hb2⟩:=adoptAll D hlen h0 hs HH (fun j sj hsj hm b hb=>hbk j sj (hall' j sj hsj) hsj hm b hb) l.length (Nat.le_refl _)
  rw [Nat.sub_self,fls] at H2
  have hE3:=hE.trans hE2
  have hl1:st.lo≤(hps l.length).length:=by
   rw [←H2.len]
   have h1:=ext_len hE3
   have:=S.l
   have:=S.h.len
   omega
  refine hQ mk a w (hE3.fwd (by rw [S.h.len];exact S.l)) rfl ⟨hE2.le.P.trans hmP,hE2.le.cd.trans hmcd,H2,?_,R.n,by rw [R.d];exact S.d,hl1⟩
  intro s
  show C mk (lk (envT l vals st.env l.length) s) _
  by_cases hex:∃ (j:Nat) (sj:SOp),l[j]? = some sj∧sj.dst=some s
  ·obtain ⟨j,sj,hsj,hd⟩:=hex
   rw [envT_hit hsj hd l.length (List.getElem?_eq_some_iff.1 hsj).1 (fun j' so h1 h2 h3=>(pairM_lt (D.pair j j' sj so hsj h3) h1).1 s hd)]
   have:=htm j sj s (hall' j sj hsj) hsj hd
   unfold VM at this
   split at this
   ·obtain ⟨jm,sm,q1,q2,q3,q4,q5⟩:=this
    rw [q4]
    simp only [C]
    exact ⟨E jm,hb2 jm sm (List.getElem?_eq_some_iff.1 q1).1 q1 q2,q5,rfl⟩
   ·exact C_mono hE2.le _ _ this
  ·rw [envT_miss l.length (fun j so h1 h2 h3=>hex ⟨j,so,h2,h3⟩)]
   exact C_mono hE2.le _ _ (hot s (fun j sj _ hsj hd=>hex ⟨j,sj,hsj,hd⟩))
 have main:∀ fuel Lb a w,RM P fid fr w0 nt ops l vals hps st m0 a0.defers Lb a w→ops.size≤fuel+Lb.toList.count true→wpAnyIn (FF ro) n P .any ops Q fuel Lb a w:=by
  intro fuel
  induction fuel with
  |zero=>
   intro Lb a w R hc
   have hr:Region.ready .any ops Lb=[]:=by
    cases hq:Region.ready .any ops Lb with
    |nil=>rfl
    |cons i q=>
     exfalso
     obtain ⟨hun,_⟩:=mem_ready.1 (show i∈Region.ready .any ops Lb by rw [hq];simp)
     obtain ⟨hib,hif⟩:=getD_true hun
     have h1:=count_set hib hif
     have h2:(Lb.setIfInBounds i true).toList.count true≤(Lb.setIfInBounds i true).toList.length:=List.count_le_length
     have h3:(Lb.setIfInBounds i true).toList.length=Lb.size:=by simp
     rw [h1,h3] at h2
     have:=R.size
     omega
   exact ⟨hr,fin Lb a w R hr⟩
  |succ fuel ih=>
   intro Lb a w R hc
   refine ⟨fun hr=>fin Lb a w R hr,fun i hi=>?_⟩
   obtain ⟨hun,_⟩:=mem_ready.1 hi
   obtain ⟨hib,hif⟩:=getD_true hun
   refine draw_stepM D hlen hcs h0 hs R hi ?_
   intro a' w' R'
   refine ih _ a' w' R' ?_
   rw [count_set hib hif]
   omega
 refine main ops.size _ a0 w00.drew ?_ (by omega)
 have hfl0:fls (flO l (Array.replicate ops.size false) (fun _=>[])) 0 l.length=[]:=by
  have:∀ n k,fls (flO l (Array.replicate ops.size false) (fun _=>[])) k n=[]:=fun n=>by
   induction n with
   |zero=>intro k;rfl
   |succ n ih=>intro k;rw [fls,ih,flO];simp
  exact this _ _
 refine ⟨by simp,?_,⟨m0,fun _=>⟨none,none,0,0,0⟩,fun _=>[],S.P,S.cd,Ext.refl _ _,by rw [hfl0];exact S.h.drew,?_,?_,?_⟩,S.n,rfl⟩
 ·intro j o h;rw [hfalse] at h;cases h
 ·intro j sj h;rw [hfalse] at h;cases h
 ·intro j sj t h;rw [hfalse] at h;cases h
 ·intro s _;exact S.e s
end
end Go.Proofs.Ytfbfbennheeglaa
