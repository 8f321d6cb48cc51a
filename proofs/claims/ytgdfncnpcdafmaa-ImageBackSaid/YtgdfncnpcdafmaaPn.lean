import Derived.Test.YtgdfncnpcdafmaaNe
import Derived.RecoverIn
namespace Go.Proofs.Ytgdfncnpcdafmaa
set_option linter.unusedSimpArgs false
set_option linter.unusedVariables false
open Go.RowKit
def thrown (t:TypeId) (u:Value):List PanicEntry:=[{ v:=.iface t u,recovered:=false }]
def PanE (e:Ending):Prop:=∃ t u,e=.panicked (thrown t u)
def DiesC (P:Program) (fid:FuncId→Option Nat) (k:Nat) (as:List AV) (hps:List Blk):Prop:=
 ∀ f,fid f=some k→FnThere P f∧CallOkE (fun e u=>PanE e∧u=.tuple #[]) P fid f as hps (.tup [],List.replicate hps.length .dead)
section
variable {fr fr0 fr1:Nat→Prop} {w0 w1 w:World} {m:Mem} {hp:List Blk} {fl:List Nat}
theorem HInv.forget (H:HInv fr w0 m hp w fl):HInv fr w0 { m with bl:=[],fp:=fun _=>[] } [] w []:=
 ⟨H.os,H.tape,H.output,H.size,H.fix,rfl,H.im,fun id b e h=>by simp at h,fun id g h=>by simp at h,fun _=>by simp,fun _ _ _ h=>by simp at h,fun _ _=>rfl,fun g h=>by simp at h,by simp,fun _ _ h=>by simp at h⟩
theorem HInv.revive (H:HInv fr w0 m [] w []) (bl:List Ent):HInv fr w0 { m with bl:=bl,fp:=fun _=>[] } (List.replicate bl.length .dead) w []:=
 ⟨H.os,H.tape,H.output,H.size,H.fix,by simp,H.im,fun id b e h _=>by
  have:=List.mem_of_getElem? h
  rw [List.mem_replicate] at this
  rw [this.2];rfl,fun id g h=>by simp at h,fun _=>by simp,fun _ _ _ h=>by simp at h,fun _ _=>rfl,fun g h=>by simp at h,by simp,fun _ _ h=>by simp at h⟩
end
section
variable {P:Program} {fid:FuncId→Option Nat} {T:Nat→Option Entry}
theorem die_ok {o:Oper} {so:SOp} {i nt n:Nat} {ops:Array Oper} {ro:Option Nat} {st:St} {a:Act} {w w0:World} {m:Mem} {fr:Nat→Prop} {K:Act→World→Prop} {Q:Exit→Act→World→Prop} {vs:List AV} {k:Nat} {hps:List Blk} (hP:m.P=P) (hcd:m.cd=fid) (hcs:csop P fid nt ops o=some so.base) (hi:ops[i]? = some o) (H:HInv fr w0 m st.hp w []) (E:EnvOk m st.env a.tmps)
  (hw:wanted st.env so.guard=some true) (ho:so.op.callee st.ev=some (.mem,k,vs)) (hs:subHp st.hp (dedup (idsL vs) [])=some hps) (hr:DiesC P fid k (renL (idxOf (dedup (idsL vs) [])) vs) hps)
  (hQ:∀ t u m' w',Ext fr m m'→HInv fr w0 m' (putHp st.hp (dedup (idsL vs) []) (List.replicate hps.length .dead)) w' []→Q (.panic (thrown t u)) a w'):wpOpIn (FF ro) n P ops Q i K a w:=by
 obtain ⟨h1,h2,h3,h4⟩:=csop_ok hcs
 unfold wpOpIn
 rw [hi]
 simp only
 have hab:∀ f,o.about P w a.eval=some f→(FF ro).fn f:=fun _ _=>trivial
 have hdep:(FF ro).depth.isSome=true→1≤n:=fun h=>by simp [FF,Fence.wide] at h
 have hsem:∀ so',cop P fid o.op=some so'→o.semAt (FF ro).round a.eval=execOp a.eval o:=fun so' hq=>Oper.semAt_eq _ _ _ (fun c hc=>by rw [hc] at hq;simp [cop] at hq)
 rw [wanted_ok h4 E hw,if_pos rfl]
 refine ⟨hab,?_⟩
 rw [hsem _ h1]
 have fin:∀ (f:FuncId) (us:Array Value),fid f=some k→CL m vs (fun i=>us[i]?)→us.size=vs.length→(FnThere P f→(execOp a.eval o).run P w=.ok (.enter f us) w)→o.uponIn (FF ro) n P a K Q ((execOp a.eval o).run P w):=by
  intro f us hf hC hsz hx
  obtain ⟨t1,t2⟩:=hr f hf
  rw [hx t1,Oper.uponIn_enter]
  obtain ⟨s1,_⟩:=subHp_get hs
  refine ⟨hdep,(callsFF (mem_okE (fun id hid=>(dedup_mem _ _ _).2 (.inl hid)) (dedup_nodup _ _ (by simp)) hP hcd H hC hsz hs t2 (by simp [s1]) (by simp [Blk.noidb]))).mono ?_⟩
  rintro e w' ⟨u,fl,m',⟨⟨t,p,rfl⟩,rfl⟩,hE,HH,hR⟩
  have hfl:fl=[]:=by
   simp [ren,AV.mapv,ren1,mapL,R,RL] at hR
   exact hR
  subst hfl
  exact hQ t p m' w' hE HH
 cases hop:so.op with
 | call md' k' as=>
  rw [hop] at ho h1
  simp only [SO.callee,Option.some.injEq,Prod.mk.injEq] at ho
  obtain ⟨rfl,rfl,rfl⟩:=ho
  obtain ⟨f,args,ats,hoo,hfk,has⟩:=cop_call h1
  obtain ⟨c1,c2⟩:=opds_ok (st:=st) hcd args.toList as has E
  exact fin f (args.map a.eval) hfk (by simpa using c1) (by simp [c2]) (fun ht=>exec_call w hoo ht)
 | callf md' x as=>
  rw [hop] at ho h1
  simp only [SO.callee] at ho
  split at ho
  ·rename_i k' fs cs hx
   simp only [Option.some.injEq,Prod.mk.injEq] at ho
   obtain ⟨rfl,rfl,rfl⟩:=ho
   obtain ⟨t,args,ats,hoo,rfl,has⟩:=cop_callf h1
   obtain ⟨c1,c2⟩:=opds_ok (st:=st) hcd args.toList as has E
   have hE:=E t
   change st.ev (.tmp t)=_ at hx
   rw [show lk st.env t=.clo k' fs cs from hx] at hE
   simp only [C] at hE
   obtain ⟨fn,fs',cs',q1,q2,q3,q4,q5,q6⟩:=hE
   refine fin fn (fs'++args.map a.eval++cs') (by rw [←hcd];exact q2) ?_ (by simp [q3,q4,c2]) (fun ht=>exec_clo w hoo q1 ht)
   refine CL_append (CL_append q5 q3 (by simpa using c1)) (by simp [q3,c2]) q6
  ·cases ho
 | _=>rw [hop] at ho;simp [SO.callee] at ho
theorem pre_ok {ops:Array Oper} {nt n:Nat} {ro:Option Nat} {fr:Nat→Prop} {w0:World} {QQ:Exit→Act→World→Prop}:∀ (p l:List SOp) (idx:List Nat) (st st':St) (m:Mem) (a:Act) (w:World),Trace P fid false p st st'→idx.length=(p++l).length →
  (∀ (k i:Nat) (so:SOp),idx[k]? = some i→(p++l)[k]? = some so→∃ o,ops[i]? = some o∧csop P fid nt ops o=some so.base)→m.P=P→m.cd=fid→HInv fr w0 m st.hp w []→EnvOk m st.env a.tmps→nt≤a.tmps.size →
  (∀ m' a' w' idx',Ext fr m m'→HInv fr w0 m' st'.hp w' []→EnvOk m' st'.env a'.tmps→a'.tmps.size=a.tmps.size→a'.defers=a.defers→idx'.length=l.length →
   (∀ (k i:Nat) (so:SOp),idx'[k]? = some i→l[k]? = some so→∃ o,ops[i]? = some o∧csop P fid nt ops o=some so.base)→(∀ k,idx'[k]? = idx[p.length+k]?)→wpOpsIn (FF ro) n P ops QQ idx' a' w')→wpOpsIn (FF ro) n P ops QQ idx a w
 | [],l,idx,st,st',m,a,w,ht,hl,hx,hP,hcd,H,E,hn,hQ=>by
  cases ht
  exact hQ m a w idx (Ext.refl _ m) H E rfl rfl (by simpa using hl) (by simpa using hx) (by simp)
 | so::p,l,idx,st,st',m,a,w,ht,hl,hx,hP,hcd,H,E,hn,hQ=>by
  cases idx with
  | nil=>simp at hl
  | cons i idx=>
   cases ht with
   | @cons _ _ _ v hp' _ h t=>
    obtain ⟨o,ho,hcs⟩:=hx 0 i so (by simp) (by simp)
    rw [wpOpsIn_cons]
    obtain ⟨_,e2,e3,_⟩:=csop_ok hcs
    refine step_ok hP hcd hcs ho H E h ?_
    intro m' u w' hE hC HH
    rw [←e2]
    have hhp:(st.put so.dst v hp').hp=hp':=by unfold St.put;split<;>rfl
    have hsz:(a.put so.dst u).tmps.size=a.tmps.size:=by cases so.dst<;>simp [Act.put]
    have hdf:(a.put so.dst u).defers=a.defers:=by cases so.dst<;>simp [Act.put]
    have hE2:EnvOk m' (st.put so.dst v hp').env (a.put so.dst u).tmps:=by
     rw [e2] at *
     cases hd:o.dst with
     | none=>exact E.mono hE.le
     | some d=>exact (E.mono hE.le).put (Nat.lt_of_lt_of_le (e3 d hd) hn) hC
    refine pre_ok p l idx (st.put so.dst v hp') st' m' _ w' t (by simpa using hl) (fun k j so' h1 h2=>hx (k+1) j so' (by simpa using h1) (by simpa using h2)) (hE.le.P.trans hP) (hE.le.cd.trans hcd) (by rw [hhp];exact HH) hE2 (by rw [hsz];exact hn) ?_
    intro m2 a2 w2 idx' x1 x2 x3 x4 x5 x6 x7 x8
    exact hQ m2 a2 w2 idx' (hE.trans x1) x2 x3 (x4.trans hsz) (x5.trans hdf) x6 x7 (fun k=>by rw [x8 k,show (so::p).length+k=(p.length+k)+1 by simp;omega];simp)
def DiesO (P:Program) (fid:FuncId→Option Nat) (l:List SOp) (st:St) (Z:St→Prop):Prop:=∀ (ops:Array Oper) (idx:List Nat) (fr:Nat→Prop) (w0:World) (nt:Nat) (m:Mem) (a:Act) (w:World) (ro:Option Nat) (QQ:Exit→Act→World→Prop),
 m.P=P→m.cd=fid→HInv fr w0 m st.hp w []→EnvOk m st.env a.tmps→nt≤a.tmps.size→idx.length=l.length →
 (∀ (k i:Nat) (so:SOp),idx[k]? = some i→l[k]? = some so→∃ o,ops[i]? = some o∧csop P fid nt ops o=some so.base) →
 (∀ t u m' a' w' st',Z st'→Ext fr m m'→HInv fr w0 m' st'.hp w' []→EnvOk m' st'.env a'.tmps→a'.tmps.size=a.tmps.size→a'.defers=a.defers→QQ (.panic (thrown t u)) a' w')→wpOpsIn (FF ro) 0 P ops QQ idx a w
theorem DO_trace {p l:List SOp} {st st':St} {Z:St→Prop} (ht:Trace P fid false p st st') (h:DiesO P fid l st' Z):DiesO P fid (p++l) st Z:=by
 intro ops idx fr w0 nt m a w ro QQ hP hcd H E hn hl hx hQ
 refine pre_ok p l idx st st' m a w ht hl hx hP hcd H E hn ?_
 intro m1 a1 w1 idx' x1 x2 x3 x4 x5 x6 x7 _
 refine h ops idx' fr w0 nt m1 a1 w1 ro QQ (x1.le.P.trans hP) (x1.le.cd.trans hcd) x2 x3 (by rw [x4];exact hn) x6 x7 ?_
 intro t u m2 a2 w2 st2 z y1 y2 y3 y4 y5
 exact hQ t u m2 a2 w2 st2 z (x1.trans y1) y2 y3 (y4.trans x4) (y5.trans x5)
theorem EvO_trace (G:Good P fid T) {l:List SOp} {st:St} {Q:St→Prop} (h:EvO T false l st Q):∃ st',Trace P fid false l st st'∧Q st':=by
 obtain ⟨r,hr,hq⟩:=h
 obtain ⟨n,hn⟩:=run_some.1 hr
 obtain ⟨_,h2⟩:=says G n _ _ hn
 exact ⟨r.2,h2,hq⟩
theorem DO_take (G:Good P fid T) (n:Nat) {l:List SOp} {st:St} {Z:St→Prop} (h:EvO T false (l.take n) st (fun st'=>DiesO P fid (l.drop n) st' Z)):DiesO P fid l st Z:=by
 obtain ⟨st',h1,h2⟩:=EvO_trace G h
 have:=DO_trace h1 h2
 rwa [List.take_append_drop] at this
theorem DO_call {so:SOp} {l:List SOp} {st:St} {Z:St→Prop} {vs:List AV} {k:Nat} {hps:List Blk} (hw:wanted st.env so.guard=some true) (ho:so.op.callee st.ev=some (.mem,k,vs)) (hs:subHp st.hp (dedup (idsL vs) [])=some hps) (hr:DiesC P fid k (renL (idxOf (dedup (idsL vs) [])) vs) hps)
  (hz:Z ⟨st.env,putHp st.hp (dedup (idsL vs) []) (List.replicate hps.length .dead),st.lo,st.mks⟩):DiesO P fid (so::l) st Z:=by
 intro ops idx fr w0 nt m a w ro QQ hP hcd H E hn hl hx hQ
 cases idx with
 | nil=>simp at hl
 | cons i idx=>
  obtain ⟨o,ho',hcs⟩:=hx 0 i so (by simp) (by simp)
  rw [wpOpsIn_cons]
  refine die_ok hP hcd hcs ho' H E hw ho hs hr ?_
  intro t u m' w' hE HH
  exact hQ t u m' a w' _ hz hE HH (E.mono hE.le) rfl rfl
def Dead (P:Program) (fid:FuncId→Option Nat) (fr0 fr:Nat→Prop) (w0:World) (m:Mem) (ex:Exit) (a':Act) (w':World):Prop:=
 (∃ t u,ex=.panic (thrown t u))∧∃ fr' w1 m',Wid fr w0 fr' w1∧Fwd fr 0 m m'∧HInv fr' w1 m' [] w' [] ∧
  (∀ g,fr0 g→fr' g)∧∃ M:List Nat,a'.defers.map (·.target)=M.map Target.collected∧M.Nodup∧∀ r∈M,fr' r∧¬ fr0 r∧w1.heap[r]? = some (.deferred (some []))
def DiesK (P:Program) (fid:FuncId→Option Nat) (nt:Nat) (c:Code) (st:St):Prop:=∀ fr0 fr w0 m a w ro,(ro=none∨rangeless c=true)→SInv P fid fr0 fr w0 nt m st a w→c.wpIn (FF ro) 0 P (Dead P fid fr0 fr w0 m) a w
def DiesS (P:Program) (fid:FuncId→Option Nat) (s:Stmt) (st:St):Prop:=∀ c nt,CodeS P fid nt c s→DiesK P fid nt c st
theorem Dead.after {fr0 fr fr1:Nat→Prop} {w0 w1 w':World} {m m1:Mem} {lo:Nat} {ex:Exit} {a':Act} (h:Dead P fid fr0 fr1 w1 m1 ex a' w') (hW:Wid fr w0 fr1 w1) (hF:Fwd fr lo m m1):Dead P fid fr0 fr w0 m ex a' w':=by
 obtain ⟨h1,fr',w2,m',k1,k2,k3,k4⟩:=h
 exact ⟨h1,fr',w2,m',hW.trans k1,(hF.sub (fun _ h=>h) (Nat.zero_le _)).trans (k2.sub hW.sub (Nat.le_refl _)),k3,k4⟩
theorem Dead.of {fr0 fr:Nat→Prop} {w0 w w':World} {m m':Mem} {hp:List Blk} {nt:Nat} {st:St} {a a':Act} (S:SInv P fid fr0 fr w0 nt m st a w) (hE:Ext fr m m') (H:HInv fr w0 m' hp w' []) (hd:a'.defers=a.defers) (t:TypeId) (u:Value):Dead P fid fr0 fr w0 m (.panic (thrown t u)) a' w':=by
 obtain ⟨hsub,M,hM,hMn,hMm⟩:=S.d
 exact ⟨⟨t,u,rfl⟩,fr,w0,{ m' with bl:=[],fp:=fun _=>[] },Wid.refl _ _,⟨hE.le.P,hE.le.cd,hE.le.im,hE.low,fun id h=>absurd h (Nat.not_lt_zero _)⟩,H.forget,hsub,M,by rw [hd];exact hM,hMn,hMm⟩
theorem D_ops {l:List SOp} {st:St} (h:DiesO P fid l st (fun _=>True)):DiesS P fid (.ops false l) st:=by
 intro c nt hc fr0 fr w0 m a w ro hro S
 obtain ⟨id,ops,rfl,k1,k2,hd⟩:=cc_ops hc
 have hx:∀ (k i:Nat) (so:SOp),(List.range ops.size)[k]? = some i→l[k]? = some so→∃ o,ops[i]? = some o∧csop P fid nt ops o=some so.base:=by
  intro k i so hi hso
  obtain ⟨o,ho,hcs⟩:=k2 k so hso
  have:i=k:=by
   have hk:=(List.getElem?_eq_some_iff.1 hi).1
   rw [List.getElem?_range (by simpa using hk)] at hi
   injection hi with hi;exact hi.symm
  subst this
  exact ⟨o,ho,hcs⟩
 refine wpIn_region ?_
 refine h ops (List.range ops.size) fr w0 nt m a w ro _ S.P S.cd S.h S.e S.n (by simp [k1]) hx ?_
 intro t u m' a' w' st' _ hE H hE2 hsz hdf
 exact Dead.of S hE H hdf t u
theorem D_seq1 {x y:Stmt} {st:St} (h:DiesS P fid x st):DiesS P fid (.seq x y) st:=by
 intro c nt hc fr0 fr w0 m a w ro hro S
 obtain ⟨cx,cy,rfl,hx,hy⟩:=cc_seq hc
 have hrx:ro=none∨rangeless cx=true:=hro.imp_right fun h=>by simp only [rangeless,Bool.and_eq_true] at h;exact h.1
 refine wpIn_seq (wpIn_mono (h _ nt hx fr0 fr w0 m a w ro hrx S) ?_)
 rintro ex a1 w1 hD
 obtain ⟨⟨t,u,rfl⟩,_⟩:=id hD
 exact hD
theorem D_seq2 (G:Good P fid T) {x y:Stmt} {st:St} (h:Ev T x st (fun e st'=>e=.normal∧DiesS P fid y st')):DiesS P fid (.seq x y) st:=by
 intro c nt hc fr0 fr w0 m a w ro hro S
 obtain ⟨cx,cy,rfl,hx,hy⟩:=cc_seq hc
 have hrx:ro=none∨rangeless cx=true:=hro.imp_right fun h=>by simp only [rangeless,Bool.and_eq_true] at h;exact h.1
 have hry:ro=none∨rangeless cy=true:=hro.imp_right fun h=>by simp only [rangeless,Bool.and_eq_true] at h;exact h.2
 refine wpIn_seq (wpIn_mono (S_det G h cx fr0 fr w0 nt m a w ro hx hrx S) ?_)
 rintro ex a1 w1 ⟨e,st',⟨rfl,hq⟩,rfl,fr1,w1',m1,hW1,hF1,hlo1,S1⟩
 refine wpIn_mono (hq _ nt hy fr0 fr1 w1' m1 a1 w1 ro hry S1) ?_
 rintro ex a2 w2 hD
 exact hD.after hW1 hF1
theorem D_block {id:Nat} {b:Stmt} {st:St} (h:DiesS P fid b st):DiesS P fid (.block id b) st:=by
 intro c nt hc fr0 fr w0 m a w ro hro S
 obtain ⟨cb,rfl,hx⟩:=cc_block hc
 refine wpIn_block (wpIn_mono (h _ nt hx fr0 fr w0 m a w ro hro S) ?_)
 rintro ex a1 w1 hD
 obtain ⟨⟨t,u,rfl⟩,_⟩:=_root_.id hD
 exact hD
theorem D_ghost {g:SG} {b:Stmt} {st st1:St} (hg:ghost g st=some st1) (h:DiesS P fid b st1):DiesS P fid (.ghost g b) st:=by
 intro c nt hc fr0 fr w0 m a w ro hro S
 obtain ⟨m1,hF1,S1,hlo1⟩:=ghost_ok S hg
 refine wpIn_mono (h c nt (cc_ghost hc) fr0 fr w0 m1 a w ro hro S1) ?_
 rintro ex a2 w2 hD
 exact hD.after (Wid.refl _ _) hF1
theorem D_after {g:SG} {b:Stmt} {st:St} (h:DiesS P fid b st):DiesS P fid (.after b g) st:=by
 intro c nt hc fr0 fr w0 m a w ro hro S
 exact h c nt (cc_after hc) fr0 fr w0 m a w ro hro S
theorem D_loop (G:Good P fid T) {b:Stmt} (I:Nat→St→Prop) (hI:∀ n st,I n st→DiesS P fid b st∨Ev T b st (fun x st'=>x=.normal∧∃ n',n'<n∧I n' st')) {n:Nat} {st:St} (h:I n st):DiesS P fid (.loop b) st:=by
 have key:∀ n st,I n st→∀ c nt,CodeS P fid nt c b→∀ fr0 fr w0 m a w ro,(ro=none∨rangeless c=true)→SInv P fid fr0 fr w0 nt m st a w→Code.roundsIn (FF ro) 0 P c (Dead P fid fr0 fr w0 m) (n+1) a w:=by
  intro n
  induction n using Nat.strongRecOn with
  | _ n ih=>
   intro st h c nt hc fr0 fr w0 m a w ro hro S
   rw [roundsIn_succ]
   rcases hI n st h with hd | hn
   ·refine wpIn_mono (hd c nt hc fr0 fr w0 m a w ro hro S) ?_
    rintro ex a1 w1 hD
    obtain ⟨⟨t,u,rfl⟩,_⟩:=id hD
    exact hD
   ·refine wpIn_mono (S_det G hn c fr0 fr w0 nt m a w ro hc hro S) ?_
    rintro ex a1 w1 ⟨e,st',⟨rfl,n',hlt,hi⟩,rfl,fr1,w1',m1,hW1,hF1,hlo1,S1⟩
    refine roundsIn_mono ?_ n a1 w1 (roundsIn_le (by omega) (ih n' hlt st' hi c nt hc fr0 fr1 w1' m1 a1 w1 ro hro S1))
    rintro ex a2 w2 hD
    exact hD.after hW1 hF1
 intro c nt hc fr0 fr w0 m a w ro hro S
 obtain ⟨cb,rfl,hx⟩:=cc_loop hc
 exact wpIn_loop_rounds (n+1) (key n st h cb nt hx fr0 fr w0 m a w ro hro S)
theorem leaves_dead {fn:Func} {tmps:Array Value} {R:Ending→World→Prop} {ch:List PanicEntry}:∀ (ds:List Deferred) (M:List Nat) (w:World),ds.map (·.target)=M.map Target.collected→M.Nodup→(∀ r∈M,w.heap[r]? = some (.deferred (some []))) →
  (∀ w',w'.os=w.os→w'.tape=w.tape→w'.output=w.output→w'.heap.size=w.heap.size→(∀ g,g ∉ M→w'.heap[g]? = w.heap[g]?)→R (.panicked ch) w') →
  LeavesInM Fence.wide 0 P fn tmps R ds (.panicking ch) w
 | [],M,w,hm,_,_,h=>by
  simp only [LeavesInM,LeavesIn]
  exact h w rfl rfl rfl rfl (fun _ _=>rfl)
 | d::ds,[],w,hm,_,_,h=>by simp at hm
 | d::ds,r::M,w,hm,hn,hh,h=>by
  simp only [List.map_cons,List.cons.injEq] at hm
  obtain ⟨h1,h2⟩:=List.nodup_cons.1 hn
  simp only [LeavesInM]
  refine ⟨by simp,.inl ⟨r,_,hm.1,run_takeDeferred (hh r (by simp)),?_⟩⟩
  refine leaves_dead ds M _ hm.2 h2 (fun q hq=>?_) (fun w' e1 e2 e3 e4 e5=>?_)
  ·rw [World.putObj_heap_other (fun e=>h1 (by rw [←e];exact hq))];exact hh q (by simp [hq])
  ·refine h w' e1 e2 e3 (by rw [e4];exact World.putObj_size) (fun g hg=>?_)
   simp only [List.mem_cons,not_or] at hg
   rw [e5 g hg.2,World.putObj_heap_other hg.1]
theorem D_fnK (G:Good P fid T) {k:Nat} {as:List AV} {hps:List Blk} {d:FnDef} (hT:T k=some (.fn d))
  (hs:∀ f fn c,fid f=some k→P.funcs[f]? = some fn→fn.body=some c→CodeS P fid d.nt c d.body→DiesK P fid d.nt c ⟨bindParams 0 as,hps,hps.length,[]⟩):DiesC P fid k as hps:=by
 intro f hf
 obtain ⟨fn,c,h1,h2,h3,h4,h5,h6⟩:=G f k _ hf hT
 refine ⟨⟨fn,h1,by rw [h2];rfl,h3⟩,?_⟩
 intro fr w0 m w args hP hcd H hC hsz
 refine callsIn_of_wp_marks h1 h2 trivial ?_
 have S:SInv P fid fr fr w0 d.nt m ⟨bindParams 0 as,hps,hps.length,[]⟩ { tmps:=args++Array.replicate (fn.ntmps - args.size) undef,defers:=[] } w:=
  ⟨hP,hcd,H,env_params hC hsz _,by simp;omega,⟨fun _ h=>h,[],rfl,by simp,by simp⟩,Nat.le_refl _⟩
 refine wpIn_mono (hs f fn c hf h1 h2 h4 fr fr w0 m _ w none (.inl rfl) S) ?_
 rintro ex a' w' ⟨⟨t,u,rfl⟩,fr',w1,m',hW,hF,H',hsub,M,hM,hMn,hMm⟩
 have hMw:∀ r∈M,w'.heap[r]? = some (.deferred (some [])):=fun q hq=>by rw [(H'.fix q (hMm q hq).1).2];exact (hMm q hq).2.2
 refine leaves_dead a'.defers M w' hM hMn hMw ?_
 intro w2 e1 e2 e3 e4 e5
 have H2:HInv fr w0 m' [] w2 []:=H'.narrow hW e1 e2 e3 e4 (fun g hne=>by
  have hgM:g∈M:=Classical.byContradiction fun h=>hne (e5 g h)
  exact ⟨(hMm g hgM).1,(hMm g hgM).2.1,fun o=>by simp [World.cell?,hMw g hgM]⟩)
 refine ⟨.tuple #[],{ m' with bl:=m.bl,fp:=fun _=>[] },[],⟨⟨t,u,rfl⟩,rfl⟩,⟨⟨hF.P,hF.cd,hF.im,fun id e he=>he⟩,hF.low⟩,rfl,?_,by simp [R,RL]⟩
 rw [←H.len];exact H2.revive m.bl
theorem D_fn (G:Good P fid T) {k:Nat} {as:List AV} {hps:List Blk} {d:FnDef} (hT:T k=some (.fn d)) (hs:DiesS P fid d.body ⟨bindParams 0 as,hps,hps.length,[]⟩):DiesC P fid k as hps:=
 D_fnK G hT fun _ _ c _ _ _ hc=>hs c d.nt hc
end
end Go.Proofs.Ytgdfncnpcdafmaa
