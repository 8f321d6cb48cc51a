import Derived.Test.YtgdfncnpcdafmaaPn
import Derived.Test.YtgdfncnpcdafmaaKz
namespace Go.Proofs.Ytgdfncnpcdafmaa
set_option linter.unusedSimpArgs false
set_option linter.unusedVariables false
set_option maxRecDepth 10000
open Go.RowKit
def lastPan:Code→Bool
 | .seq _ (.cond _ (.region _ ops _) _)=>match ops[2]? with
  | some o=>match o.op,o.guard with
   | .panic (.tmp 5),none=>true
   | _,_=>false
  | none=>false
 | _=>false
def needD (ty:Nat):FnDef:=⟨1,6,[],(.seq (.ops false [⟨some 2,.move (.tmp 0),none⟩,⟨some 3,.un .not (.tmp 2),none⟩]) (.cond (.tmp 3) (.ops false [⟨some 4,.build [] [],none⟩,⟨some 5,.iface ty (.tmp 4),none⟩,⟨none,.stuck,none⟩]) .skip))⟩
section
variable {P:Program} {fid:FuncId→Option Nat} {T:Nat→Option Entry}
theorem pan_ok {o:Oper} {i n:Nat} {ops:Array Oper} {ro:Option Nat} {a:Act} {w:World} {K:Act→World→Prop} {Q:Exit→Act→World→Prop} {t:TypeId} {u:Value} (hi:ops[i]? = some o) (ho:o.op=.panic (.tmp 5)) (hg:o.guard=none) (hv:a.eval (.tmp 5)=.iface t u) (h:Q (.panic (thrown t u)) a w):wpOpIn (FF ro) n P ops Q i K a w:=by
 unfold wpOpIn
 rw [hi]
 simp only
 have hab:∀ f,o.about P w a.eval=some f→(FF ro).fn f:=fun _ _=>trivial
 have hsem:o.semAt (FF ro).round a.eval=execOp a.eval o:=Oper.semAt_eq _ _ _ (fun c hc=>by rw [ho] at hc;cases hc)
 rw [if_pos (by simp [Region.wanted,hg])]
 refine ⟨hab,?_⟩
 rw [hsem]
 have hr:(execOp a.eval o).run P w=.halt (.panic (.iface t u)) w:=by
  simp only [execOp,ho,hv]
  rfl
 rw [hr]
 exact h
theorem need_dies (G:Good P fid T) {ty:Nat} (hT:T 1444=some (.fn (needD ty))) (hp:∀ f fn,fid f=some 1444→P.funcs[f]? = some fn→lastPan (fn.body.getD .skip)=true) (hps:List Blk):DiesC P fid 1444 [.bool false] hps:=by
 refine D_fnK G hT fun f fn c hf h1 h2 hc=>?_
 have hl:=hp f fn hf h1
 rw [h2] at hl
 obtain ⟨cx,cy,rfl,hx,hy⟩:=cc_seq hc
 obtain ⟨o,cy',cz,rfl,ho,hy',hz⟩:=cc_cond hy
 obtain ⟨id,ops,rfl,k1,k2,hd⟩:=cc_ops hy'
 intro fr0 fr w0 m a w ro hro S
 have hrx:ro=none∨rangeless cx=true:=hro.imp_right fun h=>by simp only [rangeless,Bool.and_eq_true] at h;exact h.1
 have e1:Ev T (.ops false [⟨some 2,.move (.tmp 0),none⟩,⟨some 3,.un .not (.tmp 2),none⟩]) ⟨bindParams 0 [.bool false],hps,hps.length,[]⟩ (fun x st=>x=.normal∧st=⟨[(3,.bool true),(2,.bool false),(0,.bool false)],hps,hps.length,[]⟩):=by
  simp (disch:=omega) only [go_sem,bindParams]
 refine wpIn_seq (wpIn_mono (S_det G e1 cx fr0 fr w0 _ m a w ro hx hrx S) ?_)
 rintro ex a1 w1 ⟨e,st',⟨rfl,rfl⟩,rfl,fr1,w1',m1,hW1,hF1,hlo1,S1⟩
 have hv:=opd_ok (st:=⟨[(3,.bool true),(2,.bool false),(0,.bool false)],hps,hps.length,[]⟩) S1.cd ho S1.e
 simp only [St.ev,lk,if_true,C] at hv
 refine wpIn_cond hv ?_
 simp only [if_true]
 refine wpIn_region ?_
 have e2:EvO T false [⟨some 4,.build [] [],none⟩,⟨some 5,.iface ty (.tmp 4),none⟩] ⟨[(3,.bool true),(2,.bool false),(0,.bool false)],hps,hps.length,[]⟩ (fun st=>lk st.env 5=.ifc ty (.agg [])):=by
  simp (disch:=omega) only [go_sem]
 obtain ⟨st2,ht,hst⟩:=EvO_trace G e2
 have hx2:∀ (k i:Nat) (so:SOp),(List.range ops.size)[k]? = some i→([(⟨some 4,.build [] [],none⟩:SOp),⟨some 5,.iface ty (.tmp 4),none⟩]++[⟨none,.stuck,none⟩])[k]? = some so→∃ o,ops[i]? = some o∧csop P fid 6 ops o=some so.base:=by
  intro k i so hi hso
  obtain ⟨o,ho,hcs⟩:=k2 k so hso
  have:i=k:=by
   have hk:=(List.getElem?_eq_some_iff.1 hi).1
   rw [List.getElem?_range (by simpa using hk)] at hi
   injection hi with hi;exact hi.symm
  subst this
  exact ⟨o,ho,hcs⟩
 refine pre_ok _ _ _ _ _ m1 a1 w1 ht (by simp [←k1]) hx2 S1.P S1.cd S1.h S1.e S1.n ?_
 intro m2 a2 w2 idx' x1 x2 x3 x4 x5 x6 x7 x8
 obtain ⟨i,rfl⟩:∃ i,idx'=[i]:=by
  match idx',x6 with
  | [i],_=>exact ⟨i,rfl⟩
 have hi2:i=2:=by
  have:=x8 0
  simp [←k1] at this
  exact this
 subst hi2
 simp only [lastPan,Option.getD_some] at hl
 split at hl
 ·rename_i o2 ho2
  split at hl
  ·rename_i hop hg
   rw [wpOpsIn_cons]
   have h5:=x3 5
   rw [hst] at h5
   simp only [C] at h5
   obtain ⟨u,hu,_⟩:=h5
   refine pan_ok ho2 hop hg (by simpa [Act.eval] using hu) ?_
   exact (Dead.of S1 x1 x2 x5 _ _).after hW1 hF1
  ·cases hl
 ·cases hl
theorem fin_okR {fr:Nat→Prop} {w0 w':World} {m m':Mem} {hps hp':List Blk} {v:AV} {u:Value} {r:AV × List Blk} (hlen:m.bl.length=hps.length) (F':Fwd fr hps.length m m') (H':HInv fr w0 m' hp' w' []) (hR:R m' w' v u []) (hf:fin hps.length hp' v=some r):
  ∃ m2 fl,Ext fr m m2∧m2.bl=m.bl∧HInv fr w0 m2 r.2 w' fl∧R m2 w' r.1 u fl:=by
 simp only [fin,Option.bind_eq_some_iff] at hf
 obtain ⟨hp1,ht,q,hpk,hf⟩:=hf
 split at hf
 ·rename_i hc
  obtain ⟨hn,hid,hh⟩:=hc
  injection hf with hf;subst hf
  obtain ⟨m1,E1,_,hbl1,H1,hl1⟩:=tidy_ok _ 0 ht H'
  obtain ⟨m2,f',E2,_,hbl2,H2,hR2,hl2⟩:=pk_ok (f0:=[]) (f:=[]) v hpk (by simpa using H1) (R_mono E1.le (fun _ _=>rfl) hR)
  have H3:=HInv.trim (by simpa using H2) hn hh
  have hblm:m2.bl.take hps.length=m.bl:=by
   rw [hbl2,hbl1]
   apply List.ext_getElem?
   intro k
   rw [List.getElem?_take]
   split
   ·rename_i hk;exact F'.bl k hk
   ·rename_i hk;rw [List.getElem?_eq_none (by omega)]
  have F2:=(F'.trans (E1.fwd (by rw [H'.len,←hl1,←hl2];exact hn))).trans (E2.fwd (by rw [H1.len,←hl2];exact hn))
  refine ⟨{ m2 with bl:=m2.bl.take hps.length,fp:=fun k=>if k<hps.length then m2.fp k else [] },f',⟨⟨F2.P,F2.cd,F2.im,fun id e he=>by rw [←hblm] at he;exact he⟩,F2.low⟩,hblm,H3,?_⟩
  have:=R_sim (r:=id) (m:=m2) (m':={ m2 with bl:=m2.bl.take hps.length,fp:=fun k=>if k<hps.length then m2.fp k else [] }) (w:=w') (w':=w') q.1 u f' ⟨rfl,rfl,fun _ _ _ h=>h,fun i hi e he=>by
   show (m2.bl.take hps.length)[i]? = some e
   rw [List.getElem?_take,if_pos (idlt_ids _ hid i hi)];exact he⟩ (fun _ _=>rfl) hR2
  rwa [ren_id] at this
 ·cases hf
theorem ops_ok {l:List SOp} {st st':St} {c:Code} {nt:Nat} {ro:Option Nat} {fr:Nat→Prop} {w0 w:World} {m:Mem} {a:Act} {Q:Exit→Act→World→Prop} (ht:Trace P fid false l st st') (hc:CodeS P fid nt c (.ops false l)) (hP:m.P=P) (hcd:m.cd=fid) (H:HInv fr w0 m st.hp w []) (E:EnvOk m st.env a.tmps) (hn:nt≤a.tmps.size)
  (hQ:∀ m' a' w',Ext fr m m'→HInv fr w0 m' st'.hp w' []→EnvOk m' st'.env a'.tmps→a'.tmps.size=a.tmps.size→a'.defers=a.defers→Q .normal a' w'):c.wpIn (FF ro) 0 P Q a w:=by
 obtain ⟨id,ops,rfl,k1,k2,hd⟩:=cc_ops hc
 have hx:∀ (k i:Nat) (so:SOp),(List.range ops.size)[k]? = some i→(l++[])[k]? = some so→∃ o,ops[i]? = some o∧csop P fid nt ops o=some so.base:=by
  intro k i so hi hso
  rw [List.append_nil] at hso
  obtain ⟨o,ho,hcs⟩:=k2 k so hso
  have:i=k:=by
   have hk:=(List.getElem?_eq_some_iff.1 hi).1
   rw [List.getElem?_range (by simpa using hk)] at hi
   injection hi with hi;exact hi.symm
  subst this
  exact ⟨o,ho,hcs⟩
 refine wpIn_region (pre_ok l [] _ st st' m a w ht (by simp [k1]) hx hP hcd H E hn ?_)
 intro m' a' w' idx' x1 x2 x3 x4 x5 x6 _ _
 have:idx'=[]:=List.eq_nil_of_length_eq_zero (by simpa using x6)
 subst this
 exact hQ m' a' w' x1 x2 x3 x4 x5
theorem opsD_ok {l:List SOp} {st:St} {Z:St→Prop} {c:Code} {nt:Nat} {ro:Option Nat} {fr:Nat→Prop} {w0 w:World} {m:Mem} {a:Act} {Q:Exit→Act→World→Prop} (h:DiesO P fid l st Z) (hc:CodeS P fid nt c (.ops false l)) (hP:m.P=P) (hcd:m.cd=fid) (H:HInv fr w0 m st.hp w []) (E:EnvOk m st.env a.tmps) (hn:nt≤a.tmps.size)
  (hQ:∀ t u m' a' w' st',Z st'→Ext fr m m'→HInv fr w0 m' st'.hp w' []→EnvOk m' st'.env a'.tmps→a'.tmps.size=a.tmps.size→a'.defers=a.defers→Q (.panic (thrown t u)) a' w'):c.wpIn (FF ro) 0 P Q a w:=by
 obtain ⟨id,ops,rfl,k1,k2,hd⟩:=cc_ops hc
 have hx:∀ (k i:Nat) (so:SOp),(List.range ops.size)[k]? = some i→l[k]? = some so→∃ o,ops[i]? = some o∧csop P fid nt ops o=some so.base:=by
  intro k i so hi hso
  obtain ⟨o,ho,hcs⟩:=k2 k so hso
  have:i=k:=by
   have hk:=(List.getElem?_eq_some_iff.1 hi).1
   rw [List.getElem?_range (by simpa using hk)] at hi
   injection hi with hi;exact hi.symm
  subst this
  exact ⟨o,ho,hcs⟩
 exact wpIn_region (h ops _ fr w0 nt m a w ro Q hP hcd H E hn (by simp [k1]) hx hQ)
def Catch (P:Program) (fid:FuncId→Option Nat) (f:FuncId) (nt ntB:Nat) (a0 r2 r3 r4 r5 b1 b2:List SOp) (rs:List RS):Prop:=
 ∃ fn c0 id1 o1 o2 c2 g gn idb oa ob cB,P.funcs[f]? = some fn∧fn.body=some (.seq c0 (.seq (.region id1 #[o1,o2] false) c2))∧(fn.name == "runtime.NumGoroutine")=false∧fn.ntmps=nt∧CodeS P fid nt c0 (.ops false a0)∧CodeS P fid nt c2 (.seq (.ops false r2) (.seq (.ops false r3) (.seq (.ops false r4) (.seq (.ops false r5) .ret))))∧cres P fn.results.toList=some (rs.map RS.rv) ∧
  (o1.op=.makeFunc (.func g) #[] #[.tmp 4,.tmp 5]∧o1.dst=some 7∧o1.guard=none)∧(o2.op=.defer { callee:=.value (.tmp 7),args:=#[],argTypes:=#[] }∧o2.dst=none∧o2.guard=none) ∧
  P.funcs[g]? = some gn∧gn.body=some (.seq (.region idb #[oa,ob] false) (.cond (.tmp 4) cB .skip))∧(gn.name == "runtime.NumGoroutine")=false∧gn.ntmps=ntB∧gn.results=#[] ∧
  (oa.op=.call { callee:=.builtin .recover,args:=#[],argTypes:=#[] }∧oa.dst=some 3∧oa.guard=none)∧(∃ tI tJ ms,P.underlying tI=some (.interface ms)∧ob.op=.binOp .neq tI (.tmp 3) (.const .nilIface) tJ∧ob.dst=some 4∧ob.guard=none)∧CodeS P fid ntB cB (.seq (.ops false b1) (.ops false b2))
theorem neq_nil {ob:Oper} {tI tJ:TypeId} {ρ:Operand→Value} {w:World} {ms:Array (String × TypeId)} (h:ob.op=.binOp .neq tI (.tmp 3) (.const .nilIface) tJ) (hu:P.underlying tI=some (.interface ms)) (hc:ρ (.const .nilIface)=.nilIface):
  (∀ t u,ρ (.tmp 3)=.iface t u→(execOp ρ ob).run P w=.ok (.value (.bool true)) w)∧(ρ (.tmp 3)=.nilIface→(execOp ρ ob).run P w=.ok (.value (.bool false)) w):=by
 have hd:Op.maxDepth=Op.maxDepth - 1+1:=by decide
 constructor
 ·intro t u hv
  simp [execOp,h,hv,hc,eqGuard,binOp,Op.equal]
  rw [hd]
  simp [Op.equalIn,run_underlying hu]
 ·intro hv
  simp [execOp,h,hv,hc,eqGuard,binOp,Op.equal]
  rw [hd]
  simp [Op.equalIn,run_underlying hu]
theorem rec_ok {w:World} {m:Mem} {oa ob:Oper} {idb ntB:Nat} {a:Act} {cs cs':List Frame} {v:Value} {b:Bool} {Q:Exit→Act→List Frame→World→Prop} {p q:AV} (E:EnvOk m [(0,p),(1,q)] a.tmps) (hn:ntB≤a.tmps.size) (h5:4<ntB)
  (hoa:oa.op=.call { callee:=.builtin .recover,args:=#[],argTypes:=#[] }∧oa.dst=some 3∧oa.guard=none) (hob:(∃ tI tJ ms,P.underlying tI=some (.interface ms)∧ob.op=.binOp .neq tI (.tmp 3) (.const .nilIface) tJ∧ob.dst=some 4∧ob.guard=none))
  (hrec:(match recoverD cs with | some (v,cs')=>(v,cs') | none=>(.nilIface,cs))=(v,cs')) (hb:(b=true∧∃ t u,v=.iface t u)∨(b=false∧v=.nilIface))
  (hQ:∀ a',EnvOk m [(0,p),(1,q)] a'.tmps→a'.tmps.size=a.tmps.size→a'.defers=a.defers→a'.eval (.tmp 4)=.bool b→Q .normal a' cs' w):(Code.region idb #[oa,ob] false).wpSIn Fence.wide 0 P Q a cs w:=by
 refine wpSIn_region ?_
 have hr2:List.range (#[oa,ob]:Array Oper).size=[0,1]:=rfl
 rw [hr2]
 have hwA:∀ z,Region.wanted oa z=true:=fun z=>by simp [Region.wanted,hoa.2.2]
 have hrunA:(execOp a.eval oa).run P w=.ok .recover w:=by
  simp only [execOp,hoa.1]
  rfl
 obtain ⟨tI,tJ,ms,hu,hop,hod,hgB⟩:=hob
 have hwB:∀ z,Region.wanted ob z=true:=fun z=>by simp [Region.wanted,hgB]
 have key:wpOpsSIn Fence.wide 0 P #[oa,ob] Q [1] (a.put (some 3) v) cs' w:=by
  have h3:(a.put (some 3) v).eval (.tmp 3)=v:=by
   simp [Act.eval,Act.put]
   intro h;omega
  obtain ⟨n1,n2⟩:=neq_nil (P:=P) (ρ:=(a.put (some 3) v).eval) (w:=w) hop hu rfl
  have hr:(execOp (a.put (some 3) v).eval ob).run P w=.ok (.value (.bool b)) w:=by
   rcases hb with ⟨rfl,t,u,hv⟩ | ⟨rfl,hv⟩
   ·exact n1 t u (h3.trans hv)
   ·exact n2 (h3.trans hv)
  rw [wpOpsSIn]
  simp only [show (#[oa,ob]:Array Oper)[1]? = some ob from rfl]
  refine ⟨fun _ _=>trivial,?_⟩
  rw [if_pos (hwB _),hr]
  simp only [wpOpsSIn]
  rw [hod]
  refine hQ _ ?_ (by simp [Act.put]) (by simp [Act.put]) ?_
  ·intro s
   have h:=E s
   show C m (lk [(0,p),(1,q)] s) (((a.tmps.setIfInBounds 3 v).setIfInBounds 4 (.bool b)).getD s undef)
   by_cases h3:s=3
   ·subst h3;simp [lk,C]
   ·by_cases h4:s=4
    ·subst h4;simp [lk,C]
    ·have e:(((a.tmps.setIfInBounds 3 v).setIfInBounds 4 (.bool b)).getD s undef)=a.tmps.getD s undef:=by
      rw [Array.getD_eq_getD_getElem?,Array.getElem?_setIfInBounds,if_neg (fun e=>h4 e.symm),Array.getElem?_setIfInBounds,if_neg (fun e=>h3 e.symm),←Array.getD_eq_getD_getElem?]
     rw [e];exact h
  ·simp [Act.eval,Act.put]
   intro h;omega
 rw [wpOpsSIn]
 simp only [show (#[oa,ob]:Array Oper)[0]? = some oa from rfl]
 refine ⟨fun _ _=>trivial,?_⟩
 rw [if_pos (hwA _),hrunA]
 simp only
 cases hrd:recoverD cs with
 | none=>
  rw [hrd] at hrec
  simp only [Prod.mk.injEq] at hrec
  obtain ⟨rfl,rfl⟩:=hrec
  simp only
  rw [hoa.2.1]
  exact key
 | some z=>
  obtain ⟨z1,z2⟩:=z
  rw [hrd] at hrec
  simp only [Prod.mk.injEq] at hrec
  obtain ⟨rfl,rfl⟩:=hrec
  simp only
  rw [hoa.2.1]
  exact key
theorem catch_ok {fr:Nat→Prop} {w0 w:World} {m:Mem} {hp:List Blk} {g:FuncId} {gn:Func} {oa ob:Oper} {idb ntB:Nat} {cB:Code} {b1 b2:List SOp} (hg:P.funcs[g]? = some gn) (hgb:gn.body=some (.seq (.region idb #[oa,ob] false) (.cond (.tmp 4) cB .skip))) (hnt:gn.ntmps=ntB) (hres:gn.results=#[])
  (hoa:oa.op=.call { callee:=.builtin .recover,args:=#[],argTypes:=#[] }∧oa.dst=some 3∧oa.guard=none) (hob:(∃ tI tJ ms,P.underlying tI=some (.interface ms)∧ob.op=.binOp .neq tI (.tmp 3) (.const .nilIface) tJ∧ob.dst=some 4∧ob.guard=none)) (hcB:CodeS P fid ntB cB (.seq (.ops false b1) (.ops false b2))) (h5:4<ntB)
  (hP:m.P=P) (hcd:m.cd=fid) (H:HInv fr w0 m hp w []) {cap:Array Value} (hcap:CL m [.ref 0 0,.ref 1 0] (fun i=>cap[i]?)) (hsz:cap.size=2) (t:TypeId) (u:Value) {t1 t2:St} (ht1:Trace P fid false b1 ⟨[(0,.ref 0 0),(1,.ref 1 0)],hp,0,[]⟩ t1) (ht2:Trace P fid false b2 t1 t2):
  CallsDIn Fence.wide 0 P g cap (.panicking (thrown t u)) w fun e u' w'=>e=.returned (.tuple #[])∧settle u'=.returning∧∃ m',Ext fr m m'∧HInv fr w0 m' t2.hp w' []:=by
 refine callsDIn_of_wpSIn hg hgb trivial fun c₀ cs hu=>?_
 have E0:EnvOk m [(0,.ref 0 0),(1,.ref 1 0)] (cap++Array.replicate (gn.ntmps - cap.size) undef):=env_params (as:=[.ref 0 0,.ref 1 0]) hcap (by simp [hsz]) _
 have hn:ntB≤(cap++Array.replicate (gn.ntmps - cap.size) undef).size:=by simp [hnt];omega
 refine wpSIn_seq (rec_ok (v:=.iface t u) (b:=true) (cs':={ c₀ with mode:=.panicking [{ v:=.iface t u,recovered:=true }] }::cs) E0 hn h5 hoa hob (by simp [recoverD,hu,thrown]) (.inl ⟨rfl,t,u,rfl⟩) ?_)
 intro a1 x3 x4 x5 x6
 simp only [Exit.thenS]
 refine wpSIn_cond x6 ?_
 simp only [if_true]
 refine wpSIn_of_wpIn rfl ?_
 obtain ⟨ca,cb,rfl,ha,hb⟩:=cc_seq hcB
 have hn1:ntB≤a1.tmps.size:=by rw [x4];exact hn
 refine wpIn_seq (ops_ok (ro:=none) ht1 ha hP hcd H x3 hn1 ?_)
 intro m2 a2 w2 y1 y2 y3 y4 y5
 refine ops_ok (ro:=none) ht2 hb (y1.le.P.trans hP) (y1.le.cd.trans hcd) y2 y3 (by rw [y4];exact hn1) ?_
 intro m3 a3 w3 z1 z2 z3 z4 z5
 refine ⟨by rw [z5,y5,x5],_,rfl,.tuple #[],results_none hres _ _ _,rfl,by simp [settle],m3,y1.trans z1,z2⟩
theorem idle_ok {fr:Nat→Prop} {w0 w:World} {m:Mem} {hp:List Blk} {g:FuncId} {gn:Func} {oa ob:Oper} {idb ntB:Nat} {cB:Code} (hg:P.funcs[g]? = some gn) (hgb:gn.body=some (.seq (.region idb #[oa,ob] false) (.cond (.tmp 4) cB .skip))) (hnt:gn.ntmps=ntB) (hres:gn.results=#[])
  (hoa:oa.op=.call { callee:=.builtin .recover,args:=#[],argTypes:=#[] }∧oa.dst=some 3∧oa.guard=none) (hob:(∃ tI tJ ms,P.underlying tI=some (.interface ms)∧ob.op=.binOp .neq tI (.tmp 3) (.const .nilIface) tJ∧ob.dst=some 4∧ob.guard=none)) (h5:4<ntB)
  (hP:m.P=P) (hcd:m.cd=fid) (H:HInv fr w0 m hp w []) {cap:Array Value} (hcap:CL m [.ref 0 0,.ref 1 0] (fun i=>cap[i]?)) (hsz:cap.size=2):
  CallsDIn Fence.wide 0 P g cap .returning w fun e u' w'=>e=.returned (.tuple #[])∧settle u'=.returning∧∃ m',Ext fr m m'∧HInv fr w0 m' hp w' []:=by
 refine callsDIn_of_wpSIn hg hgb trivial fun c₀ cs hu=>?_
 have E0:EnvOk m [(0,.ref 0 0),(1,.ref 1 0)] (cap++Array.replicate (gn.ntmps - cap.size) undef):=env_params (as:=[.ref 0 0,.ref 1 0]) hcap (by simp [hsz]) _
 have hn:ntB≤(cap++Array.replicate (gn.ntmps - cap.size) undef).size:=by simp [hnt];omega
 refine wpSIn_seq (rec_ok (v:=.nilIface) (b:=false) (cs':=c₀::cs) E0 hn h5 hoa hob (by simp [recoverD,hu]) (.inr ⟨rfl,rfl⟩) ?_)
 intro a1 x3 x4 x5 x6
 simp only [Exit.thenS]
 refine wpSIn_cond x6 ?_
 simp only [Bool.false_eq_true,if_false]
 refine wpSIn_of_wpIn rfl (wpIn_skip ?_)
 refine ⟨x5,.returning,?_,.tuple #[],results_none hres _ _ _,rfl,rfl,m,Ext.refl _ m,H⟩
 cases c₀
 simp only at hu
 subst hu
 rfl
def endQ (rs:List RS) (r:AV × List Blk) (s:St):Prop:=∃ s',ghost (.opn 4) ⟨s.env,s.hp,0,[]⟩=some s'∧∃ ru,results s'.env s'.hp rs=some ru∧fin 0 (still s'.hp (rsIds s'.env s'.hp rs)) ru=some r
def recQ (T:Nat→Option Entry) (b1 b2:List SOp) (rs:List RS) (r:AV × List Blk) (s:St):Prop:=EvO T false b1 ⟨[(0,.ref 0 0),(1,.ref 1 0)],s.hp,0,[]⟩ (fun t1=>EvO T false b2 t1 (fun t2=>∃ ru,results s.env t2.hp rs=some ru∧fin 0 (still t2.hp (rsIds s.env t2.hp rs)) ru=some r))
theorem whole_ok (G:Good P fid T) {f:FuncId} {nt ntB:Nat} {a0 r2 r3 r4 r5 b1 b2:List SOp} {rs:List RS} (hC:Catch P fid f nt ntB a0 r2 r3 r4 r5 b1 b2 rs) (h7:7<nt) (h4:4<ntB) {as:List AV} {r:AV × List Blk}
  (h:EvO T false a0 ⟨bindParams 0 as,[],0,[]⟩ (fun s1=>(lk s1.env 4=.ref 0 0∧lk s1.env 5=.ref 1 0)∧EvO T false r2 ⟨(7,.unk)::s1.env,s1.hp,s1.lo,s1.mks⟩ (fun s2=>
   DiesO P fid r3 s2 (recQ T b1 b2 rs r)∨EvO T false r3 s2 (fun s3=>DiesO P fid r4 s3 (recQ T b1 b2 rs r)∨EvO T false r4 s3 (fun s4=>EvO T false r5 s4 (endQ rs r)))))):
  FnThere P f∧CallOk P fid f as [] r:=by
 obtain ⟨fn,c0,id1,o1,o2,c2,g,gn,idb,oa,ob,cB,hf,hb,hnm,hnt,hc0,hc2,hrs,ho1,ho2,hg,hgb,hgn,hntB,hgr,hoa,hob,hcB⟩:=hC
 refine ⟨⟨fn,hf,by rw [hb];rfl,hnm⟩,?_⟩
 intro fr w0 m w args hP hcd H hCL hsz
 refine callsIn_of_wp_defers hf hb trivial ?_
 have hE0:EnvOk m (bindParams 0 as) (args++Array.replicate (fn.ntmps - args.size) undef):=env_params hCL hsz _
 have hn0:nt≤(args++Array.replicate (fn.ntmps - args.size) undef).size:=by simp [hnt];omega
 obtain ⟨s1,ht1,⟨he4,he5⟩,h⟩:=EvO_trace G h
 obtain ⟨s2,ht2,h⟩:=EvO_trace G h
 refine wpIn_seq (ops_ok (ro:=none) (st:=⟨bindParams 0 as,[],0,[]⟩) ht1 hc0 hP hcd H hE0 hn0 ?_)
 intro m1 a1 w1 x1 x2 x3 x4 x5
 simp only at x5
 have hcap:CL m1 [.ref 0 0,.ref 1 0] (fun i=>(#[a1.eval (.tmp 4),a1.eval (.tmp 5)]:Array Value)[i]?):=by
  have h4:=x3 4
  have h5:=x3 5
  rw [he4] at h4
  rw [he5] at h5
  simp only [CL,and_true]
  exact ⟨⟨_,rfl,h4⟩,⟨_,rfl,h5⟩⟩
 refine wpIn_seq (wpIn_region ?_)
 have hr2:List.range (#[o1,o2]:Array Oper).size=[0,1]:=rfl
 rw [hr2,wpOpsIn_cons]
 unfold wpOpIn
 simp only [show (#[o1,o2]:Array Oper)[0]? = some o1 from rfl]
 have hs1:o1.semAt Fence.wide.round a1.eval=execOp a1.eval o1:=Oper.semAt_eq _ _ _ (fun c hc=>by rw [ho1.1] at hc;cases hc)
 rw [if_pos (by simp [Region.wanted,ho1.2.2])]
 refine ⟨fun _ _=>trivial,?_⟩
 have hrun1:(execOp a1.eval o1).run P w1=.ok (.value (.func (.func g) #[] #[a1.eval (.tmp 4),a1.eval (.tmp 5)])) w1:=by
  have hm:(Instr.makeFunc (.func g) #[] #[a1.eval (.tmp 4),a1.eval (.tmp 5)]).run P w1=.ok (.func (.func g) #[] #[a1.eval (.tmp 4),a1.eval (.tmp 5)]) w1:=rfl
  simp [execOp,ho1.1,hm]
 rw [hs1,hrun1,Oper.uponIn_value,ho1.2.1,wpOpsIn_cons]
 unfold wpOpIn
 simp only [show (#[o1,o2]:Array Oper)[1]? = some o2 from rfl]
 have hn7:nt≤a1.tmps.size:=by rw [x4];exact hn0
 obtain ⟨aF,haF⟩:∃ aF:Act,aF=a1.put (some 7) (.func (.func g) #[] #[a1.eval (.tmp 4),a1.eval (.tmp 5)]):=⟨_,rfl⟩
 rw [←haF]
 have hs2:o2.semAt Fence.wide.round aF.eval=execOp aF.eval o2:=rfl
 rw [if_pos (by simp [Region.wanted,ho2.2.2])]
 refine ⟨fun _ _=>trivial,?_⟩
 have h7v:aF.eval (.tmp 7)=.func (.func g) #[] #[a1.eval (.tmp 4),a1.eval (.tmp 5)]:=by
  rw [haF]
  simp [Act.eval,Act.put]
  intro h;omega
 have hrun2:(execOp aF.eval o2).run P w1=.ok (.defer { target:=.fn (.func g) #[a1.eval (.tmp 4),a1.eval (.tmp 5)],args:=#[] }) w1:=by
  simp [execOp,ho2.1,resolve,h7v,Deferred.ofValue]
 rw [hs2,hrun2]
 obtain ⟨d,hd⟩:∃ d:Deferred,d={ target:=.fn (.func g) #[a1.eval (.tmp 4),a1.eval (.tmp 5)],args:=#[] }:=⟨_,rfl⟩
 rw [←hd]
 simp only [Oper.uponIn,wpOpsIn,ho2.2.1]
 simp only [Exit.then]
 have hleave:∀ (a':Act) (u:FrameMode),a'.defers=[d]→u≠.run→∀ w' (R':Ending→World→Prop),CallsDIn Fence.wide 0 P g #[a1.eval (.tmp 4),a1.eval (.tmp 5)] u w' (fun e u' w'=>e=.returned (.tuple #[])∧settle u'=.returning∧∃ v,(Go.results fn a'.tmps).run P w'=.ok v w'∧R' (.returned v) w')→LeavesIn Fence.wide 0 P fn a'.tmps R' a'.defers u w':=by
  intro a' u hda hu w' R' hc
  rw [hda,hd]
  refine leavesIn_cons hu (fun h=>by simp [Fence.wide] at h) (f:=g) (args:=#[a1.eval (.tmp 4),a1.eval (.tmp 5)]) ?_ (fun _ _=>trivial) ?_
  ·have hn:¬ gn.name= "runtime.NumGoroutine":=by simpa using hgn
   have hb:¬ gn.body=none:=by rw [hgb];simp
   simp [invoke,callFunc,hg,hn,hb]
  ·refine hc.mono ?_
   rintro e u' w' ⟨rfl,hs,v,hv,hR⟩
   simp only [hs]
   exact ⟨v,hv,hR⟩
 obtain ⟨aG,haG⟩:∃ aG:Act,aG=({ aF with defers:=d::aF.defers }.put none undef):=⟨_,rfl⟩
 rw [←haG]
 have hGs:aG.tmps.size=a1.tmps.size:=by rw [haG,haF];simp [Act.put]
 have hGd:aG.defers=[d]:=by rw [haG,haF];simp [Act.put,x5]
 have hGe:EnvOk m1 ((7,.unk)::s1.env) aG.tmps:=by
  have:aG.tmps=a1.tmps.setIfInBounds 7 (.func (.func g) #[] #[a1.eval (.tmp 4),a1.eval (.tmp 5)]):=by rw [haG,haF];simp [Act.put]
  rw [this]
  exact x3.put (by rw [x4];omega) (by simp [C])
 have hn1:nt≤aG.tmps.size:=by rw [hGs,x4];exact hn0
 obtain ⟨d2,dR,rfl,hc2a,hc2⟩:=cc_seq hc2
 obtain ⟨d3,dR,rfl,hc3a,hc2⟩:=cc_seq hc2
 obtain ⟨d4,dR,rfl,hc4a,hc2⟩:=cc_seq hc2
 obtain ⟨d5,dR,rfl,hc5a,hc2⟩:=cc_seq hc2
 refine wpIn_seq (ops_ok (ro:=none) ht2 hc2a (x1.le.P.trans hP) (x1.le.cd.trans hcd) x2 hGe hn1 ?_)
 intro m2 a2 w2 y1 y2 y3 y4 y5
 have e2:=x1.trans y1
 have hdie:∀ (t:TypeId) (u:Value) (mX:Mem) (aX:Act) (wX:World) (sX:St),EvO T false b1 ⟨[(0,.ref 0 0),(1,.ref 1 0)],sX.hp,0,[]⟩ (fun t1=>EvO T false b2 t1 (fun t2=>∃ ru,results sX.env t2.hp rs=some ru∧fin 0 (still t2.hp (rsIds sX.env t2.hp rs)) ru=some r)) →
   Ext fr m1 mX→HInv fr w0 mX sX.hp wX []→EnvOk mX sX.env aX.tmps→aX.defers=[d]→bodyPostDIn Fence.wide 0 P fn (fun e w'=>∃ u m' fl,e=.returned u∧Ext fr m m'∧m'.bl=m.bl∧HInv fr w0 m' r.2 w' fl∧R m' w' r.1 u fl) (.panic (thrown t u)) aX wX:=by
  intro t u mX aX wX sX hz q1 q2 q3 q4
  obtain ⟨t1,k1,hz⟩:=EvO_trace G hz
  obtain ⟨t2,k2,ru,hru,hfin⟩:=EvO_trace G hz
  refine hleave aX _ q4 (by simp) wX _ ?_
  refine (catch_ok hg hgb hntB hgr hoa hob hcB h4 ((x1.trans q1).le.P.trans hP) ((x1.trans q1).le.cd.trans hcd) q2 (CL_mono q1.le _ _ _ (fun _ _ h=>h) hcap) rfl t u k1 k2).mono ?_
  rintro e u' w' ⟨rfl,hs,m',E',H'⟩
  obtain ⟨v,hv1,hv2⟩:=results_ok (P:=P) H' (q3.mono E'.le) hrs hru
  obtain ⟨m3,E3,H3⟩:=H'.still (rsIds sX.env t2.hp rs)
  obtain ⟨m4,fl,g1,g2,g3,g4⟩:=fin_okR (hps:=[]) (m:=m) (by rw [H.len]) (((x1.trans q1).trans E').trans E3 |>.fwd (Nat.zero_le _)) H3 (R_mono E3.le (fun _ _=>rfl) hv2) hfin
  exact ⟨rfl,hs,v,hv1,v,m4,fl,rfl,g1,g2,g3,g4⟩
 rcases h with h | h
 ·refine wpIn_seq (opsD_ok (ro:=none) h hc3a (e2.le.P.trans hP) (e2.le.cd.trans hcd) y2 y3 (by rw [y4];exact hn1) ?_)
  intro t u mX aX wX sX hz q1 q2 q3 q4 q5
  exact hdie t u mX aX wX sX hz (y1.trans q1) q2 q3 (by rw [q5,y5,hGd])
 obtain ⟨s3,ht3,h⟩:=EvO_trace G h
 refine wpIn_seq (ops_ok (ro:=none) ht3 hc3a (e2.le.P.trans hP) (e2.le.cd.trans hcd) y2 y3 (by rw [y4];exact hn1) ?_)
 intro m3 a3 w3 z1 z2 z3 z4 z5
 have e3:=e2.trans z1
 rcases h with h | h
 ·refine wpIn_seq (opsD_ok (ro:=none) h hc4a (e3.le.P.trans hP) (e3.le.cd.trans hcd) z2 z3 (by rw [z4,y4];exact hn1) ?_)
  intro t u mX aX wX sX hz q1 q2 q3 q4 q5
  exact hdie t u mX aX wX sX hz ((y1.trans z1).trans q1) q2 q3 (by rw [q5,z5,y5,hGd])
 obtain ⟨s4,ht4,h⟩:=EvO_trace G h
 obtain ⟨s5,ht5,s6,hgh,ru,hru,hfin⟩:=EvO_trace G h
 refine wpIn_seq (ops_ok (ro:=none) ht4 hc4a (e3.le.P.trans hP) (e3.le.cd.trans hcd) z2 z3 (by rw [z4,y4];exact hn1) ?_)
 intro m4 a4 w4 u1 u2 u3 u4 u5
 have e4:=e3.trans u1
 refine wpIn_seq (ops_ok (ro:=none) ht5 hc5a (e4.le.P.trans hP) (e4.le.cd.trans hcd) u2 u3 (by rw [u4,z4,y4];exact hn1) ?_)
 intro m5 a5 w5 v1 v2 v3 v4 v5
 have hret:dR=.ret:=by
  obtain ⟨h1,_,_⟩:=hc2
  cases dR<;>simp [ccode,erase,Option.bind_eq_some_iff,Option.map_eq_some_iff] at h1
  rfl
 subst hret
 refine wpIn_ret ?_
 refine hleave a5 _ (by rw [v5,u5,z5,y5,hGd]) (by simp) w5 _ ?_
 have e15:=((y1.trans z1).trans u1).trans v1
 refine (idle_ok hg hgb hntB hgr hoa hob h4 ((x1.trans e15).le.P.trans hP) ((x1.trans e15).le.cd.trans hcd) v2 (CL_mono e15.le _ _ _ (fun _ _ h=>h) hcap) rfl).mono ?_
 rintro e u' w' ⟨rfl,hs,m',E',H'⟩
 have e16:=(x1.trans e15).trans E'
 have S6:SInv P fid fr fr w0 0 m' ⟨s5.env,s5.hp,0,[]⟩ { a5 with defers:=[] } w':=⟨e16.le.P.trans hP,e16.le.cd.trans hcd,H',v3.mono E'.le,Nat.zero_le _,⟨fun _ h=>h,[],rfl,by simp,by simp⟩,Nat.zero_le _⟩
 obtain ⟨mg,hFg,Sg,_⟩:=ghost_ok S6 hgh
 obtain ⟨v,hv1,hv2⟩:=results_ok (P:=P) Sg.h Sg.e hrs hru
 obtain ⟨m6,E6,H6⟩:=Sg.h.still (rsIds s6.env s6.hp rs)
 obtain ⟨m7,fl,g1,g2,g3,g4⟩:=fin_okR (hps:=[]) (m:=m) (by rw [H.len]) (((e16.fwd (Nat.zero_le _)).trans hFg).trans (E6.fwd (Nat.zero_le _))) H6 (R_mono E6.le (fun _ _=>rfl) hv2) hfin
 exact ⟨rfl,hs,v,hv1,v,m7,fl,rfl,g1,g2,g3,g4⟩
end
end Go.Proofs.Ytgdfncnpcdafmaa
