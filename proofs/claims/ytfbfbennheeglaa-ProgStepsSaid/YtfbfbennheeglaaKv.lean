import Derived.Test.YtfbfbennheeglaaKrb
namespace Go.Proofs.Ytfbfbennheeglaa
set_option linter.unusedSimpArgs false
set_option linter.unusedVariables false
open Go.RowKit
def cres (P:Program):List ResultVar→Option (List RV)
 | []=>some []
 | .tmp t::l=>(cres P l).map (.tmp t::·)
 | .cell t ty::l=>(ldk P ty).bind fun n=>(cres P l).map (.cell t n::·)
section
variable {P:Program} {fid:FuncId→Option Nat} {fr:Nat→Prop} {w0 w:World} {m:Mem} {hp:List Blk} {fl:List Nat}
theorem load_at (H:HInv fr w0 m hp w fl) {id off:Nat} {v:Value} (hC:C m (.ref id off) v) {cs:List AV} (hb:rowc hp id=some cs) {t:TypeId} {n:Option Nat} (hn:ldk P t=some n) {x:AV} (hv:rdc (cs.drop off) n=some x) (hni:noinl x=true):
  ∃ g u,v=.pointer (some ⟨g,off,none⟩)∧(Instr.loadAt t v).run P w=.ok u w∧C m x u:=by
 simp only [C] at hC
 obtain ⟨e,he,g,heg,hu⟩:=hC
 obtain ⟨e',q,hb',he',q1,q2,q3,q4,q5⟩:=row_at H hb
 rw [he] at he';injection he' with he';subst he'
 rcases q5 with ⟨r1,_⟩ | ⟨g',f,r1,r2,hR⟩
 ·rw [heg] at r1;cases r1
 ·rw [heg] at r1;injection r1 with r1;subst r1
  obtain ⟨fa,fb,rfl,_,hb2⟩:=CL_get hR off
  by_cases hoff:off≤cs.length
  ·have hto:(cs.take off).length=off:=by simp;omega
   rw [hto] at hb2
   have hk:∃ k,rdc ((cs.drop off).take k) n=some x∧allL pnoinl ((cs.drop off).take k)=true:=by
    cases n with
    |none=>
     refine ⟨1,?_,?_⟩
     ·simp only [rdc] at hv ⊢
      rw [List.head?_take,if_neg (by omega)];exact hv
     ·simp only [rdc] at hv
      cases hq:cs.drop off with
      |nil=>rfl
      |cons x xs=>
       rw [hq] at hv
       simp at hv;subst hv
       simp only [List.take_succ_cons,List.take_zero,allL,Bool.and_true]
       exact hni
    |some k=>
     refine ⟨k,?_,?_⟩
     ·simp only [rdc] at hv ⊢
      split at hv
      ·rename_i hk;rw [if_pos (by rw [List.length_take];omega),List.take_take,Nat.min_self];exact hv
      ·cases hv
     ·simp only [rdc] at hv
      split at hv
      ·injection hv with hv;subst hv
       simp only [noinl,AV.allv,Bool.and_eq_true] at hni
       exact hni.2
      ·cases hv
   obtain ⟨k,hv2,hni2⟩:=hk
   obtain ⟨fc,fd,rfl,hc2,_⟩:=CL_get hb2 k
   obtain ⟨hCL,_⟩:=CL_of_RL _ _ _ hni2 hc2
   obtain ⟨uu,hr,hC⟩:=run_loadAt_ok (P:=P) (w:=w) (b:=g) (o:=off) hn hv2 (all_take (all_drop q1 _) _) hCL (fun i v hv=>hv)
   exact ⟨g,uu,hu,by rw [hu];exact hr,hC⟩
  ·rw [List.drop_eq_nil_of_le (by omega)] at hv
   obtain ⟨uu,hr,hC⟩:=run_loadAt_ok (P:=P) (w:=w) (b:=g) (o:=off) (cs:=[]) (g:=fun _=>none) hn hv rfl (by simp [CL]) (fun i v hv=>by cases hv)
   exact ⟨g,uu,hu,by rw [hu];exact hr,hC⟩
theorem nz1_okc (sz:Nat) (imm:Bool) (x:AV):(nz1 sz imm x).okc=x.okc:=by
 cases x<;>simp only [nz1]
 split<;>rfl
theorem nz1_ok {sz:Nat} {imm:Bool} {x:AV} {u:Value} {f:List Nat} (h:R m w x u f):R m w (nz1 sz imm x) u f:=by
 cases x<;>simp only [nz1]<;>try exact h
 simp only [R,C] at h
 obtain ⟨rfl,rfl⟩:=h
 split
 ·simp only [R,C]
  exact ⟨trivial,rfl,none,0,0,rfl,by simp,fun _=>rfl,Nat.le_refl _,fun h=>absurd rfl h⟩
 ·simp only [R]
  exact ⟨rfl,none,0,0,rfl,by simp,fun _=>rfl,Nat.le_refl _,.inl (by simp)⟩
theorem RL_setv {y:AV}:∀ (cs:List AV) (i:Nat) (g:Nat→Option Value) (f:List Nat) (x:AV),cs[i]? = some x→(∀ u f,R m w x u f→R m w y u f)→RL m w cs g f→RL m w (cs.set i y) g f
 | [],i,g,f,x,h,_,_=>by simp at h
 |x::xs,0,g,f,z,h,hxy,k=>by
  simp only [List.getElem?_cons_zero,Option.some.injEq] at h
  subst h
  simp only [List.set_cons_zero,RL] at k ⊢
  obtain ⟨f1,f2,rfl,⟨u,h1,h2⟩,h3⟩:=k
  exact ⟨f1,f2,rfl,⟨u,h1,hxy u f1 h2⟩,h3⟩
 |x::xs,i+1,g,f,z,h,hxy,k=>by
  simp only [List.set_cons_succ,RL] at k ⊢
  obtain ⟨f1,f2,rfl,h1,h3⟩:=k
  exact ⟨f1,f2,rfl,h1,RL_setv xs i _ f2 z (by simpa using h) hxy h3⟩
theorem nzc_ok {g:Nat→Option Value} {f:List Nat}:∀ (sh:List (Nat × Nat × Bool)) (cs:List AV),RL m w cs g f→cs.all AV.okc=true→RL m w (nzc sh cs) g f∧(nzc sh cs).all AV.okc=true∧(nzc sh cs).length=cs.length
 | [],cs,h,hk=>⟨h,hk,rfl⟩
 | (i,sz,imm)::l,cs,h,hk=>by
  simp only [nzc]
  split
  ·rename_i x hx
   obtain ⟨k1,k2,k3⟩:=nzc_ok l (cs.set i (nz1 sz imm x)) (RL_setv cs i g f x hx (fun u f h=>nz1_ok h) h)
    (okc_set hk (by rw [nz1_okc];exact List.all_eq_true.1 hk x (List.mem_of_getElem? hx)))
   exact ⟨k1,k2,by rw [k3];simp⟩
  ·exact nzc_ok l cs h hk
theorem nz_ok {sh:List (Nat × Nat × Bool)} {x:AV} {u:Value} (h:R m w x u []):R m w (nz sh x) u []:=by
 unfold nz
 split
 ·simp only [R] at h ⊢
  obtain ⟨h1,vs,h2,h3,h4⟩:=h
  obtain ⟨k1,k2,k3⟩:=nzc_ok sh _ h4 h1
  exact ⟨k2,vs,h2,by rw [k3];exact h3,k1⟩
 ·split
  ·exact nz1_ok h
  ·exact h
theorem loadVar_run {t:TypeId} {a:Addr} {w:World}:(loadVar t a).run P w=(Instr.loadAt t (.pointer (some a))).run P w:=rfl
theorem rvs_ok {env:List (Nat × AV)} {ts:Array Value} (H:HInv fr w0 m hp w fl) (E:EnvOk m env ts):
  ∀ (l:List ResultVar) (r:List RS) (vs:List AV),cres P l=some (r.map RS.rv)→rvs env hp r=some vs→∃ us:List Value,(∀ (f:ResultVar→Sem Value),(∀ t,f (.tmp t)=pure (ts.getD t undef))→(∀ t ty,f (.cell t ty)=do loadVar ty (← asAddr (ts.getD t undef)))→(l.mapM f).run P w=.ok us w)∧us.length=vs.length∧RL m w vs (fun i=>us[i]?) []
 | [],r,vs,h1,h2=>by
  simp only [cres,Option.some.injEq] at h1
  have:r=[]:=by simpa using h1.symm
  subst this
  simp only [rvs,Option.some.injEq] at h2
  subst h2
  exact ⟨[],fun _ _ _=>rfl,rfl,by simp [RL]⟩
 | .tmp t::l,r,vs,h1,h2=>by
  simp only [cres,omI] at h1
  obtain ⟨r',h1,h3⟩:=h1
  cases r with
  |nil=>simp at h3
  |cons r0 r=>
   simp only [List.map_cons,List.cons.injEq] at h3
   obtain ⟨e1,rfl⟩:=h3
   simp only [rvs,←e1,rvv,Option.bind_some,omI] at h2
   obtain ⟨vs',h2,rfl⟩:=h2
   obtain ⟨us,h3,h4,h5⟩:=rvs_ok H E l r vs' h1 h2
   refine ⟨ts.getD t undef::us,fun f hf hg=>by simp only [List.mapM_cons,Sem.run_bind,hf,Sem.run_pure,Result.andThen_ok,h3 f hf hg],by simp [h4],?_⟩
   simp only [RL]
   exact ⟨[],[],rfl,⟨_,by simp,nz_ok (R_of_C _ _ (E t))⟩,by simpa using h5⟩
 | .cell t ty::l,r,vs,h1,h2=>by
  simp only [cres,obI,omI] at h1
  obtain ⟨n,hn,r',h1,h3⟩:=h1
  cases r with
  |nil=>simp at h3
  |cons r0 r=>
   simp only [List.map_cons,List.cons.injEq] at h3
   obtain ⟨e1,rfl⟩:=h3
   simp only [rvs,←e1,rvv,obI,omI] at h2
   obtain ⟨v,hv,vs',h2,rfl⟩:=h2
   obtain ⟨us,h3,h4,h5⟩:=rvs_ok H E l r vs' h1 h2
   split at hv
   ·rename_i id off hx
    simp only [obI] at hv
    obtain ⟨cs,hcs,v',hv',hv⟩:=hv
    split at hv
    ·rename_i hni
     injection hv with hv;subst hv
     have k1:=E t
     rw [hx] at k1
     obtain ⟨g,u,hu,hr,hC⟩:=load_at (P:=P) H k1 hcs hn hv' hni
     refine ⟨u::us,?_,by simp [h4],?_⟩
     ·intro f hf hg
      rw [hu] at hr
      simp only [List.mapM_cons,Sem.run_bind,hg,hu,asAddr,Sem.run_pure,Result.andThen_ok,loadVar_run,hr,h3 f hf hg]
     ·simp only [RL]
      exact ⟨[],[],rfl,⟨u,by simp,nz_ok (R_of_C _ _ hC)⟩,by simpa using h5⟩
    ·cases hv
   ·cases hv
theorem results_ok {env:List (Nat × AV)} {ts:Array Value} (H:HInv fr w0 m hp w fl) (E:EnvOk m env ts) {fn:Func} {l:List RS} (hr:cres P fn.results.toList=some (l.map RS.rv)) {u:AV} (hu:results env hp l=some u):
  ∃ v,(Go.results fn ts).run P w=.ok v w∧R m w u v []:=by
 simp only [Proofs.Ytfbfbennheeglaa.results,omI] at hu
 obtain ⟨vs,h1,rfl⟩:=hu
 have hrun:∃ us:List Value,(Go.results fn ts).run P w=.ok (if h:us.toArray.size=1 then us.toArray[0] else .tuple us.toArray) w∧us.length=vs.length∧RL m w vs (fun i=>us[i]?) []:=by
  unfold Go.results
  rw [Array.mapM_eq_mapM_toList,Sem.run_bind,map_eq_pure_bind,Sem.run_bind]
  obtain ⟨us,h2,h3,h4⟩:=rvs_ok (P:=P) H E _ _ _ hr h1
  refine ⟨us,?_,h3,h4⟩
  rw [h2 _ (fun _=>rfl) (fun _ _=>rfl)]
  simp only [Result.andThen_ok,Sem.run_pure]
 obtain ⟨us,h2,h3,h4⟩:=hrun
 refine ⟨_,h2,?_⟩
 match vs,us,h3,h4 with
 | [],[],_,_=>simp [tupv,R,RL]
 | [v],[u],_,h=>
  simp only [RL] at h
  obtain ⟨f1,f2,h0,⟨u',h5,h6⟩,_⟩:=h
  simp at h5 h0
  obtain ⟨rfl,rfl⟩:=h0
  subst h5
  simpa [tupv] using h6
 |v::v'::vs,u::u'::us,hl,h=>
  simp only [tupv,R]
  refine ⟨(u::u'::us).toArray,?_,by simpa using hl,by simpa using h⟩
  rw [dif_neg (by simp)]
theorem lk_params:∀ (as:List AV) (i s:Nat),lk (bindParams i as) s=if s<i then .unk else (as[s - i]?).getD .unk
 | [],i,s=>by simp [bindParams,lk]
 |v::vs,i,s=>by
  simp only [bindParams,lk]
  by_cases h:i=s
  ·subst h;simp
  ·rw [if_neg h,lk_params vs (i+1) s]
   by_cases h1:s<i
   ·rw [if_pos (by omega),if_pos h1]
   ·rw [if_neg (by omega),if_neg h1,show s - i=(s - (i+1))+1 by omega]
    simp
theorem env_params {as:List AV} {args:Array Value} (hC:CL m as (fun i=>args[i]?)) (hs:args.size=as.length) (N:Nat):EnvOk m (bindParams 0 as) (args++Array.replicate N undef):=by
 intro s
 rw [lk_params]
 simp only [Nat.not_lt_zero,if_false,Nat.sub_zero]
 cases hq:as[s]? with
 |none=>simp [C]
 |some x=>
  obtain ⟨u,hu,hCu⟩:=CL_iff.1 hC s x hq
  have hlt:s<args.size:=(Array.getElem?_eq_some_iff.1 hu).1
  rw [Array.getD_eq_getD_getElem?,Array.getElem?_append_left hlt,hu]
  exact hCu
theorem env_to:∀ (ps:List Nat) (vs:List AV) (us:List Value) (env:List (Nat × AV)) (ts:Array Value),EnvOk m env ts→(∀ p∈ps,p<ts.size)→vs.length=ps.length→us.length=ps.length→CL m vs (fun i=>us[i]?) →
  EnvOk m (bindTo ps vs env) ((ps.zip us).foldl (fun tmps (t,a)=>tmps.setIfInBounds t a) ts)∧((ps.zip us).foldl (fun tmps (t,a)=>tmps.setIfInBounds t a) ts).size=ts.size
 | [],vs,us,env,ts,E,_,_,_,_=>by
  cases vs<;>exact ⟨E,rfl⟩
 |p::ps,[],us,env,ts,E,_,h,_,_=>by simp at h
 |p::ps,v::vs,[],env,ts,E,_,_,h,_=>by simp at h
 |p::ps,v::vs,u::us,env,ts,E,hp,h1,h2,hC=>by
  simp only [CL] at hC
  obtain ⟨⟨u',hu',hC1⟩,hC2⟩:=hC
  simp only [List.getElem?_cons_zero,Option.some.injEq] at hu'
  subst hu'
  simp only [bindTo,List.zip_cons_cons,List.foldl_cons]
  obtain ⟨k1,k2⟩:=env_to ps vs us ((p,v)::env) (ts.setIfInBounds p u) (E.put (hp p (by simp)) hC1) (fun q hq=>by simpa using hp q (by simp [hq])) (by simpa using h1) (by simpa using h2) (by simpa using hC2)
  exact ⟨k1,by rw [k2];simp⟩
end
def EntryOk (P:Program) (fid:FuncId→Option Nat) (f:FuncId):Entry→Prop
 | .fn d=>∃ fn c,P.funcs[f]? = some fn∧fn.body=some c∧(fn.name == "runtime.NumGoroutine")=false∧CodeS P fid d.nt c d.body∧cres P fn.results.toList=some (d.res.map RS.rv)∧fn.ntmps=d.nt
 | .orc g=>FnThere P f∧∀ as hps r,g as hps=some r→CallOk P fid f as hps r
def Good (P:Program) (fid:FuncId→Option Nat) (T:Nat→Option Entry):Prop:=∀ f k e,fid f=some k→T k=some e→EntryOk P fid f e
def Post (P:Program) (fid:FuncId→Option Nat) (fr0 fr:Nat→Prop) (w0:World) (nt:Nat) (m:Mem) (lo:Nat) (r:Res) (ex:Exit) (a':Act) (w':World):Prop:=
 ex=r.1.toExit∧∃ fr' w1 m',Wid fr w0 fr' w1∧Fwd fr lo m m'∧r.2.lo=lo∧SInv P fid fr0 fr' w1 nt m' r.2 a' w'
def Says (P:Program) (fid:FuncId→Option Nat):Job→Res→Prop
 | .stmt s st,r=>∀ c fr0 fr w0 nt m a w ro,CodeS P fid nt c s→(ro=none∨rangeless c=true)→SInv P fid fr0 fr w0 nt m st a w→c.wpIn (FF ro) 0 P (Post P fid fr0 fr w0 nt m st.lo r) a w
 | .ops d l st,r=>r.1=.normal∧Trace P fid d l st r.2
 | .op d o st,r=>r.1=.normal∧∃ v hp',Step P fid d o st v hp'∧r.2=st.put o.dst v hp'
 | .call k as hp,r=>Good2 P fid k as hp (lk r.2.env 0) r.2.hp
 | .round id vs hp,r=>RoundOk P fid id vs hp (lk r.2.env 0) r.2.hp
section
variable {P:Program} {fid:FuncId→Option Nat} {T:Nat→Option Entry}
theorem leaves_ok {fn:Func} {tmps:Array Value} {R:Ending→World→Prop}:∀ (ds:List Deferred) (M:List Nat) (w:World),ds.map (·.target)=M.map Target.collected→M.Nodup→(∀ r∈M,w.heap[r]? = some (.deferred (some []))) →
  (∀ w',w'.os=w.os→w'.tape=w.tape→w'.output=w.output→w'.heap.size=w.heap.size→(∀ g,g ∉ M→w'.heap[g]? = w.heap[g]?)→∃ v,(Go.results fn tmps).run P w'=.ok v w'∧R (.returned v) w') →
  LeavesInM Fence.wide 0 P fn tmps R ds .returning w
 | [],M,w,hm,_,_,h=>by
  simp only [LeavesInM,LeavesIn]
  exact h w rfl rfl rfl rfl (fun _ _=>rfl)
 |d::ds,[],w,hm,_,_,h=>by simp at hm
 |d::ds,r::M,w,hm,hn,hh,h=>by
  simp only [List.map_cons,List.cons.injEq] at hm
  obtain ⟨h1,h2⟩:=List.nodup_cons.1 hn
  simp only [LeavesInM]
  refine ⟨by simp,.inl ⟨r,_,hm.1,run_takeDeferred (hh r (by simp)),?_⟩⟩
  refine leaves_ok ds M _ hm.2 h2 (fun q hq=>?_) (fun w' e1 e2 e3 e4 e5=>?_)
  ·rw [World.putObj_heap_other (fun e=>h1 (by rw [←e];exact hq))];exact hh q (by simp [hq])
  ·refine h w' e1 e2 e3 (by rw [e4];exact World.putObj_size) (fun g hg=>?_)
   simp only [List.mem_cons,not_or] at hg
   rw [e5 g hg.2,World.putObj_heap_other hg.1]
theorem ext_of_fwd {fr:Nat→Prop} {w0 w:World} {m m':Mem} {hp:List Blk} {fl:List Nat} (H:HInv fr w0 m hp w fl) (h:Fwd fr hp.length m m'):Ext fr m m':=h.ext (by rw [H.len];exact Nat.le_refl _)
theorem says_call (G:Good P fid T) {k:Nat} {as:List AV} {hp:List Blk} {d:FnDef} {r:Res} (hT:T k=some (.fn d)) (hs:Says P fid (.stmt d.body ⟨bindParams 0 as,hp,hp.length,[]⟩) r) (hx:∀ id,r.1≠.exit id) {ru:AV} (hres:results r.2.env r.2.hp d.res=some ru):
  Good2 P fid k as hp ru (still r.2.hp (rsIds r.2.env r.2.hp d.res)):=by
 intro f hf
 obtain ⟨fn,c,h1,h2,h3,h4,h5,h6⟩:=G f k _ hf hT
 refine ⟨⟨fn,h1,by rw [h2];rfl,h3⟩,?_⟩
 intro fr w0 m w args hP hcd H hC hsz
 refine callsIn_of_wp_marks h1 h2 trivial ?_
 have S:SInv P fid fr fr w0 d.nt m ⟨bindParams 0 as,hp,hp.length,[]⟩ { tmps:=args++Array.replicate (fn.ntmps - args.size) undef,defers:=[] } w:=
  ⟨hP,hcd,H,env_params hC hsz _,by simp;omega,⟨fun _ h=>h,[],rfl,by simp,by simp⟩,Nat.le_refl _⟩
 refine wpIn_mono (hs c fr fr w0 d.nt m _ w none h4 (.inl rfl) S) ?_
 rintro ex a' w' ⟨rfl,fr',w1,m',hW,hF,hlo,S'⟩
 obtain ⟨hsub,M,hM,hMn,hMm⟩:=S'.d
 have hMw:∀ r∈M,w'.heap[r]? = some (.deferred (some [])):=fun q hq=>by rw [(S'.h.fix q (hMm q hq).1).2];exact (hMm q hq).2.2
 have hb:LeavesInM Fence.wide 0 P fn a'.tmps (fun e w''=>∃ u m',e=.returned u∧Fwd fr hp.length m m'∧HInv fr w0 m' (still r.2.hp (rsIds r.2.env r.2.hp d.res)) w'' []∧R m' w'' ru u []) a'.defers .returning w':=by
  refine leaves_ok a'.defers M w' hM hMn hMw ?_
  intro w2 e1 e2 e3 e4 e5
  have H2:HInv fr w0 m' r.2.hp w2 []:=S'.h.narrow hW e1 e2 e3 e4 (fun g hne=>by
   have hgM:g∈M:=Classical.byContradiction fun h=>hne (e5 g h)
   exact ⟨(hMm g hgM).1,(hMm g hgM).2.1,fun o=>by simp [World.cell?,hMw g hgM]⟩)
  obtain ⟨v,hv1,hv2⟩:=results_ok (P:=P) H2 S'.e h5 hres
  obtain ⟨m3,E3,H3⟩:=H2.still (rsIds r.2.env r.2.hp d.res)
  have hl:hp.length≤m'.bl.length:=by
   have:=S'.l
   rw [hlo] at this
   rw [H2.len];exact this
  exact ⟨v,hv1,v,m3,rfl,hF.trans (E3.fwd hl),H3,R_mono E3.le (fun _ _=>rfl) hv2⟩
 cases hr:r.1 with
 |normal=>exact hb
 |ret=>exact hb
 |exit id=>exact absurd hr (hx id)
theorem says_callRes (G:Good P fid T) {f:Job→Option Res} (hf:∀ j r,f j=some r→Says P fid j r) {k:Nat} {as:List AV} {hps:List Blk} {r:AV × List Blk} (h:callRes f T k as hps=some r):Good1 P fid k as hps r:=by
 intro g hg
 unfold callRes at h
 split at h
 ·rename_i o ho
  obtain ⟨h1,h2⟩:=G g k _ hg ho
  exact ⟨h1,h2 as hps r h⟩
 ·simp only [obI] at h
  obtain ⟨x,h1,h2⟩:=h
  obtain ⟨k1,k2⟩:=hf _ _ h1 g hg
  exact ⟨k1,fin_ok k2 h2⟩
 ·cases h
theorem roundsIn_mono {F:Fence} {n:Nat} {P:Program} {c:Code} {Q Q':Exit→Act→World→Prop} (hq:∀ e a w,Q e a w→Q' e a w):∀ k a w,Code.roundsIn F n P c Q k a w→Code.roundsIn F n P c Q' k a w:=by
 intro k
 induction k with
 |zero=>intro a w h;exact h
 |succ k ih=>
  intro a w h
  rw [roundsIn_succ] at h ⊢
  refine wpIn_mono h ?_
  intro e a w h
  cases e<;>first | exact ih _ _ h | exact hq _ _ _ h
theorem Post.after {fr0 fr fr':Nat→Prop} {w0 w1:World} {nt:Nat} {m m':Mem} {lo lo':Nat} {r:Res} {ex:Exit} {a:Act} {w:World} (hW:Wid fr w0 fr' w1) (hF:Fwd fr lo m m') (hl:lo'=lo) (h:Post P fid fr0 fr' w1 nt m' lo' r ex a w):Post P fid fr0 fr w0 nt m lo r ex a w:=by
 obtain ⟨h1,fr2,w2,m2,hW2,hF2,hlo,S2⟩:=h
 subst hl
 exact ⟨h1,fr2,w2,m2,hW.trans hW2,hF.trans (hF2.sub hW.sub (Nat.le_refl _)),hlo,S2⟩
theorem says_loop:∀ n,(∀ m,m<n→∀ j r,evn T m j=some r→Says P fid j r)→∀ b st r,evn T n (.stmt (.loop b) st)=some r→∃ k,∀ c fr0 fr w0 nt m a w ro,CodeS P fid nt c b→(ro=none∨rangeless c=true)→SInv P fid fr0 fr w0 nt m st a w →
  Code.roundsIn (FF ro) 0 P c (Post P fid fr0 fr w0 nt m st.lo r) k a w:=by
 intro n
 induction n with
 |zero=>intro _ b st r h;cases h
 |succ n ihn=>
  intro hs b st r h
  change F T (evn T n) _=some r at h
  simp only [F,obI] at h
  obtain ⟨r1,h1,h2⟩:=h
  have s1:=hs n (by omega) _ _ h1
  split at h2
  ·rename_i hn
   obtain ⟨k,hk⟩:=ihn (fun m hm=>hs m (by omega)) b r1.2 r h2
   refine ⟨k+1,fun c fr0 fr w0 nt m a w ro hc hro S=>?_⟩
   rw [roundsIn_succ]
   refine wpIn_mono (s1 c fr0 fr w0 nt m a w ro hc hro S) ?_
   rintro ex a1 w1 ⟨rfl,fr1,w1',m1,hW1,hF1,hlo1,S1⟩
   rw [hn]
   refine roundsIn_mono ?_ k a1 w1 (hk c fr0 fr1 w1' nt m1 a1 w1 ro hc hro S1)
   intro ex a2 w2 h
   exact h.after hW1 hF1 hlo1
  ·rename_i hn
   injection h2 with h2;subst h2
   refine ⟨1,fun c fr0 fr w0 nt m a w ro hc hro S=>?_⟩
   rw [roundsIn_succ]
   refine wpIn_mono (s1 c fr0 fr w0 nt m a w ro hc hro S) ?_
   rintro ex a1 w1 ⟨rfl,h⟩
   cases hq:r1.1 with
   |normal=>exact absurd hq hn
   |exit id=>exact ⟨by first | rfl | rw [hq],h⟩
   |ret=>exact ⟨by first | rfl | rw [hq],h⟩
theorem says_rangef {x:SX} {ps:List Nat} {asg body:Stmt} {st:St} {k:Nat} {fs cs:List AV} (hx:st.ev x=.clo k fs cs) {v:AV} {hp':List Blk} (hcall:Good2 P fid k (fs++[.yld st.hp.length]++cs) (st.hp++[.lp 0 st.env ps asg body .normal]) v hp')
  {s:Nat} {env':List (Nat × AV)} {ps1:List Nat} {asg1 body1:Stmt} {j:AX} (hN:hp'[st.hp.length]? = some (.lp s env' ps1 asg1 body1 j)) (hs1:s≠1):Says P fid (.stmt (.rangef x ps asg body) st) (j,⟨st.env,hp'.set st.hp.length .dead,st.lo,st.mks⟩):=by
 intro c fr0 fr w0 nt m a w ro hc hro S
 obtain ⟨o,ps',ca,cb,rfl,hps,hlt,ra,rb,ho,hca,hcb⟩:=cc_rangef hc
 have hro:ro=none:=hro.resolve_right (by simp [rangeless])
 subst hro
 have k1:=opd_ok (st:=st) S.cd ho S.e
 rw [hx] at k1
 simp only [C] at k1
 obtain ⟨fn,fs',cs',hv,hfk,l1,l2,c1,c2⟩:=k1
 obtain ⟨hthere,hraw⟩:=hcall fn (by rw [←S.cd];exact hfk)
 refine wpIn_rangeFunc ?_
 intro fnc _
 obtain ⟨lp,hlp⟩:∃ lp:Loop,lp={ state:=.ready,pending:=none,fn:=fnc,tmps:=a.tmps,params:=ps',assign:=ca,body:=cb,defers:=w.heap.size }:=⟨_,rfl⟩
 obtain ⟨wA,hwA⟩:∃ wA,wA=w.alloc (.deferred (some [])):=⟨_,rfl⟩
 have hsA:wA.heap.size=w.heap.size+1:=by rw [hwA];simp
 have HA:=S.h.alloc0 (.deferred (some []))
 rw [←hwA] at HA
 have HA':=HA.rebase.frame
 have HB:=HA'.alloc0 (.loop lp)
 have hblk:BlkOk m (wA.alloc (.loop lp)) (.lp 0 st.env ps asg body .normal) ⟨none,some wA.heap.size,0,0,0⟩ [wA.heap.size]:=by
  refine ⟨wA.heap.size,lp,rfl,rfl,World.alloc_heap_new wA _,.inl ⟨rfl,by rw [hlp],by rw [hlp],rfl⟩,by rw [hlp];exact S.e,by rw [hlp];exact hps,nt,by rw [hlp];exact S.n,hlt,?_⟩
  rw [hlp,S.P,S.cd]
  exact ⟨hca,hcb,ra,rb⟩
 have HC:=HInv.adopt (f:=[wA.heap.size]) (fl:=[]) HB hblk
 obtain ⟨m2,hm2⟩:∃ m2:Mem,m2={ m with bl:=m.bl++[⟨none,some wA.heap.size,0,0,0⟩],fp:=fun q=>if q=st.hp.length then [wA.heap.size] else m.fp q }:=⟨_,rfl⟩
 rw [←hm2] at HC
 have E2:Ext fr m m2:=by rw [hm2];exact ext_app _ _
 have hN2:m2.bl[st.hp.length]? = some ⟨none,some wA.heap.size,0,0,0⟩:=by rw [hm2,←S.h.len];exact get_new
 have hCL:CL m2 (fs++[.yld st.hp.length]++cs) (fun i=>(fs'++#[.func (.yield wA.heap.size) #[] #[]]++cs')[i]?):=by
  refine CL_append (CL_append (CL_mono E2.le _ _ _ (fun _ _ h=>h) c1) l1 ?_) (by simp [l1]) (CL_mono E2.le _ _ _ (fun _ _ h=>h) c2)
  simp only [CL,and_true]
  refine ⟨_,rfl,?_⟩
  simp only [C]
  exact ⟨_,hN2,wA.heap.size,rfl,rfl⟩
 have hsz:(fs'++#[Value.func (.yield wA.heap.size) #[] #[]]++cs').size=(fs++[AV.yld st.hp.length]++cs).length:=by simp [l1,l2];omega
 refine ⟨wA.heap.size,[{ target:=.collected w.heap.size,args:=#[] }],wA.alloc (.loop lp),{ target:=.fn (.func fn) cs',args:=fs'++#[.func (.yield wA.heap.size) #[] #[]] },wA.alloc (.loop lp),fn,fs'++#[.func (.yield wA.heap.size) #[] #[]]++cs',wA.alloc (.loop lp),?_,?_,fun _ _=>trivial,?_,fun h=>by simp [FF,Fence.wide] at h,?_⟩
 ·rw [hsA,hlp,hwA];exact run_enterLoop_outer _ _ _ _ _
 ·simp only [resolve];rw [hv];simp [Deferred.ofValue,Act.eval]
 ·obtain ⟨f0,h1,h2,h3⟩:=hthere
  have hn:¬ f0.name= "runtime.NumGoroutine":=by simpa using h3
  have hb:¬ f0.body=none:=by intro h;rw [h] at h2;cases h2
  simp [invoke,callFunc,h1,hn,hb]
 ·refine (callsFF (hraw _ wA m2 _ _ (by rw [hm2];exact S.P) (by rw [hm2];exact S.cd) HC hCL hsz)).mono ?_
  rintro e w' ⟨u,m',rfl,F',H',_⟩
  have hblN:m'.bl[st.hp.length]? = some ⟨none,some wA.heap.size,0,0,0⟩:=by rw [F'.bl _ (by simp)];exact hN2
  obtain ⟨g,l',heb,hfp,hheap,hst,_⟩:=H'.blk _ _ _ hN hblN
  simp only [Option.some.injEq] at heb
  subst heb
  have hbusy:l'.state≠.busy:=by
   rcases hst with ⟨_,h,_⟩ | ⟨h,_⟩ | ⟨_,h,_⟩
   ·rw [h];simp
   ·exact absurd h hs1
   ·rw [h];simp
  have hK:=H'.kill st.hp.length
  have hD:=(hK.putFloat (g:=wA.heap.size) (by rw [hfp];simp) (.loop { l' with state:=.exhausted })).drop
  have E3:Ext (fun g=>fr g∨g=w.heap.size) m2 m':=ext_of_fwd HC F'
  have E4:=E3.trans (ext_fp (fun k=>if k=st.hp.length then [] else m'.fp k))
  have E5:Ext fr m { m' with fp:=fun k=>if k=st.hp.length then [] else m'.fp k }:=⟨E2.le.trans E4.le,fun b hb o=>(E4.low b (.inl hb) o).trans (E2.low b hb o)⟩
  have hWid:Wid fr w0 (fun g=>fr g∨g=w.heap.size) wA:=by
   refine ⟨fun _ h=>.inl h,by rw [hwA];exact S.h.os,by rw [hwA];exact S.h.tape,by rw [hwA];exact S.h.output,by rw [hsA];exact Nat.le_succ_of_le S.h.size,fun g hg=>?_⟩
   rw [hwA,Below.heap_alloc w _ g (S.h.fix g hg).1];exact (S.h.fix g hg).2
  obtain ⟨hsub,M,hM,hMn,hMm⟩:=S.d
  have S3:SInv P fid fr0 (fun g=>fr g∨g=w.heap.size) wA nt { m' with fp:=fun k=>if k=st.hp.length then [] else m'.fp k } ⟨st.env,hp'.set st.hp.length .dead,st.lo,st.mks⟩ { a with defers:=[{ target:=.collected w.heap.size,args:=#[] }]++a.defers } (w'.putObj wA.heap.size (.loop { l' with state:=.exhausted })):=by
   refine ⟨E5.le.P.trans S.P,E5.le.cd.trans S.cd,hD,S.e.mono E5.le,S.n,⟨fun g hg=>.inl (hsub g hg),w.heap.size::M,by simp [hM],?_,?_⟩,?_⟩
   ·exact List.nodup_cons.2 ⟨fun h=>by have:=(S.h.fix _ (hMm _ h).1).1;omega,hMn⟩
   ·intro q hq
    rcases List.mem_cons.1 hq with rfl | hq
    ·exact ⟨.inr rfl,fun h=>by have:=(S.h.fix _ (hsub _ h)).1;omega,by rw [hwA];exact World.alloc_heap_new w _⟩
    ·obtain ⟨q1,q2,q3⟩:=hMm q hq
     exact ⟨.inl q1,q2,by rw [hWid.fix q q1];exact q3⟩
   ·have h1:=(List.getElem?_eq_some_iff.1 hN).1
    have:=S.l
    simp;omega
  have hpost:Post P fid fr0 fr w0 nt m st.lo (j,⟨st.env,hp'.set st.hp.length .dead,st.lo,st.mks⟩) j.toExit { a with defers:=[{ target:=.collected w.heap.size,args:=#[] }]++a.defers } (w'.putObj wA.heap.size (.loop { l' with state:=.exhausted })):=
   ⟨rfl,_,_,_,hWid,E5.fwd (by rw [S.h.len];exact S.l),rfl,S3⟩
  refine ⟨_,_,run_endLoop hheap hbusy,?_⟩
  rcases hst with ⟨_,_,hp0,hj⟩ | ⟨h,_⟩ | ⟨_,_,cj,hj,hp0⟩
  ·subst hj
   rw [hp0] at hpost ⊢
   exact hpost
  ·exact absurd h hs1
  ·rw [hp0] at hpost ⊢
   cases j with
   |normal=>cases hj
   |exit id=>simp only [jcode,Option.some.injEq] at hj;subst hj;exact wpIn_exit hpost
   |ret=>simp only [jcode,Option.some.injEq] at hj;subst hj;exact wpIn_ret hpost
theorem says_round {id:Nat} {vs:List AV} {hp:List Blk} {env:List (Nat × AV)} {ps:List Nat} {asg body:Stmt} {j0:AX} (hb:hp[id]? = some (.lp 0 env ps asg body j0)) (hl:vs.length=ps.length)
  {r1:Res} (h1:Says P fid (.stmt asg ⟨bindTo ps vs env,hp,hp.length,[]⟩) r1) (hr1:r1.1=.normal) {env1:List (Nat × AV)} {ps1:List Nat} {asg1 body1:Stmt} {j1:AX} (hb1:r1.2.hp[id]? = some (.lp 0 env1 ps1 asg1 body1 j1))
  {r2:Res} (h2:Says P fid (.stmt body ⟨r1.2.env,r1.2.hp.set id (.lp 1 env1 ps1 asg1 body1 j1),hp.length,[]⟩) r2) {env2:List (Nat × AV)} {ps2:List Nat} {asg2 body2:Stmt} {j2:AX} (hb2:r2.2.hp[id]? = some (.lp 1 env2 ps2 asg2 body2 j2)):
  RoundOk P fid id vs hp (.bool (decide (r2.1=.normal))) (r2.2.hp.set id (.lp (if r2.1=.normal then 0 else 2) env2 ps2 asg2 body2 r2.1)):=by
 intro fr w0 m w args e g hP hcd H hC hsz he hg
 have hid:id<hp.length:=(List.getElem?_eq_some_iff.1 hb).1
 obtain ⟨g',lp,heb,hfp,hheap,hst,hE,hps,nt,hnt,hplt,hca,hcb,ra,rb⟩:=H.blk _ _ _ hb he
 rw [hg] at heb;injection heb with heb;subst heb
 have hpsz:args.size=lp.params.size:=by rw [hsz,hl,←hps];simp
 refine ⟨lp.fn,_,lp.assign,lp.body,run_yield hheap hpsz,roundIn_of_wpIn trivial ?_⟩
 have hus:args.toList.length=ps.length:=by rw [←hl];simpa using hsz
 have hto:=env_to ps vs args.toList env lp.tmps hE (fun p hp=>Nat.lt_of_lt_of_le (hplt p hp) hnt) hl hus (by simpa using hC)
 have hfold:(lp.params.zip args).foldl (fun tmps (t,a)=>tmps.setIfInBounds t a) lp.tmps=(ps.zip args.toList).foldl (fun tmps (t,a)=>tmps.setIfInBounds t a) lp.tmps:=by
  rw [←Array.foldl_toList,Array.toList_zip,hps]
 rw [hfold]
 have S:SInv P fid fr fr w0 nt m ⟨bindTo ps vs env,hp,hp.length,[]⟩ { tmps:=(ps.zip args.toList).foldl (fun tmps (t,a)=>tmps.setIfInBounds t a) lp.tmps,defers:=[] } w:=
  ⟨hP,hcd,H,hto.1,by show nt≤Array.size _;rw [hto.2];exact hnt,⟨fun _ h=>h,[],rfl,by simp,by simp⟩,Nat.le_refl _⟩
 rw [hP,hcd] at hca hcb
 refine wpIn_mono (h1 lp.assign fr fr w0 nt m _ w (some g) hca (.inr ra) S) ?_
 rintro ex a1 w1 ⟨rfl,fr1,w1',m1,hW1,hF1,hlo1,S1⟩
 rw [hr1]
 have he1:m1.bl[id]? = some e:=by rw [hF1.bl id hid];exact he
 obtain ⟨g1,lp1,heb1,hfp1,hheap1,hst1,hrest1⟩:=S1.h.blk _ _ _ hb1 he1
 rw [hg] at heb1;injection heb1 with heb1;subst heb1
 have hready:lp1.state=.ready:=by
  rcases hst1 with ⟨_,h,_⟩ | ⟨h,_⟩ | ⟨h,_⟩
  ·exact h
  ·cases h
  ·cases h
 have hgs:g<w1.heap.size:=(Array.getElem?_eq_some_iff.1 hheap1).1
 refine ⟨_,run_beginRound hheap1 hready,?_⟩
 have HB:=S1.h.putLoop (g:=g) (b:=.lp 1 env1 ps1 asg1 body1 j1) (o:=.loop { lp1 with state:=.busy }) he1 hfp1 ⟨g,{ lp1 with state:=.busy },hg,rfl,World.putObj_heap_same hgs,.inr (.inl ⟨rfl,rfl⟩),hrest1⟩
 have EB:=ext_fp (fr:=fr1) (m:=m1) (fun k=>if k=id then [g] else m1.fp k)
 have hl1:hp.length≤r1.2.hp.length:=by have:=S1.l;rw [hlo1] at this;exact this
 have SB:SInv P fid fr fr1 w1' nt { m1 with fp:=fun k=>if k=id then [g] else m1.fp k } ⟨r1.2.env,r1.2.hp.set id (.lp 1 env1 ps1 asg1 body1 j1),hp.length,[]⟩ a1 (w1.putObj g (.loop { lp1 with state:=.busy })):=
  ⟨S1.P,S1.cd,HB,S1.e.mono EB.le,S1.n,S1.d,by simpa using hl1⟩
 refine wpIn_mono (h2 lp.body fr fr1 w1' nt _ a1 _ (some g) hcb (.inr rb) SB) ?_
 rintro ex a2 w2 ⟨rfl,fr2,w2',m2,hW2,hF2,hlo2,S2⟩
 have he2:m2.bl[id]? = some e:=by rw [hF2.bl id hid];exact he1
 obtain ⟨g2,lp2,heb2,hfp2,hheap2,_,hrest2⟩:=S2.h.blk _ _ _ hb2 he2
 rw [hg] at heb2;injection heb2 with heb2;subst heb2
 have hgs2:g<w2.heap.size:=(Array.getElem?_eq_some_iff.1 hheap2).1
 have hW:=hW1.trans hW2
 have hF:Fwd fr hp.length m m2:=(hF1.trans ((EB.fwd (lo:=hp.length) (by rw [S1.h.len];exact hl1)).sub hW1.sub (Nat.le_refl _))).trans (hF2.sub hW1.sub (Nat.le_refl _))
 have fin:∀ (jump:Option Code),jump.isNone=decide (r2.1=.normal)→jump=jcode r2.1→∃ u m',Ending.returned (.bool jump.isNone)=Ending.returned u∧Ext fr m m'∧HInv fr w0 m' (r2.2.hp.set id (.lp (if r2.1=.normal then 0 else 2) env2 ps2 asg2 body2 r2.1)) (w2.putObj g (.loop { lp2 with state:=if jump.isNone then .ready else .done,pending:=jump })) []∧C m' (.bool (decide (r2.1=.normal))) u:=by
  intro jump hj1 hj2
  have HD:=S2.h.putLoop (g:=g) (b:=.lp (if r2.1=.normal then 0 else 2) env2 ps2 asg2 body2 r2.1) (o:=.loop { lp2 with state:=if jump.isNone then .ready else .done,pending:=jump }) he2 hfp2 ⟨g,_,hg,rfl,World.putObj_heap_same hgs2,by
   by_cases hn:r2.1=.normal
   ·have hjn:jump=none:=by rw [hj2,hn];rfl
    exact .inl ⟨by rw [if_pos hn],by simp [hjn],hjn,hn⟩
   ·refine .inr (.inr ⟨by rw [if_neg hn],?_,?_⟩)
    ·simp [hj1,hn]
    ·cases hq:jcode r2.1 with
     |none=>exfalso;apply hn;cases hqq:r2.1<;>rw [hqq] at hq<;>first | rfl | cases hq
     |some cj=>exact ⟨cj,rfl,by rw [hj2,hq]⟩,hrest2⟩
  have ED:=ext_fp (fr:=fr) (m:=m2) (fun k=>if k=id then [g] else m2.fp k)
  refine ⟨_,_,rfl,(ext_of_fwd H hF).trans ED,HD.less hW,?_⟩
  simp only [C,hj1]
 have key:∀ y:AX,r2.1=y→roundPost P g (fun e w'=>∃ u m',e=.returned u∧Ext fr m m'∧HInv fr w0 m' (r2.2.hp.set id (.lp (if r2.1=.normal then 0 else 2) env2 ps2 asg2 body2 r2.1)) w' []∧C m' (.bool (decide (r2.1=.normal))) u) y.toExit a2 w2:=by
  intro y hy
  cases y with
  |normal=>exact ⟨_,_,run_endRound none hheap2,fin none (by simp [hy]) (by rw [hy];rfl)⟩
  |ret=>exact ⟨_,_,run_endRound (some .ret) hheap2,fin (some .ret) (by simp [hy]) (by rw [hy];rfl)⟩
  |exit i=>exact ⟨_,_,run_endRound (some (.exit i)) hheap2,fin (some (.exit i)) (by simp [hy]) (by rw [hy];rfl)⟩
 exact key _ rfl
theorem says_callOp (G:Good P fid T) {f:Job→Option Res} (hf:∀ j r,f j=some r→Says P fid j r) {dr:Bool} {md:Md} {k:Nat} {vs:List AV} {d:Option Nat} {st:St} {r:Res} (h:callOp f T dr md k vs d st=some r):
  r.1=.normal∧∃ v hp',CStep P fid dr k vs st.hp md v hp'∧r.2=st.put d v hp':=by
 cases md with
 |plain=>
  simp only [callOp,obI] at h
  obtain ⟨ps,h1,x,h2,h3⟩:=h
  split at h3
  ·rename_i hc
   injection h3 with h3;subst h3
   exact ⟨rfl,_,_,.plain h1 (says_callRes G hf h2) hc,rfl⟩
  ·cases h3
 |quiet=>
  simp only [callOp,obI] at h
  obtain ⟨ps,h1,x,h2,h3⟩:=h
  split at h3
  ·rename_i hc
   injection h3 with h3;subst h3
   simp only [Bool.and_eq_true,Bool.or_eq_true,List.isEmpty_iff] at hc
   exact ⟨rfl,_,_,.quiet h1 (says_callRes G hf h2) hc.1 hc.2,rfl⟩
  ·cases h3
 |mem=>
  simp only [callOp,obI] at h
  obtain ⟨hps,h1,x,h2,h3⟩:=h
  split at h3
  ·rename_i hc
   injection h3 with h3;subst h3
   exact ⟨rfl,_,_,.mem h1 (says_callRes G hf h2) hc.1 hc.2,rfl⟩
  ·cases h3
 |memp=>
  simp only [callOp,obI] at h
  obtain ⟨hp1,h0,hps,h1,x,h2,h3⟩:=h
  split at h3
  ·rename_i hc
   injection h3 with h3;subst h3
   exact ⟨rfl,_,_,.memp h0 h1 (says_callRes G hf h2) hc.1 hc.2,rfl⟩
  ·cases h3
 |all=>
  simp only [callOp,omI] at h
  obtain ⟨x,h1,rfl⟩:=h
  exact ⟨rfl,_,_,.all (hf _ _ h1),rfl⟩
 |allk=>
  simp only [callOp,obI] at h
  obtain ⟨x,h1,h3⟩:=h
  split at h3
  ·rename_i hc
   injection h3 with h3;subst h3
   exact ⟨rfl,_,_,.allk (hf _ _ h1) hc,rfl⟩
  ·cases h3
theorem says (G:Good P fid T):∀ n j r,evn T n j=some r→Says P fid j r:=by
 intro n
 induction n using Nat.strongRecOn with
 |_ n0 ihs=>
  cases n0 with
  |zero=>intro j r h;cases h
  |succ n=>
  have ih:=ihs n (by omega)
  intro j r h
  change F T (evn T n) j=some r at h
  rcases j with ⟨s,st⟩ | ⟨d,l,st⟩ | ⟨d,o,st⟩ | ⟨k,as,hp⟩ | ⟨id,vs,hp⟩
  ·cases s with
   |skip=>
    simp only [F] at h;injection h with h;subst h
    intro c fr0 fr w0 nt m a w ro hc hro S
    rcases cc_skip hc with rfl | ⟨l,rfl⟩
    ·exact wpIn_skip ⟨rfl,fr,w0,m,Wid.refl _ _,Fwd.refl _ _ m,rfl,S⟩
    ·exact wpIn_label ⟨rfl,fr,w0,m,Wid.refl _ _,Fwd.refl _ _ m,rfl,S⟩
   |ops d l=>
    simp only [F] at h
    obtain ⟨h1,h2⟩:=ih _ _ h
    intro c fr0 fr w0 nt m a w ro hc hro S
    obtain ⟨id,ops,rfl,k1,k2,hd⟩:=cc_ops hc
    have hx:∀ (k i:Nat) (so:SOp),(List.range ops.size)[k]? = some i→l[k]? = some so→∃ o,ops[i]? = some o∧csop P fid nt ops o=some so.base:=by
     intro k i so hi hso
     obtain ⟨o,ho,hcs⟩:=k2 k so hso
     have:i=k:=by
      have hk:=(List.getElem?_eq_some_iff.1 hi).1
      rw [List.getElem?_range (by simpa using hk)] at hi
      injection hi with hi;exact hi.symm
     subst this
     exact ⟨o,ho,hcs⟩
    cases d
    ·refine wpIn_region ?_
     refine text_ok (fid:=fid) (fr0:=fr0) (fr:=fr) (w0:=w0) (nt:=nt) (st':=r.2) (d:=false) l (List.range ops.size) st m a w h2 (by simp [k1]) hx S ?_
     intro m' a' w' hF hlo S'
     exact ⟨by rw [h1];rfl,fr,w0,m',Wid.refl _ _,hF,hlo,S'⟩
    ·obtain ⟨hdr,hmix⟩:=hd rfl
     refine wpIn_region_any hmix ?_
     rcases Bool.or_eq_true_iff.1 hdr with hdr | hdr
     ·refine draw_ok (fid:=fid) (fr0:=fr0) (fr:=fr) (w0:=w0) (nt:=nt) hdr k1 k2 h2 rfl S ?_
      intro m' a' w' hF hlo S'
      exact ⟨by rw [h1];rfl,fr,w0,m',Wid.refl _ _,hF,hlo,S'⟩
     ·refine draw_okM (fid:=fid) (fr0:=fr0) (fr:=fr) (w0:=w0) (nt:=nt) hdr k1 k2 h2 S ?_
      intro m' a' w' hF hlo S'
      exact ⟨by rw [h1];rfl,fr,w0,m',Wid.refl _ _,hF,hlo,S'⟩
   |opsC chk l=>
    simp only [F,obI] at h
    obtain ⟨r1,hr1,h⟩:=h
    split at h
    ·rename_i hck
     injection h with h;subst h
     obtain ⟨h1,h2⟩:=ih _ _ hr1
     intro c fr0 fr w0 nt m a w ro hc hro S
     obtain ⟨id,ops,rfl,k1,k2,hdr,hmix⟩:=cc_opsC hc
     refine wpIn_region_any hmix ?_
     refine draw_ok (fid:=fid) (fr0:=fr0) (fr:=fr) (w0:=w0) (nt:=nt) hdr k1 k2 h2 hck S ?_
     intro m' a' w' hF hlo S'
     exact ⟨by rw [h1];rfl,fr,w0,m',Wid.refl _ _,hF,hlo,S'⟩
    ·cases h
   |seq x y=>
    simp only [F,obI] at h
    obtain ⟨r1,h1,h2⟩:=h
    have s1:=ih _ _ h1
    intro c fr0 fr w0 nt m a w ro hc hro S
    obtain ⟨cx,cy,rfl,hx,hy⟩:=cc_seq hc
    have hrx:ro=none∨rangeless cx=true:=hro.imp_right fun h=>by simp only [rangeless,Bool.and_eq_true] at h;exact h.1
    have hry:ro=none∨rangeless cy=true:=hro.imp_right fun h=>by simp only [rangeless,Bool.and_eq_true] at h;exact h.2
    refine wpIn_seq (wpIn_mono (s1 _ fr0 fr w0 nt m a w ro hx hrx S) ?_)
    rintro ex a1 w1 ⟨rfl,fr1,w1',m1,hW1,hF1,hlo1,S1⟩
    split at h2
    ·rename_i hn
     rw [hn]
     refine wpIn_mono (ih _ _ h2 _ fr0 fr1 w1' nt m1 a1 w1 ro hy hry S1) ?_
     intro ex a2 w2 h
     exact h.after hW1 hF1 hlo1
    ·rename_i hn
     injection h2 with h2;subst h2
     cases hq:r1.1 with
     |normal=>exact absurd hq hn
     |exit id=>exact ⟨by first | rfl | rw [hq],fr1,w1',m1,hW1,hF1,hlo1,S1⟩
     |ret=>exact ⟨by first | rfl | rw [hq],fr1,w1',m1,hW1,hF1,hlo1,S1⟩
   |cond x y z=>
    simp only [F] at h
    split at h
    ·rename_i b hb
     intro c fr0 fr w0 nt m a w ro hc hro S
     obtain ⟨o,cy,cz,rfl,hx,hy,hz⟩:=cc_cond hc
     have hry:ro=none∨rangeless cy=true:=hro.imp_right fun h=>by simp only [rangeless,Bool.and_eq_true] at h;exact h.1
     have hrz:ro=none∨rangeless cz=true:=hro.imp_right fun h=>by simp only [rangeless,Bool.and_eq_true] at h;exact h.2
     have hv:=opd_ok (st:=st) S.cd hx S.e
     rw [hb] at hv
     simp only [C] at hv
     refine wpIn_cond hv ?_
     cases b
     ·exact ih _ _ h _ fr0 fr w0 nt m a w ro hz hrz S
     ·exact ih _ _ h _ fr0 fr w0 nt m a w ro hy hry S
    ·rename_i e b hb
     intro c fr0 fr w0 nt m a w ro hc hro S
     obtain ⟨o,cy,cz,rfl,hx,hy,hz⟩:=cc_cond hc
     have hry:ro=none∨rangeless cy=true:=hro.imp_right fun h=>by simp only [rangeless,Bool.and_eq_true] at h;exact h.1
     have hrz:ro=none∨rangeless cz=true:=hro.imp_right fun h=>by simp only [rangeless,Bool.and_eq_true] at h;exact h.2
     have hv:=opd_ok (st:=st) S.cd hx S.e
     rw [hb] at hv
     simp only [C] at hv
     obtain ⟨t,hv,ht⟩:=hv
     refine wpIn_cond hv ?_
     cases e
     ·simp only [Bool.false_eq_true,if_false] at h
      have:=ht rfl
      subst this
      cases t
      ·exact ih _ _ h _ fr0 fr w0 nt m a w ro hz hrz S
      ·exact ih _ _ h _ fr0 fr w0 nt m a w ro hy hry S
     ·simp only [if_true,agree_some] at h
      cases t
      ·exact ih _ _ h.2 _ fr0 fr w0 nt m a w ro hz hrz S
      ·exact ih _ _ h.1 _ fr0 fr w0 nt m a w ro hy hry S
    ·cases h
   |block id b=>
    simp only [F,omI] at h
    obtain ⟨r1,h1,rfl⟩:=h
    have s1:=ih _ _ h1
    intro c fr0 fr w0 nt m a w ro hc hro S
    obtain ⟨cb,rfl,hx⟩:=cc_block hc
    refine wpIn_block (wpIn_mono (s1 _ fr0 fr w0 nt m a w ro hx hro S) ?_)
    rintro ex a1 w1 ⟨rfl,hh⟩
    cases hq:r1.1 with
    |normal=>exact ⟨by simp [AX.toExit],hh⟩
    |ret=>exact ⟨by simp [AX.toExit],hh⟩
    |exit id'=>
     show (if id'=_ then _ else _)
     split
     ·rename_i hid
      subst hid
      exact ⟨by simp [AX.toExit],hh⟩
     ·rename_i hid
      exact ⟨by simp [AX.toExit,hid],hh⟩
   |loop b=>
    intro c fr0 fr w0 nt m a w ro hc hro S
    obtain ⟨cb,rfl,hx⟩:=cc_loop hc
    obtain ⟨k,hk⟩:=says_loop (P:=P) (fid:=fid) (T:=T) (n+1) (fun m hm=>ihs m (by omega)) b st r h
    exact wpIn_loop_rounds k (hk cb fr0 fr w0 nt m a w ro hx hro S)
   |scope b=>
    simp only [F] at h
    have s1:=ih _ _ h
    intro c fr0 fr w0 nt m a w ro hc hro S
    obtain ⟨cb,rfl,hx⟩:=cc_scope hc
    refine wpIn_scope (wpIn_mono (s1 _ fr0 fr w0 nt m a w ro hx hro S) ?_)
    rintro ex a1 w1 ⟨rfl,hh⟩
    cases hq:r.1<;>exact ⟨by first | rfl | rw [hq],hh⟩
   |exit id=>
    simp only [F] at h;injection h with h;subst h
    intro c fr0 fr w0 nt m a w ro hc hro S
    obtain rfl:=cc_exit hc
    exact wpIn_exit ⟨rfl,fr,w0,m,Wid.refl _ _,Fwd.refl _ _ m,rfl,S⟩
   |ret=>
    simp only [F] at h;injection h with h;subst h
    intro c fr0 fr w0 nt m a w ro hc hro S
    obtain rfl:=cc_ret hc
    exact wpIn_ret ⟨rfl,fr,w0,m,Wid.refl _ _,Fwd.refl _ _ m,rfl,S⟩
   |rangef x ps asg body=>
    simp only [F] at h
    split at h
    ·rename_i k fs cs hx
     simp only [obI] at h
     obtain ⟨r1,h1,h2⟩:=h
     split at h2
     ·rename_i hN
      split at h2
      ·rename_i hs
       injection h2 with h2;subst h2
       exact says_rangef hx (ih _ _ h1) hN hs
      ·cases h2
     ·cases h2
    ·cases h
   |ghost g b=>
    simp only [F,obI] at h
    obtain ⟨st1,h1,h2⟩:=h
    intro c fr0 fr w0 nt m a w ro hc hro S
    obtain ⟨m1,hF1,S1,hlo1⟩:=ghost_ok S h1
    refine wpIn_mono (ih _ _ h2 c fr0 fr w0 nt m1 a w ro (cc_ghost hc) hro S1) ?_
    intro ex a2 w2 h
    exact h.after (Wid.refl _ _) hF1 hlo1
   |after b g=>
    simp only [F,obI] at h
    obtain ⟨r1,h1,h2⟩:=h
    intro c fr0 fr w0 nt m a w ro hc hro S
    refine wpIn_mono (ih _ _ h1 c fr0 fr w0 nt m a w ro (cc_after hc) hro S) ?_
    rintro ex a1 w1 ⟨rfl,fr1,w1',m1,hW1,hF1,hlo1,S1⟩
    split at h2
    ·rename_i hn
     simp only [omI] at h2
     obtain ⟨st2,h3,rfl⟩:=h2
     obtain ⟨m2,hF2,S2,hlo2⟩:=ghost_ok S1 h3
     exact ⟨by rw [hn],fr1,w1',m2,hW1,hF1.trans ((hF2.sub hW1.sub (Nat.le_of_eq hlo1.symm))),hlo2.trans hlo1,S2⟩
    ·injection h2 with h2;subst h2
     exact ⟨rfl,fr1,w1',m1,hW1,hF1,hlo1,S1⟩
  ·cases l with
   |nil=>simp only [F] at h;injection h with h;subst h;exact ⟨rfl,.nil⟩
   |cons o l=>
    simp only [F,obI] at h
    obtain ⟨r1,h1,h2⟩:=h
    obtain ⟨_,v,hp',hs,e1⟩:=ih _ _ h1
    obtain ⟨k1,k2⟩:=ih _ _ h2
    rw [e1] at k2
    exact ⟨k1,.cons hs k2⟩
  ·simp only [F,obI] at h
   obtain ⟨go,hw,h⟩:=h
   cases go
   ·simp only [Bool.false_eq_true,if_false] at h
    injection h with h;subst h
    exact ⟨rfl,_,_,.skip hw,rfl⟩
   ·simp only [if_true] at h
    split at h
    ·rename_i md k as hk
     obtain ⟨q1,v,hp',q2,q3⟩:=says_callOp G ih h
     exact ⟨q1,v,hp',.call hw (by rw [hk];rfl) q2,q3⟩
    ·rename_i md x as hk
     split at h
     ·rename_i k fs cs hx
      obtain ⟨q1,v,hp',q2,q3⟩:=says_callOp G ih h
      exact ⟨q1,v,hp',.call hw (by rw [hk];simp only [SO.callee,hx]) q2,q3⟩
     ·rename_i id hx
      split at h
      ·rename_i hmd
       subst hmd
       simp only [omI] at h
       obtain ⟨x1,h1,rfl⟩:=h
       exact ⟨rfl,_,_,.round hw hk hx (ih _ _ h1),rfl⟩
      ·cases h
     ·cases h
    ·rename_i md x ms as hk
     split at h
     ·rename_i t v0 hx
      simp only [obI] at h
      obtain ⟨q,h3,r1,h4,h5⟩:=h
      obtain ⟨q1,v,hp',q2,q3⟩:=says_callOp G ih h5
      refine ⟨q1,v,hp',.invk (q:=(md,q.1,r1.1::as.map st.ev)) (hp1:=r1.2) hw (by rw [hk];exact .mk hx h3 h4) q2,?_⟩
      rw [q3]
      cases o.dst<;>rfl
     ·cases h
    ·simp only [omI] at h
     obtain ⟨x,h1,rfl⟩:=h
     exact ⟨rfl,_,_,.op hw h1,rfl⟩
  ·simp only [F] at h
   split at h
   ·rename_i d hT
    split at h
    ·simp only [obI] at h
     obtain ⟨x,h1,h2⟩:=h
     have hs:=ih _ _ h1
     split at h2
     ·cases h2
     ·rename_i hx
      simp only [omI] at h2
      obtain ⟨ru,h3,rfl⟩:=h2
      have:=says_call G hT hs (fun id he=>hx id he) h3
      simpa [Says,lk] using this
    ·cases h
   ·rename_i g hT
    simp only [omI] at h
    obtain ⟨x,h1,rfl⟩:=h
    intro f hf
    obtain ⟨k1,k2⟩:=G f k _ hf hT
    refine ⟨k1,fun fr w0 m w args hP hcd H hC hs=>(k2 as hp x h1 fr w0 m w args hP hcd H hC hs).mono ?_⟩
    rintro e w' ⟨u,m',fl,rfl,E',hbl,H',hR⟩
    obtain ⟨m2,E2,H2,C2⟩:=thawed H' hR
    exact ⟨u,m2,rfl,(E'.trans E2).fwd (by rw [H.len];exact Nat.le_refl _),H2,R_of_C _ _ (by simpa [lk] using C2)⟩
   ·cases h
  ·simp only [F] at h
   split at h
   ·rename_i hb
    split at h
    ·rename_i hl
     simp only [obI] at h
     obtain ⟨r1,h1,h⟩:=h
     split at h
     ·rename_i hr1
      split at h
      ·rename_i hb1
       simp only [obI] at h
       obtain ⟨r2,h2,h⟩:=h
       split at h
       ·rename_i hb2
        injection h with h;subst h
        have:=says_round hb hl (ih _ _ h1) hr1 hb1 (ih _ _ h2) hb2
        simpa [Says,lk] using this
       ·cases h
      ·cases h
     ·cases h
    ·cases h
   ·cases h
theorem run_ok (G:Good P fid T) {f:FuncId} {k:Nat} (hf:fid f=some k) {as:List AV} {hps:List Blk} {r:AV × List Blk} (h:runP T k as hps=some r):CallOk P fid f as hps r:=by
 refine (says_callRes G (f:=run T) ?_ h f hf).2
 intro j r h
 obtain ⟨n,hn⟩:=run_some.1 h
 exact says G n j r hn
end
end Go.Proofs.Ytfbfbennheeglaa
