import Derived.Test.YtfbfbennheeglaaKx
namespace Go.Proofs.Ytfbfbennheeglaa
set_option linter.unusedSimpArgs false
set_option linter.unusedVariables false
open Go.RowKit
def SayS (P:Program) (fid:FuncId→Option Nat) (s:Stmt) (st:St) (Q:AX→St→Prop):Prop:=∀ c fr0 fr w0 nt m a w ro,CodeS P fid nt c s→(ro=none∨rangeless c=true)→SInv P fid fr0 fr w0 nt m st a w →
 c.wpIn (FF ro) 0 P (fun ex a' w'=>∃ x st',Q x st'∧Post P fid fr0 fr w0 nt m st.lo (x,st') ex a' w') a w
def SayP (P:Program) (fid:FuncId→Option Nat) (so:SOp) (st:St) (K:AV→List Blk→Prop):Prop:=∀ (ops:Array Oper) (i:Nat) (o:Oper) (nt:Nat) (fr:Nat→Prop) (w0:World) (m:Mem) (a:Act) (w:World) (ro:Option Nat) (Q:Exit→Act→World→Prop) (K':Act→World→Prop),
 m.P=P→m.cd=fid→csop P fid nt ops o=some so.base→ops[i]? = some o→HInv fr w0 m st.hp w []→EnvOk m st.env a.tmps →
 (∀ v hp' m' u w',K v hp'→Ext fr m m'→C m' v u→HInv fr w0 m' hp' w' []→K' (a.put o.dst u) w')→wpOpIn (FF ro) 0 P ops Q i K' a w
def SayO (P:Program) (fid:FuncId→Option Nat) (l:List SOp) (st:St) (Q:St→Prop):Prop:=∀ (ops:Array Oper) (idx:List Nat) (fr0 fr:Nat→Prop) (w0:World) (nt:Nat) (m:Mem) (a:Act) (w:World) (ro:Option Nat) (QQ:Exit→Act→World→Prop),idx.length=l.length →
 (∀ (k i:Nat) (so:SOp),idx[k]? = some i→l[k]? = some so→∃ o,ops[i]? = some o∧csop P fid nt ops o=some so.base)→SInv P fid fr0 fr w0 nt m st a w →
 (∀ st' m' a' w',Q st'→Fwd fr st.lo m m'→st'.lo=st.lo→SInv P fid fr0 fr w0 nt m' st' a' w'→QQ .normal a' w')→wpOpsIn (FF ro) 0 P ops QQ idx a w
def RawOkN (P:Program) (fid:FuncId→Option Nat) (f:FuncId) (as:List AV) (hp:List Blk) (Q:AV→List Blk→Prop):Prop:=
 ∀ (fr:Nat→Prop) w0 m w (args:Array Value),m.P=P→m.cd=fid→HInv fr w0 m hp w []→CL m as (fun i=>args[i]?)→args.size=as.length →
  CallsIn Fence.wide 0 P f args w fun e w'=>∃ v hp' u m',Q v hp'∧e=.returned u∧Fwd fr hp.length m m'∧HInv fr w0 m' hp' w' []∧R m' w' v u []
def SayC (P:Program) (fid:FuncId→Option Nat) (k:Nat) (as:List AV) (hp:List Blk) (Q:AV→List Blk→Prop):Prop:=∀ f,fid f=some k→FnThere P f∧RawOkN P fid f as hp Q
section
variable {P:Program} {fid:FuncId→Option Nat} {T:Nat→Option Entry}
theorem SayS.mono {s:Stmt} {st:St} {Q Q':AX→St→Prop} (h:SayS P fid s st Q) (hq:∀ x st',Q x st'→Q' x st'):SayS P fid s st Q':=by
 intro c fr0 fr w0 nt m a w ro hc hro S
 refine wpIn_mono (h c fr0 fr w0 nt m a w ro hc hro S) ?_
 rintro ex a1 w1 ⟨x,st',h1,h2⟩
 exact ⟨x,st',hq _ _ h1,h2⟩
theorem SayO.mono {l:List SOp} {st:St} {Q Q':St→Prop} (h:SayO P fid l st Q) (hq:∀ st',Q st'→Q' st'):SayO P fid l st Q':=by
 intro ops idx fr0 fr w0 nt m a w ro QQ h1 h2 S h3
 exact h ops idx fr0 fr w0 nt m a w ro QQ h1 h2 S fun st' m' a' w' k=>h3 st' m' a' w' (hq _ k)
theorem SayC.mono {k:Nat} {as:List AV} {hp:List Blk} {Q Q':AV→List Blk→Prop} (h:SayC P fid k as hp Q) (hq:∀ v hp',Q v hp'→Q' v hp'):SayC P fid k as hp Q':=by
 intro f hf
 obtain ⟨h1,h2⟩:=h f hf
 refine ⟨h1,fun fr w0 m w args a1 a2 a3 a4 a5=>(h2 fr w0 m w args a1 a2 a3 a4 a5).mono ?_⟩
 rintro e w' ⟨v,hp',u,m',k1,k2⟩
 exact ⟨v,hp',u,m',hq _ _ k1,k2⟩
theorem S_det (G:Good P fid T) {s:Stmt} {st:St} {Q:AX→St→Prop} (h:Ev T s st Q):SayS P fid s st Q:=by
 obtain ⟨r,hr,hq⟩:=h
 obtain ⟨n,hn⟩:=run_some.1 hr
 have hs:=says G n _ _ hn
 intro c fr0 fr w0 nt m a w ro hc hro S
 refine wpIn_mono (hs c fr0 fr w0 nt m a w ro hc hro S) ?_
 intro ex a1 w1 h
 exact ⟨r.1,r.2,hq,h⟩
theorem S_seq {x y:Stmt} {st:St} {Q:AX→St→Prop} (h:SayS P fid x st (fun e st'=>thn e (SayS P fid y st' Q) (Q e st'))):SayS P fid (.seq x y) st Q:=by
 intro c fr0 fr w0 nt m a w ro hc hro S
 obtain ⟨cx,cy,rfl,hx,hy⟩:=cc_seq hc
 have hrx:ro=none∨rangeless cx=true:=hro.imp_right fun h=>by simp only [rangeless,Bool.and_eq_true] at h;exact h.1
 have hry:ro=none∨rangeless cy=true:=hro.imp_right fun h=>by simp only [rangeless,Bool.and_eq_true] at h;exact h.2
 refine wpIn_seq (wpIn_mono (h _ fr0 fr w0 nt m a w ro hx hrx S) ?_)
 rintro ex a1 w1 ⟨e,st',hq,rfl,fr1,w1',m1,hW1,hF1,hlo1,S1⟩
 cases e with
 |normal=>
  refine wpIn_mono (hq _ fr0 fr1 w1' nt m1 a1 w1 ro hy hry S1) ?_
  rintro ex a2 w2 ⟨e2,st2,q2,hp⟩
  exact ⟨e2,st2,q2,hp.after hW1 hF1 hlo1⟩
 |exit id=>exact ⟨_,_,hq,rfl,fr1,w1',m1,hW1,hF1,hlo1,S1⟩
 |ret=>exact ⟨_,_,hq,rfl,fr1,w1',m1,hW1,hF1,hlo1,S1⟩
theorem S_ops {l:List SOp} {st:St} {Q:AX→St→Prop} (h:SayO P fid l st (Q .normal)):SayS P fid (.ops false l) st Q:=by
 intro c fr0 fr w0 nt m a w ro hc hro S
 obtain ⟨id,ops,rfl,k1,k2,hd⟩:=cc_ops hc
 have hx:∀ (k i:Nat) (so:SOp),(List.range ops.size)[k]? = some i→l[k]? = some so→∃ o,ops[i]? = some o∧csop P fid nt ops o=some so.base:=by
  intro k i so hi hso
  obtain ⟨o,ho,hcs⟩:=k2 k so hso
  have:i=k:=by
   have hk:=(List.getElem?_eq_some_iff.1 hi).1
   rw [List.getElem?_range (by simpa using hk)] at hi
   injection hi with hi;exact hi.symm
  subst this
  exact ⟨o,ho,hcs⟩
 refine wpIn_region ?_
 refine h ops (List.range ops.size) fr0 fr w0 nt m a w ro _ (by simp [k1]) hx S ?_
 intro st' m' a' w' hq hF hlo S'
 exact ⟨.normal,st',hq,rfl,fr,w0,m',Wid.refl _ _,hF,hlo,S'⟩
theorem S_block {id:Nat} {b:Stmt} {st:St} {Q:AX→St→Prop} (h:SayS P fid b st (fun x st'=>Q (unx id x) st')):SayS P fid (.block id b) st Q:=by
 intro c fr0 fr w0 nt m a w ro hc hro S
 obtain ⟨cb,rfl,hx⟩:=cc_block hc
 refine wpIn_block (wpIn_mono (h _ fr0 fr w0 nt m a w ro hx hro S) ?_)
 rintro ex a1 w1 ⟨e,st',hq,rfl,hh⟩
 cases e with
 |normal=>exact ⟨.normal,st',hq,rfl,hh⟩
 |ret=>exact ⟨.ret,st',hq,rfl,hh⟩
 |exit id'=>
  show (if id'=_ then _ else _)
  split
  ·rename_i hid
   subst hid
   rw [unx_exit] at hq
   exact ⟨.normal,st',hq,rfl,hh⟩
  ·rename_i hid
   rw [unx_miss hid] at hq
   exact ⟨.exit id',st',hq,rfl,hh⟩
theorem S_ghost {g:SG} {b:Stmt} {st st1:St} {Q:AX→St→Prop} (hg:ghost g st=some st1) (h:SayS P fid b st1 Q):SayS P fid (.ghost g b) st Q:=by
 intro c fr0 fr w0 nt m a w ro hc hro S
 obtain ⟨m1,hF1,S1,hlo1⟩:=ghost_ok S hg
 refine wpIn_mono (h c fr0 fr w0 nt m1 a w ro (cc_ghost hc) hro S1) ?_
 rintro ex a2 w2 ⟨e,st',hq,hp⟩
 exact ⟨e,st',hq,hp.after (Wid.refl _ _) hF1 hlo1⟩
theorem S_after {g:SG} {b:Stmt} {st:St} {Q:AX→St→Prop} (h:SayS P fid b st (fun x st'=>thn x (∃ st2,ghost g st'=some st2∧Q .normal st2) (Q x st'))):SayS P fid (.after b g) st Q:=by
 intro c fr0 fr w0 nt m a w ro hc hro S
 refine wpIn_mono (h c fr0 fr w0 nt m a w ro (cc_after hc) hro S) ?_
 rintro ex a1 w1 ⟨e,st',hq,rfl,fr1,w1',m1,hW1,hF1,hlo1,S1⟩
 cases e with
 |normal=>
  obtain ⟨st2,h3,hq⟩:=hq
  obtain ⟨m2,hF2,S2,hlo2⟩:=ghost_ok S1 h3
  exact ⟨.normal,st2,hq,rfl,fr1,w1',m2,hW1,hF1.trans ((hF2.sub hW1.sub (Nat.le_of_eq hlo1.symm))),hlo2.trans hlo1,S2⟩
 |exit id=>exact ⟨_,_,hq,rfl,fr1,w1',m1,hW1,hF1,hlo1,S1⟩
 |ret=>exact ⟨_,_,hq,rfl,fr1,w1',m1,hW1,hF1,hlo1,S1⟩
theorem roundsIn_le {F:Fence} {n:Nat} {P:Program} {c:Code} {Q:Exit→Act→World→Prop}:∀ {k l:Nat} {a:Act} {w:World},k≤l→Code.roundsIn F n P c Q k a w→Code.roundsIn F n P c Q l a w:=by
 intro k
 induction k with
 |zero=>intro l a w _ h;exact h.elim
 |succ k ih=>
  intro l a w hl h
  obtain ⟨l,rfl⟩:∃ l',l=l'+1:=⟨l - 1,by omega⟩
  rw [roundsIn_succ] at h ⊢
  refine wpIn_mono h ?_
  intro e a w h
  cases e<;>first | exact ih (by omega) h | exact h
theorem S_loop {b:Stmt} {Q:AX→St→Prop} (I:Nat→St→Prop) (hI:∀ n st,I n st→SayS P fid b st (fun x st'=>thn x (∃ n',n'<n∧I n' st') (Q x st'))) {n:Nat} {st:St} (h:I n st):SayS P fid (.loop b) st Q:=by
 have key:∀ n st,I n st→∀ c fr0 fr w0 nt m a w ro,CodeS P fid nt c b→(ro=none∨rangeless c=true)→SInv P fid fr0 fr w0 nt m st a w →
   Code.roundsIn (FF ro) 0 P c (fun ex a' w'=>∃ x st',Q x st'∧Post P fid fr0 fr w0 nt m st.lo (x,st') ex a' w') (n+1) a w:=by
  intro n
  induction n using Nat.strongRecOn with
  |_ n ih=>
   intro st h c fr0 fr w0 nt m a w ro hc hro S
   rw [roundsIn_succ]
   refine wpIn_mono (hI n st h c fr0 fr w0 nt m a w ro hc hro S) ?_
   rintro ex a1 w1 ⟨e,st',hq,rfl,fr1,w1',m1,hW1,hF1,hlo1,S1⟩
   cases e with
   |normal=>
    obtain ⟨n',hn,hi⟩:=hq
    refine roundsIn_mono ?_ n a1 w1 (roundsIn_le (by omega) (ih n' hn st' hi c fr0 fr1 w1' nt m1 a1 w1 ro hc hro S1))
    rintro ex a2 w2 ⟨e2,st2,q2,hp⟩
    exact ⟨e2,st2,q2,hp.after hW1 hF1 hlo1⟩
   |exit id=>exact ⟨_,_,hq,rfl,fr1,w1',m1,hW1,hF1,hlo1,S1⟩
   |ret=>exact ⟨_,_,hq,rfl,fr1,w1',m1,hW1,hF1,hlo1,S1⟩
 intro c fr0 fr w0 nt m a w ro hc hro S
 obtain ⟨cb,rfl,hx⟩:=cc_loop hc
 exact wpIn_loop_rounds (n+1) (key n st h cb fr0 fr w0 nt m a w ro hx hro S)
theorem O_cons {so:SOp} {l:List SOp} {st:St} {Q:St→Prop} (h:SayP P fid so st (fun v hp'=>SayO P fid l (st.put so.dst v hp') Q)):SayO P fid (so::l) st Q:=by
 intro ops idx fr0 fr w0 nt m a w ro QQ hl hx S hQ
 cases idx with
 |nil=>simp at hl
 |cons i idx=>
  obtain ⟨o,ho,hcs⟩:=hx 0 i so (by simp) (by simp)
  rw [wpOpsIn_cons]
  obtain ⟨_,e2,e3,_⟩:=csop_ok hcs
  refine h ops i o nt fr w0 m a w ro _ _ S.P S.cd hcs ho S.h S.e ?_
  intro v hp' m' u w' hO hE hC HH
  rw [←e2]
  have S':=S.put hE hC HH (d:=so.dst) (by rw [e2];exact e3)
  have hlo:(st.put so.dst v hp').lo=st.lo:=by unfold St.put;split<;>rfl
  refine hO ops idx fr0 fr w0 nt m' _ w' ro QQ (by simpa using hl) (fun k j so' h1 h2=>hx (k+1) j so' (by simpa using h1) (by simpa using h2)) S' ?_
  intro st2 m2 a2 w2 hq f2 e S2
  exact hQ st2 m2 a2 w2 hq ((hE.fwd (by rw [S.h.len];exact S.l)).trans (by rw [←hlo];exact f2)) (e.trans hlo) S2
theorem O_det (G:Good P fid T) {l:List SOp} {st:St} {Q:St→Prop} (h:EvO T false l st Q):SayO P fid l st Q:=by
 obtain ⟨r,hr,hq⟩:=h
 obtain ⟨n,hn⟩:=run_some.1 hr
 obtain ⟨h1,h2⟩:=says G n _ _ hn
 intro ops idx fr0 fr w0 nt m a w ro QQ hl hx S hQ
 exact text_ok (fid:=fid) (fr0:=fr0) (fr:=fr) (w0:=w0) (nt:=nt) (st':=r.2) (d:=false) l idx st m a w h2 hl hx S fun m' a' w' hF hlo S'=>hQ r.2 m' a' w' hq hF hlo S'
theorem P_step {so:SOp} {st:St} {K:AV→List Blk→Prop} {v:AV} {hp':List Blk} (h:Step P fid false so st v hp') (hK:K v hp'):SayP P fid so st K:=by
 intro ops i o nt fr w0 m a w ro Q K' hP hcd hcs hi H E h3
 exact step_ok hP hcd hcs hi H E h fun m' u w' hE hC HH=>h3 v hp' m' u w' hK hE hC HH
theorem P_astep {t:Option Nat} {op:SO} {st:St} {K:AV→List Blk→Prop} {r:AV × List Blk} (h:astep st.hp st.ev op=some r) (hK:K r.1 r.2):SayP P fid ⟨t,op,none⟩ st K:=
 P_step (.op rfl h) hK
theorem cop_next {op:Op} {x:SX} (h:cop P fid op=some (.next x)):∃ x',op=.next x' false∧opd fid x'=some x:=by
 cases op with
 |next y b=>
  cases b
  ·simp only [cop,omI,SO.next.injEq] at h
   obtain ⟨z,hz,rfl⟩:=h
   exact ⟨y,rfl,hz⟩
  ·simp [cop] at h
 |call c=>
  exfalso
  simp only [cop] at h
  unfold copCall at h
  split at h
  all_goals (repeat' (split at h))
  all_goals (try (simp [obI,omI] at h;done))
  all_goals (try simp only [obI,omI] at h)
  all_goals (repeat (obtain ⟨_,_,h⟩:=h))
  all_goals (repeat' (split at h))
  all_goals (try (simp [obI,omI] at h;done))
  all_goals (first | contradiction | (simp_all;done))
 |_=>
  exfalso
  simp only [cop,reduceCtorEq] at h
  all_goals (repeat' (split at h))
  all_goals (try (simp [obI,omI] at h;done))
  all_goals (try simp only [obI,omI] at h)
  all_goals (repeat (obtain ⟨_,_,h⟩:=h))
  all_goals (repeat' (split at h))
  all_goals (try (simp [obI,omI] at h;done))
  all_goals (first | contradiction | (simp_all;done))
theorem P_next {t:Nat} {x:SX} {st:St} {K:AV→List Blk→Prop} {id mid n:Nat} {seen:List Nat} {ks vs:List AV} (hx:st.ev x=.ref id 0) (hb:st.hp[id]? = some (.it mid n seen)) (hm:st.hp[mid]? = some (.mp ks vs)) (hn:ks.length=n)
  (hover:(∀ i,i<n→i∈seen)→K (.tup [.bool false]) st.hp) (hone:∀ i,i<n→i ∉ seen→K (.tup [.bool true,.unk,.unk]) (st.hp.set id (.it mid n (seen++[i])))):SayP P fid ⟨some t,.next x,none⟩ st K:=by
 intro ops i o nt fr w0 m a w ro Q K' hP hcd hcs hi H E h3
 obtain ⟨h1,h2,h4,h5⟩:=csop_ok hcs
 unfold wpOpIn
 rw [hi]
 simp only
 have hab:∀ f,o.about P w a.eval=some f→(FF ro).fn f:=fun _ _=>trivial
 have hsem:o.semAt (FF ro).round a.eval=execOp a.eval o:=Oper.semAt_eq _ _ _ (fun c hc=>by rw [hc] at h1;simp [cop] at h1)
 rw [wanted_ok (b:=true) h5 E rfl,if_pos rfl]
 refine ⟨hab,?_⟩
 rw [hsem]
 have hop:=cop_next h1
 obtain ⟨x',hop,hx'⟩:=hop
 have k1:=opd_ok (st:=st) hcd hx' E
 rw [hx] at k1
 simp only [C] at k1
 obtain ⟨e,he,g,heg,hu⟩:=k1
 obtain ⟨g',em,bm,q1,q2,q3,q4,q5⟩:=H.blk id _ e hb he
 rw [heg] at q1;injection q1 with q1;subst q1
 obtain ⟨g2,es,f',r1,r2,r3,r4,r5,r6,r7,r8⟩:=H.blk mid _ em hm q3
 rw [q4] at r1;injection r1 with r1;subst r1
 have hes:es.size=n:=by rw [←r4];exact hn
 have hold:∀ x∈es.toList,x.born<n:=by
  intro x hx
  obtain ⟨j,hj⟩:=List.getElem?_of_mem hx
  rw [Array.getElem?_toList] at hj
  rw [r8 j x hj,←hes]
  exact (Array.getElem?_eq_some_iff.1 hj).1
 have hmem:∀ x,x∈(leftOf es seen.toArray).toList↔x∈es.toList∧x.born ∉ seen:=by
  intro x
  simp [leftOf]
 rcases run_next_at (P:=P) w o.type g bm n n seen.toArray es es.size q5 r3 hold (Nat.le_refl _) with ⟨z1,z2⟩ | ⟨x0,hx0,w1,hw1,z2⟩
 ·have hr:(execOp a.eval o).run P w=.ok (.value (.tuple #[.bool false])) w:=by simp [execOp,hop,hu,z2]
  rw [hr]
  refine h3 _ _ m _ w (hover fun j hj=>?_) (Ext.refl fr m) (by simp only [C];exact ⟨_,rfl,rfl,by simp [CL,C]⟩) H
  refine Classical.byContradiction fun hns=>?_
  have hj':j<es.size:=by omega
  have:es[j]∈(leftOf es seen.toArray).toList:=(hmem _).2 ⟨by simp,by rw [r8 j es[j] (Array.getElem?_eq_getElem hj')];exact hns⟩
  rw [show leftOf es seen.toArray=#[] from Array.eq_empty_of_size_eq_zero z1] at this
  simp at this
 ·obtain ⟨hx1,hx2⟩:=(hmem _).1 hx0
  obtain ⟨j,hj⟩:=List.getElem?_of_mem hx1
  rw [Array.getElem?_toList] at hj
  have hborn:=r8 j x0 hj
  have hjn:j<n:=by rw [←hes];exact (Array.getElem?_eq_some_iff.1 hj).1
  have hr:(execOp a.eval o).run P w=.ok (.value (.tuple #[.bool true,x0.key,x0.val])) (w1.putObj g (.mapIter (some bm) n (seen.toArray.push x0.born) es.size)):=by
   simp only [execOp,hop,hu,Sem.run_bind,z2,Result.andThen_ok]
   simp;rfl
  rw [hr]
  have H1:HInv fr w0 m st.hp w1 []:=by rcases hw1 with rfl | rfl;exact H;exact H.drew
  have hh1:w1.heap=w.heap:=by rcases hw1 with rfl | rfl<;>rfl
  have hgs:g<w1.heap.size:=by rw [hh1];exact (Array.getElem?_eq_some_iff.1 q5).1
  have H2:=H1.putLoop (g:=g) (b:=.it mid n (seen++[j])) (o:=.mapIter (some bm) n (seen.toArray.push x0.born) es.size) he q2 ⟨g,em,bm,heg,rfl,q3,q4,by rw [World.putObj_heap_same hgs,hborn,hes];simp⟩
  refine h3 _ _ _ _ _ (hone j hjn (by rw [←hborn];exact hx2)) (ext_fp _) ?_ H2
  simp only [C]
  exact ⟨_,rfl,rfl,by simp [CL,C]⟩
theorem P_all {t:Nat} {k:Nat} {as:List SX} {st:St} {K:AV→List Blk→Prop} (h:SayC P fid k (as.map st.ev) st.hp (fun v hp'=>K (thaw hp' v).1 (thaw hp' v).2)):SayP P fid ⟨some t,.call .all k as,none⟩ st K:=by
 intro ops i o nt fr w0 m a w ro Q K' hP hcd hcs hi H E h3
 obtain ⟨h1,h2,h4,h5⟩:=csop_ok hcs
 unfold wpOpIn
 rw [hi]
 simp only
 have hab:∀ f,o.about P w a.eval=some f→(FF ro).fn f:=fun _ _=>trivial
 have hdep:(FF ro).depth.isSome=true→1≤0:=fun h=>by simp [FF,Fence.wide] at h
 have hsem:o.semAt (FF ro).round a.eval=execOp a.eval o:=Oper.semAt_eq _ _ _ (fun c hc=>by rw [hc] at h1;simp [cop] at h1)
 rw [wanted_ok (b:=true) h5 E rfl,if_pos rfl]
 refine ⟨hab,?_⟩
 rw [hsem]
 obtain ⟨f,args,ats,hoo,hfk,has⟩:=cop_call h1
 obtain ⟨c1,c2⟩:=opds_ok (st:=st) hcd args.toList as has E
 obtain ⟨t1,t2⟩:=h f hfk
 rw [exec_call w hoo t1,Oper.uponIn_enter]
 refine ⟨hdep,(callsFF (t2 fr w0 m w (args.map a.eval) hP hcd H (by simpa using c1) (by simp [c2]))).mono ?_⟩
 rintro e w' ⟨v,hp',u,m',hq,rfl,hF,HH,hR⟩
 obtain ⟨m2,E2,H2,C2⟩:=thawed HH hR
 exact h3 _ _ m2 u w' hq ((ext_of_fwd H hF).trans E2) C2 H2
theorem C_fn (G:Good P fid T) {k:Nat} {as:List AV} {hp:List Blk} {d:FnDef} {Q:AV→List Blk→Prop} (hT:T k=some (.fn d))
  (hs:SayS P fid d.body ⟨bindParams 0 as,hp,hp.length,[]⟩ (fun x st'=>(∀ id,x≠.exit id)∧∃ ru,results st'.env st'.hp d.res=some ru∧Q ru (still st'.hp (rsIds st'.env st'.hp d.res)))):SayC P fid k as hp Q:=by
 intro f hf
 obtain ⟨fn,c,h1,h2,h3,h4,h5,h6⟩:=G f k _ hf hT
 refine ⟨⟨fn,h1,by rw [h2];rfl,h3⟩,?_⟩
 intro fr w0 m w args hP hcd H hC hsz
 refine callsIn_of_wp_marks h1 h2 trivial ?_
 have S:SInv P fid fr fr w0 d.nt m ⟨bindParams 0 as,hp,hp.length,[]⟩ { tmps:=args++Array.replicate (fn.ntmps - args.size) undef,defers:=[] } w:=
  ⟨hP,hcd,H,env_params hC hsz _,by simp;omega,⟨fun _ h=>h,[],rfl,by simp,by simp⟩,Nat.le_refl _⟩
 refine wpIn_mono (hs c fr fr w0 d.nt m _ w none h4 (.inl rfl) S) ?_
 rintro ex a' w' ⟨x,st',⟨hx,ru,hres,hq⟩,rfl,fr',w1,m',hW,hF,hlo,S'⟩
 obtain ⟨hsub,M,hM,hMn,hMm⟩:=S'.d
 have hMw:∀ r∈M,w'.heap[r]? = some (.deferred (some [])):=fun q hq=>by rw [(S'.h.fix q (hMm q hq).1).2];exact (hMm q hq).2.2
 have hb:LeavesInM Fence.wide 0 P fn a'.tmps (fun e w''=>∃ v hp' u m',Q v hp'∧e=.returned u∧Fwd fr hp.length m m'∧HInv fr w0 m' hp' w'' []∧R m' w'' v u []) a'.defers .returning w':=by
  refine leaves_ok a'.defers M w' hM hMn hMw ?_
  intro w2 e1 e2 e3 e4 e5
  have H2:HInv fr w0 m' st'.hp w2 []:=S'.h.narrow hW e1 e2 e3 e4 (fun g hne=>by
   have hgM:g∈M:=Classical.byContradiction fun h=>hne (e5 g h)
   exact ⟨(hMm g hgM).1,(hMm g hgM).2.1,fun o=>by simp [World.cell?,hMw g hgM]⟩)
  obtain ⟨v,hv1,hv2⟩:=results_ok (P:=P) H2 S'.e h5 hres
  obtain ⟨m3,E3,H3⟩:=H2.still (rsIds st'.env st'.hp d.res)
  have hl:hp.length≤m'.bl.length:=by
   have:=S'.l
   rw [hlo] at this
   rw [H2.len];exact this
  exact ⟨v,hv1,ru,_,v,m3,hq,rfl,hF.trans (E3.fwd hl),H3,R_mono E3.le (fun _ _=>rfl) hv2⟩
 cases x with
 |normal=>exact hb
 |ret=>exact hb
 |exit id=>exact absurd rfl (hx id)
theorem C_ok {k:Nat} {as:List AV} {hps:List Blk} {r:AV × List Blk} (h:SayC P fid k as hps (fun v hp'=>fin hps.length hp' v=some r)) {f:FuncId} (hf:fid f=some k):FnThere P f∧CallOk P fid f as hps r:=by
 obtain ⟨h1,h2⟩:=h f hf
 refine ⟨h1,fun fr w0 m w args a1 a2 a3 a4 a5=>(h2 fr w0 m w args a1 a2 a3 a4 a5).mono ?_⟩
 rintro e w' ⟨v,hp',u,m',hf,rfl,F',H',hR⟩
 have hP:=a1
 simp only [fin,obI] at hf
 obtain ⟨hp1,ht,q,hpk,hf⟩:=hf
 split at hf
 ·rename_i hc
  obtain ⟨hn,hid,hh⟩:=hc
  injection hf with hf;subst hf
  obtain ⟨m1,E1,_,hbl1,H1,hl1⟩:=tidy_ok _ 0 ht H'
  obtain ⟨m2,f',E2,_,hbl2,H2,hR2,hl2⟩:=pk_ok (f0:=[]) (f:=[]) v hpk (by simpa using H1) (R_mono E1.le (fun _ _=>rfl) hR)
  have H3:=HInv.trim (by simpa using H2) hn hh
  have hblm:m2.bl.take hps.length=m.bl:=by
   rw [hbl2,hbl1]
   apply List.ext_getElem?
   intro k
   rw [List.getElem?_take]
   split
   ·rename_i hk;exact F'.bl k hk
   ·rename_i hk;rw [List.getElem?_eq_none (by rw [a3.len];omega)]
  have F2:=(F'.trans (E1.fwd (by rw [H'.len,←hl1,←hl2];exact hn))).trans (E2.fwd (by rw [H1.len,←hl2];exact hn))
  refine ⟨u,{ m2 with bl:=m2.bl.take hps.length,fp:=fun k=>if k<hps.length then m2.fp k else [] },f',rfl,⟨⟨F2.P,F2.cd,F2.im,fun id e he=>by rw [←hblm] at he;exact he⟩,F2.low⟩,hblm,H3,?_⟩
  have:=R_sim (r:=id) (m:=m2) (m':={ m2 with bl:=m2.bl.take hps.length,fp:=fun k=>if k<hps.length then m2.fp k else [] }) (w:=w') (w':=w') q.1 u f' ⟨rfl,rfl,fun _ _ _ h=>h,fun i hi e he=>by
   show (m2.bl.take hps.length)[i]? = some e
   rw [List.getElem?_take,if_pos (idlt_ids _ hid i hi)];exact he⟩ (fun _ _=>rfl) hR2
  rwa [ren_id] at this
 ·cases hf
end
end Go.Proofs.Ytfbfbennheeglaa
