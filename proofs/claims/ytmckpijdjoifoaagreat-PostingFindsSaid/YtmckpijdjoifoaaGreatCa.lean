import Derived.Test.YtmckpijdjoifoaaGreatKx
import Derived.Test.YtmckpijdjoifoaaGreatNe
import Derived.Test.YtmckpijdjoifoaaGreatT05z
import Derived.Test.YtmckpijdjoifoaaGreatAs
namespace Go.Proofs.YtmckpijdjoifoaaGreat
set_option linter.unusedSimpArgs false
set_option linter.unusedVariables false
def TLe (T T':Nat→Option Entry):Prop:=∀ k e,T k=some e→T' k=some e
section
variable {T T':Nat→Option Entry}
theorem callRes_up (h:TLe T T') {f:Job→Option Res} {k:Nat} {as:List AV} {hps:List Blk} {r:AV × List Blk} (hr:callRes f T k as hps=some r):callRes f T' k as hps=some r:=by
 unfold callRes at hr ⊢
 cases hT:T k with
 |none=>rw [hT] at hr;cases hr
 |some e=>rw [hT] at hr;rw [h k e hT];exact hr
theorem callOp_up (h:TLe T T') {f:Job→Option Res} {dr:Bool} {md:Md} {k:Nat} {vs:List AV} {d:Option Nat} {st:St} {r:Res} (hr:callOp f T dr md k vs d st=some r):callOp f T' dr md k vs d st=some r:=by
 cases md with
 |plain=>
  simp only [callOp,obI] at hr ⊢
  obtain ⟨ps,h1,x,h2,h3⟩:=hr
  exact ⟨ps,h1,x,callRes_up h h2,h3⟩
 |quiet=>
  simp only [callOp,obI] at hr ⊢
  obtain ⟨ps,h1,x,h2,h3⟩:=hr
  exact ⟨ps,h1,x,callRes_up h h2,h3⟩
 |mem=>
  simp only [callOp,obI] at hr ⊢
  obtain ⟨hps,h1,x,h2,h3⟩:=hr
  exact ⟨hps,h1,x,callRes_up h h2,h3⟩
 |memp=>
  simp only [callOp,obI] at hr ⊢
  obtain ⟨hp1,h0,hps,h1,x,h2,h3⟩:=hr
  exact ⟨hp1,h0,hps,h1,x,callRes_up h h2,h3⟩
 |all=>exact hr
 |allk=>exact hr
theorem F_up (h:TLe T T') {f:Job→Option Res} {j:Job} {r:Res} (hr:F T f j=some r):F T' f j=some r:=by
 rcases j with ⟨s,st⟩ | ⟨d,l,st⟩ | ⟨d,o,st⟩ | ⟨k,as,hp⟩ | ⟨id,vs,hp⟩
 ·cases s<;>exact hr
 ·cases l<;>exact hr
 ·simp only [F,obI] at hr ⊢
  obtain ⟨go,h1,h2⟩:=hr
  refine ⟨go,h1,?_⟩
  cases go
  ·exact h2
  ·simp only [if_true] at h2 ⊢
   generalize hop:o.op=op at h2 ⊢
   cases op
   case call md k as=>exact callOp_up h h2
   case callf md x as=>
    simp only at h2 ⊢
    generalize st.ev x=v at h2 ⊢
    cases v
    case clo=>exact callOp_up h h2
    case yld=>exact h2
    all_goals cases h2
   case invoke md x ms as=>
    simp only at h2 ⊢
    split at h2
    ·rename_i t v hx
     simp only [hx,obI] at h2 ⊢
     obtain ⟨q,h3,r1,h4,h5⟩:=h2
     exact ⟨q,h3,r1,h4,callOp_up h h5⟩
    ·cases h2
   all_goals exact h2
 ·simp only [F] at hr ⊢
  cases hT:T k with
  |none=>rw [hT] at hr;cases hr
  |some e=>rw [hT] at hr;rw [h k e hT];exact hr
 ·exact hr
theorem evn_up (h:TLe T T'):∀ (n:Nat) (j:Job) (r:Res),evn T n j=some r→evn T' n j=some r
 |0,_,_,hr=>by cases hr
 |n+1,j,r,hr=>by
  have h1:F T (evn T n) j=some r:=hr
  have h2:F T (evn T' n) j=some r:=F_mono (evn_up h n) j r h1
  exact F_up h h2
theorem run_up (h:TLe T T') {j:Job} {r:Res} (hr:run T j=some r):run T' j=some r:=by
 obtain ⟨n,hn⟩:=run_some.1 hr
 exact run_some.2 ⟨n,evn_up h n j r hn⟩
theorem runP_up (h:TLe T T') {k:Nat} {as:List AV} {hps:List Blk} {r:AV × List Blk} (hr:runP T k as hps=some r):runP T' k as hps=some r:=
 callRes_up h (callRes_mono (fun j r hj=>run_up h hj) hr)
end
set_option maxHeartbeats 4000000
set_option maxRecDepth 100000
theorem getA0 (hp:List Blk) (x:Blk) (t:List Blk):(hp++x::t)[hp.length]? = some x:=by simp
theorem getA (hp t:List Blk) (k:Nat):(hp++t)[hp.length+k]? = t[k]?:=by rw [List.getElem?_append_right (by omega)];congr 1;omega
theorem setA0 (hp:List Blk) (x y:Blk) (t:List Blk):(hp++x::t).set hp.length y=hp++y::t:=by simp
theorem setA (hp t:List Blk) (k:Nat) (y:Blk):(hp++t).set (hp.length+k) y=hp++t.set k y:=by
 rw [List.set_append_right _ _ (by omega)];congr 2;omega
theorem lenA (hp t:List Blk):(hp++t).length=hp.length+t.length:=List.length_append
theorem tidy_id {n:Nat}:∀ (k i:Nat) {hp:List Blk},(∀ (j:Nat) (b:Blk),j<i+k→hp[j]? = some b→b.idlt n=true)→tidy n hp i k=some hp
 |0,_,_,_=>rfl
 |k+1,i,hp,h=>by
  simp only [tidy]
  have ih:=tidy_id k (i+1) (hp:=hp) (fun j b h1 h2=>h j b (by omega) h2)
  split
  ·rename_i cs hb
   rw [if_pos (by have:=h i _ (by omega) hb;simpa [Blk.idlt] using this)]
   exact ih
  ·exact ih
theorem trim_id {n:Nat} {env:List (Nat × AV)} {M t:List Blk} {lo:Nat} {mks:List Mark} (hM:M.all (fun b=>b.idlt n)=true) (hn:M.length=n) (he:(env.all fun p=>idlt n p.2)=true) (hl:lo≤n):trim n ⟨env,M++t,lo,mks⟩=some ⟨env,M,lo,mks⟩:=by
 have ht:tidy n (M++t) 0 n=some (M++t):=tidy_id n 0 fun j b h1 h2=>by
  rw [List.getElem?_append_left (by omega)] at h2
  exact List.all_eq_true.1 hM b (List.mem_of_getElem? h2)
 have htk:(M++t).take n=M:=by rw [←hn,List.take_left'];rfl
 unfold trim
 simp only [ht,Option.bind_some,htk]
 rw [if_pos ⟨hl,by simp;omega,he,hM⟩]
theorem fin_id {n:Nat} {hp':List Blk} {v x:AV} {M t:List Blk} (hM:M.all (fun b=>b.idlt n)=true) (hn:M.length=n) (hp1:hp'=M++t) {t':List Blk} (hv:pk n hp' v=some (x,M++t')) (hx:idlt n x=true):fin n hp' v=some (x,M):=by
 have ht:tidy n hp' 0 n=some hp':=tidy_id n 0 fun j b h1 h2=>by
  rw [hp1,List.getElem?_append_left (by omega)] at h2
  exact List.all_eq_true.1 hM b (List.mem_of_getElem? h2)
 have htk:(M++t').take n=M:=by rw [←hn,List.take_left'];rfl
 unfold fin
 simp only [ht,hv,Option.bind_some,htk]
 rw [if_pos ⟨by simp;omega,hx,hM⟩]
mutual
theorem allv_imp {p q:AV→Bool} (h:∀ x,p x=true→q x=true):∀ x:AV,x.allv p=true→x.allv q=true
 | .sl _ cs,k | .ip cs,k | .vec _ cs,k | .box cs,k | .agg cs,k | .tup cs,k=>by
  simp only [AV.allv,Bool.and_eq_true] at k ⊢
  exact ⟨h _ k.1,allL_imp h cs k.2⟩
 | .mp a b,k | .clo _ a b,k=>by
  simp only [AV.allv,Bool.and_eq_true] at k ⊢
  exact ⟨h _ k.1,allL_imp h a k.2.1,allL_imp h b k.2.2⟩
 | .ifc t v,k=>by
  simp only [AV.allv,Bool.and_eq_true] at k ⊢
  exact ⟨h _ k.1,allv_imp h v k.2⟩
 | .own _ _,k | .osl _ _ _ _,k | .ref _ _,k | .mref _,k | .yld _,k | .unk,k | .any,k | .maybe _ _,k | .bool _,k | .int _ _,k | .str _,k | .nils,k | .nilp,k | .nilf,k | .nili,k | .nilm,k=>by
  simp only [AV.allv] at k ⊢
  exact h _ k
theorem allL_imp {p q:AV→Bool} (h:∀ x,p x=true→q x=true):∀ l:List AV,allL p l=true→allL q l=true
 | [],_=>rfl
 |x::xs,k=>by
  simp only [allL,Bool.and_eq_true] at k ⊢
  exact ⟨allv_imp h x k.1,allL_imp h xs k.2⟩
end
theorem pidlt_up {n m:Nat} (h:n≤m) (x:AV) (k:pidlt n x=true):pidlt m x=true:=by
 cases x<;>simp only [pidlt,decide_eq_true_eq] at k ⊢<;>omega
theorem idlt_up {n m:Nat} (h:n≤m) {b:Blk} (hb:b.idlt n=true):b.idlt m=true:=by
 cases b with
 |dead=>rfl
 |row fr cs=>exact allL_imp (pidlt_up h) cs hb
 |mp ks vs=>
  simp only [Blk.idlt,Bool.and_eq_true] at hb ⊢
  exact ⟨allL_imp (pidlt_up h) ks hb.1,allL_imp (pidlt_up h) vs hb.2⟩
 |it mid k seen=>simp only [Blk.idlt,decide_eq_true_eq] at hb ⊢;omega
 |lp st env ps asg body j=>
  simp only [Blk.idlt,List.all_eq_true] at hb ⊢
  exact fun p hp=>allv_imp (pidlt_up h) p.2 (hb p hp)
theorem allidlt_up {n m:Nat} (h:n≤m) {M:List Blk} (hM:M.all (fun b=>b.idlt n)=true):M.all (fun b=>b.idlt m)=true:=by
 rw [List.all_eq_true] at hM ⊢
 exact fun b hb=>idlt_up h (hM b hb)
section
variable {P:Program} {hp:List Blk} {b id:Nat} {fr:Bool} {l:List Txt} {vs:List AV}
def tabN:Nat→Option Entry:=fun k=>if k=1556 then some (.fn d1556) else if k=1562 then some (.fn d1562) else if k=1564 then some (.fn d1564) else if k=1569 then some (.fn d1569) else tab k
theorem u1556:tabN 1556=some (.fn d1556):=rfl
theorem u1562:tabN 1562=some (.fn d1562):=rfl
theorem u1564:tabN 1564=some (.fn d1564):=rfl
theorem u1569:tabN 1569=some (.fn d1569):=rfl
theorem tabN_le:TLe tab tabN:=by
 intro k e h
 unfold tabN
 split
 ·rename_i hk;subst hk;rw [nd1556] at h;cases h
 ·split
  ·rename_i hk;subst hk;rw [nd1562] at h;cases h
  ·split
   ·rename_i hk;subst hk;rw [nd1564] at h;cases h
   ·split
    ·rename_i hk;subst hk;rw [nd1569] at h;cases h
    ·exact h
def apE (n b:Nat):List (Nat × AV):=[(2,.ref n 0),(4,.nils),(6,.clo 1564 [] [.ref b 0])]
def apL (n b:Nat):Blk:=.lp 0 (apE n b) [7] d1569_r0a d1569_r0 .normal
def apM (hp:List Blk) (b:Nat) (acc:List Txt) (t:List Blk):List Blk:=hp++.row false [.vec 1 (strs acc)]::apL hp.length b::t
theorem ap_round (b:Nat) (acc:List Txt) (x:Txt) (y:Blk) (ha:acc.length≤100000):EvR tabN (hp.length+1) [.str x] (apM hp b acc [y]) (fun v hp'=>v=.bool true∧hp'=apM hp b (acc++[x]) [y,.dead,.dead]):=by
 have e1:(apM hp b acc [y])[hp.length+1]? = some (apL hp.length b):=by unfold apM;rw [getA];rfl
 refine EvR_eq e1 rfl ?_
 have L:=strs_length acc
 simp (disch:=omega) only [go_sem,d1569_r0a,d1569_r0,apM,apL,apE,getA0,getA,setA0,setA,lenA,List.append_assoc,L]
 rw [show strs (acc++[x])=strs acc++[.str x] from by simp [strs]]
theorem apM_all {acc:List Txt} {N:Nat} {seen:List Nat} (hlt:hp.all (fun x=>x.idlt hp.length)=true) (hb:b<hp.length) (hid:id<hp.length):(apM hp b acc [.it id N seen]).all (fun x=>x.idlt (hp.length+3))=true:=by
 unfold apM
 rw [List.all_append,allidlt_up (by omega) hlt]
 simp [Blk.idlt,idltL,allL,AV.allv,pidlt,apL,apE,idlt,strs_idlt']
 omega
theorem EvR_mono {T:Nat→Option Entry} {id:Nat} {vs:List AV} {hp:List Blk} {Q Q':AV→List Blk→Prop} (h:EvR T id vs hp Q) (hq:∀ v hp',Q v hp'→Q' v hp'):EvR T id vs hp Q':=by
 obtain ⟨r,h1,h2⟩:=h
 exact ⟨r,h1,hq _ _ h2⟩
theorem keys_loop (G:Good P fid tabN) (hb:hp[b]? = some (.row fr [.mref id])) (hm:hp[id]? = some (.mp (strs l) vs)) (hlt:hp.all (fun x=>x.idlt hp.length)=true) (hl:l.length≤60000) (hvl:vs.length=l.length) {lo:Nat} (hlo:lo≤hp.length+3) {mk0:List Mark}:
  SayS P fid (.loop d1564_b0) ⟨[(0,.yld (hp.length+1)),(5,.ref (hp.length+2) 0)],apM hp b [] [.it id l.length []],lo,(0,hp.length+3,[0,5],[(0,hp.length+1),(5,hp.length+2)])::mk0⟩
   (fun e st=>e=.exit 0∧∃ acc seen,acc.Perm l∧st.hp=apM hp b acc [.it id l.length seen]∧st.lo=lo):=by
 have hbl:b<hp.length:=(List.getElem?_eq_some_iff.1 hb).1
 have hil:id<hp.length:=(List.getElem?_eq_some_iff.1 hm).1
 refine S_loop (fun k st=>∃ seen:List Nat,seen.Nodup∧(∀ i∈seen,i<l.length)∧k=l.length - seen.length∧st=⟨[(0,.yld (hp.length+1)),(5,.ref (hp.length+2) 0)],apM hp b (seen.map fun i=>l.getD i []) [.it id l.length seen],lo,(0,hp.length+3,[0,5],[(0,hp.length+1),(5,hp.length+2)])::mk0⟩) ?_ ⟨[],List.nodup_nil,by simp,rfl,rfl⟩
 rintro k st ⟨seen,hnd,hin,rfl,rfl⟩
 have hsl:seen.length≤l.length:=by simpa using hnd.length_le_of_subset (l₂:=List.range l.length) fun i hi=>List.mem_range.2 (hin i hi)
 unfold d1564_b0
 refine S_after (S_seq (S_ops (O_cons (P_next (id:=hp.length+2) (mid:=id) (n:=l.length) (seen:=seen) (ks:=strs l) (vs:=vs) rfl ?_ ?_ (strs_length l) ?_ ?_))))
 ·show (apM _ _ _ _)[_]? = _
  unfold apM;rw [getA];rfl
 ·show (apM _ _ _ _)[_]? = _
  unfold apM;rw [List.getElem?_append_left hil];exact hm
 ·intro hall
  have hperm:(seen.map fun i=>l.getD i []).Perm l:=by
   have h1:seen.Perm (List.range l.length):=by
    refine (List.perm_ext_iff_of_nodup hnd List.nodup_range).2 fun i=>?_
    rw [List.mem_range]
    exact ⟨hin i,hall i⟩
   have h2:(List.range l.length).map (fun i=>l.getD i [])=l:=by
    apply List.ext_getElem (by simp)
    intro i h1 h2
    simp [List.getD_eq_getElem?_getD,List.getElem?_eq_getElem h2]
   exact (h1.map fun i=>l.getD i []).trans (by rw [h2])
  refine O_det G ?_
  simp (disch:=omega) only [go_sem,St.put]
  refine S_det G ?_
  simp (disch:=omega) only [go_sem]
  exact ⟨_,_,hperm,rfl⟩
 ·intro i hi his
  refine O_det G ?_
  simp (disch:=omega) only [go_sem,St.put]
  have e0:(apM hp b (List.map (fun i=>l.getD i []) seen) [Blk.it id l.length seen]).set (hp.length+2) (Blk.it id l.length (seen++[i]))=apM hp b (List.map (fun i=>l.getD i []) seen) [Blk.it id l.length (seen++[i])]:=by
   unfold apM;rw [setA];rfl
  have e1:∀ acc t,(apM hp b acc t)[id]? = some (.mp (strs l) vs):=fun acc t=>by unfold apM;rw [List.getElem?_append_left hil];exact hm
  have e2:∀ acc x t,(apM hp b acc (x::t))[hp.length+2]? = some x:=fun acc x t=>by unfold apM;rw [getA];rfl
  have e3:(strs l)[i]? = some (.str (l.getD i [])):=by simp [strs,List.getD_eq_getElem?_getD,List.getElem?_eq_getElem hi]
  have hlast:(seen++[i]).getLast? = some i:=by simp
  have L:=strs_length l
  rw [e0]
  obtain ⟨y,hy⟩:∃ y,vs[i]? = some y:=⟨vs[i]'(by omega),List.getElem?_eq_getElem (by omega)⟩
  refine SayS.mono (S_det G (Q:=fun x st'=>x=.normal∧keepEnv st'.env [0,5]=[(0,.yld (hp.length+1)),(5,.ref (hp.length+2) 0)]∧st'.hp=apM hp b ((seen.map fun i=>l.getD i [])++[l.getD i []]) [Blk.it id l.length (seen++[i]),.dead,.dead]∧st'.lo=lo∧st'.mks=(0,hp.length+3,[0,5],[(0,hp.length+1),(5,hp.length+2)])::mk0) ?_) ?_
  ·simp (disch:=omega) only [go_sem,e1,e2,e3,hlast,hy,L]
   refine EvR_mono (ap_round b _ _ _ (by simp;omega)) ?_
   rintro v hp' ⟨rfl,rfl⟩
   simp (disch:=omega) only [go_sem,ylQ]
  have hnd2:(seen++[i]).Nodup:=by
   rw [List.nodup_append]
   exact ⟨hnd,by simp,fun a ha c hc e=>his (by rw [List.mem_singleton] at hc;rw [←hc,←e];exact ha)⟩
  have hlt2:∀ j∈seen++[i],j<l.length:=fun j hj=>by
   rcases List.mem_append.1 hj with h | h
   ·exact hin j h
   ·rw [List.mem_singleton] at h;omega
  have hsl2:(seen++[i]).length≤l.length:=by simpa using hnd2.length_le_of_subset (l₂:=List.range l.length) fun j hj=>List.mem_range.2 (hlt2 j hj)
  have hT:trim (hp.length+3) ⟨[(0,.yld (hp.length+1)),(5,.ref (hp.length+2) 0)],apM hp b ((seen.map fun i=>l.getD i [])++[l.getD i []]) [Blk.it id l.length (seen++[i]),.dead,.dead],lo,(0,hp.length+3,[0,5],[(0,hp.length+1),(5,hp.length+2)])::mk0⟩=some ⟨[(0,.yld (hp.length+1)),(5,.ref (hp.length+2) 0)],apM hp b ((seen.map fun i=>l.getD i [])++[l.getD i []]) [Blk.it id l.length (seen++[i])],lo,(0,hp.length+3,[0,5],[(0,hp.length+1),(5,hp.length+2)])::mk0⟩:=by
   have:=trim_id (t:=[.dead,.dead]) (mks:=(0,hp.length+3,[0,5],[(0,hp.length+1),(5,hp.length+2)])::mk0) (env:=[(0,.yld (hp.length+1)),(5,.ref (hp.length+2) 0)]) (apM_all (b:=b) (acc:=(seen.map fun i=>l.getD i [])++[l.getD i []]) (N:=l.length) (seen:=seen++[i]) hlt hbl hil) (by simp [apM]) (by simp [idlt,AV.allv,pidlt]) hlo
   simpa [apM] using this
  rintro x ⟨env',hp',lo',mks'⟩ ⟨rfl,h1,h2,h3,h4⟩
  simp only at h1 h2 h3 h4
  subst h2 h3 h4
  refine ⟨⟨[(0,.yld (hp.length+1)),(5,.ref (hp.length+2) 0)],apM hp b ((seen.map fun i=>l.getD i [])++[l.getD i []]) [Blk.it id l.length (seen++[i])],lo',(0,hp.length+3,[0,5],[(0,hp.length+1),(5,hp.length+2)])::mk0⟩,?_,_,?_,seen++[i],hnd2,hlt2,rfl,?_⟩
  ·simp only [ghost,lkm,↓reduceIte,Option.bind_some,h1]
   simp only [swapAll,swapSt,lk,AV.idof,↓reduceIte,Option.bind_some,reduceCtorEq,Nat.reduceEqDiff,hT]
  ·simp at hsl2 ⊢;omega
  ·simp
theorem keys_fn (G:Good P fid tabN) (hb:hp[b]? = some (.row fr [.mref id])) (hm:hp[id]? = some (.mp (strs l) vs)) (hlt:hp.all (fun x=>x.idlt hp.length)=true) (hl:l.length≤60000) (hvl:vs.length=l.length):
  SayC P fid 1564 [.yld (hp.length+1),.ref b 0] (apM hp b [] []) (fun v hp'=>∃ acc x,acc.Perm l∧hp'=apM hp b acc [x]):=by
 have hbl:b<hp.length:=(List.getElem?_eq_some_iff.1 hb).1
 have hil:id<hp.length:=(List.getElem?_eq_some_iff.1 hm).1
 refine C_fn G u1564 ?_
 unfold d1564
 have e1:(apM hp b [] [])[b]? = some (.row fr [.mref id]):=by unfold apM;rw [List.getElem?_append_left hbl];exact hb
 have e2:(apM hp b [] [])[id]? = some (.mp (strs l) vs):=by unfold apM;rw [List.getElem?_append_left hil];exact hm
 have e3:(apM hp b [] []).length=hp.length+2:=by simp [apM]
 have e4:apM hp b [] []++[.it id l.length []]=apM hp b [] [.it id l.length []]:=by simp [apM]
 have L:=strs_length l
 refine S_seq (SayS.mono (S_det G (Q:=fun x st'=>x=.normal∧lk st'.env 0=.yld (hp.length+1)∧lk st'.env 5=.ref (hp.length+2) 0∧st'.hp=apM hp b [] [.it id l.length []]∧st'.lo=hp.length+2∧st'.mks=[]) ?_) ?_)
 ·simp (disch:=omega) only [go_sem,e1,e2,e3,e4,L]
 ·rintro x ⟨env,hp',lo,mks⟩ ⟨rfl,h1,h2,h3,h4,h5⟩
  simp only at h1 h2 h3 h4 h5
  subst h3 h4 h5
  refine S_block (S_ghost (st1:=⟨[(0,.yld (hp.length+1)),(5,.ref (hp.length+2) 0)],apM hp b [] [.it id l.length []],hp.length+2,[(0,hp.length+3,[0,5],[(0,hp.length+1),(5,hp.length+2)])]⟩) ?_ ?_)
  ·simp [ghost,keepEnv,homesOf,h1,h2,AV.idof,apM]
  ·refine SayS.mono (keys_loop G hb hm hlt hl hvl (by omega) (mk0:=[])) ?_
   rintro x ⟨env',hp',lo',mks'⟩ ⟨rfl,acc,seen,hp1,h6,h7⟩
   simp only at h6
   subst h6
   exact ⟨fun i=>by simp [unx],.tup [],rfl,acc,_,hp1,rfl⟩
theorem appseq_fn (G:Good P fid tabN) (hb:hp[b]? = some (.row fr [.mref id])) (hm:hp[id]? = some (.mp (strs l) vs)) (hlt:hp.all (fun x=>x.idlt hp.length)=true) (hl:l.length≤60000) (hvl:vs.length=l.length):
  SayC P fid 1569 [.nils,.clo 1564 [] [.ref b 0]] hp (fun v hp'=>∃ acc t,acc.Perm l∧v=.own 1 (hp.length+3)∧hp'=hp++[.row false [.own 1 (hp.length+3)],.dead,t,.row false (strs acc)]):=by
 refine C_fn G u1569 ?_
 unfold d1569
 refine S_seq (SayS.mono (S_det G (Q:=fun x st'=>x=.normal∧lk st'.env 1=.clo 1564 [] [.ref b 0]∧lk st'.env 2=.ref hp.length 0∧lk st'.env 4=.nils∧st'.hp=hp++[.row false [.nils]]∧st'.lo=hp.length∧st'.mks=[]) ?_) ?_)
 ·simp (disch:=omega) only [go_sem,getA0,getA,setA0,setA,lenA,List.append_assoc]
 ·rintro x ⟨env,hp',lo,mks⟩ ⟨rfl,h1,h2,h3,h4,h5,h6⟩
  simp only at h1 h2 h3 h4 h5 h6
  subst h4 h5 h6
  refine S_seq (S_seq (SayS.mono (S_det G (Q:=fun x st'=>x=.normal∧lk st'.env 6=.clo 1564 [] [.ref b 0]∧lk st'.env 2=.ref hp.length 0∧lk st'.env 4=.nils∧st'.hp=hp++[.row false [.nils]]∧st'.lo=hp.length∧st'.mks=[]) ?_) ?_))
  ·simp (disch:=omega) only [go_sem,h1,h2,h3]
  ·rintro x ⟨env,hp',lo,mks⟩ ⟨rfl,g1,g2,g3,g4,g5,g6⟩
   simp only at g1 g2 g3 g4 g5 g6
   subst g4 g5 g6
   refine S_block (S_ghost (st1:=⟨apE hp.length b,hp++[.row false [.nils]],hp.length,[]⟩) (by simp [ghost,keepEnv,g1,g2,g3,apE]) (S_ghost (st1:=⟨apE hp.length b,hp++[.row false [.vec 1 []]],hp.length,[]⟩) (by simp [ghost,apE,lk]) ?_))
   have hM:(hp++[.row false [.vec 1 []]]++[.lp 0 (apE hp.length b) [7] d1569_r0a d1569_r0 .normal]:List Blk)=apM hp b [] []:=by simp [apM,apL,strs]
   refine S_rangef (k:=1564) (fs:=[]) (cs:=[.ref b 0]) rfl ?_
   have hlen:(hp++[Blk.row false [AV.vec 1 []]]).length=hp.length+1:=by simp
   simp only [hlen,hM,List.nil_append]
   refine SayC.mono (keys_fn G hb hm hlt hl hvl) ?_
   rintro v hp' ⟨acc,x,hperm,rfl⟩
   refine ⟨0,_,_,_,_,_,by unfold apM;rw [getA];rfl,by omega,?_⟩
   have hset:(apM hp b acc [x]).set (hp.length+1) .dead=hp++[.row false [.vec 1 (strs acc)],.dead,x]:=by unfold apM;rw [setA];rfl
   rw [hset]
   refine S_det G ?_
   have La:=strs_length acc
   simp (disch:=omega) only [go_sem,apE,getA0,getA,setA0,setA,lenA,List.append_assoc]
   exact ⟨_,rfl,acc,x,hperm,rfl,rfl⟩
theorem collect_fn (G:Good P fid tabN) (hb:hp[b]? = some (.row fr [.mref id])) (hm:hp[id]? = some (.mp (strs l) vs)) (hlt:hp.all (fun x=>x.idlt hp.length)=true) (hl:l.length≤60000) (hvl:vs.length=l.length):
  SayC P fid 1562 [.clo 1564 [] [.ref b 0]] hp (fun v hp'=>∃ acc t,acc.Perm l∧v=.own 1 (hp.length+3)∧hp'=hp++[.row false [.own 1 (hp.length+3)],.dead,t,.row false (strs acc)]):=by
 refine C_fn G u1562 ?_
 unfold d1562
 refine S_seq (SayS.mono (S_det G (Q:=fun x st'=>x=.normal∧st'=⟨[(2,.nils),(0,.clo 1564 [] [.ref b 0])],hp,hp.length,[]⟩) ?_) ?_)
 ·simp (disch:=omega) only [go_sem]
 ·rintro x st ⟨rfl,rfl⟩
  refine S_seq (S_ops (O_cons (P_astep (r:=(.clo 1564 [] [.ref b 0],hp)) rfl (O_cons (P_all (SayC.mono (appseq_fn G hb hm hlt hl hvl) ?_))))))
  rintro v hp' ⟨acc,t,hperm,rfl,rfl⟩
  refine O_det G ?_
  simp (disch:=omega) only [go_sem,St.put]
  refine S_det G ?_
  simp (disch:=omega) only [go_sem]
  exact ⟨_,rfl,acc,t,hperm,rfl,rfl⟩
end
end Go.Proofs.YtmckpijdjoifoaaGreat
