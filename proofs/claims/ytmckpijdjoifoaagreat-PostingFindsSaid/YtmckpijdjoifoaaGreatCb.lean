import Derived.Test.YtmckpijdjoifoaaGreatCa
import Derived.Test.YtmckpijdjoifoaaGreatSo4
namespace Go.Proofs.YtmckpijdjoifoaaGreat
set_option linter.unusedSimpArgs false
set_option linter.unusedVariables false
set_option maxHeartbeats 4000000
set_option maxRecDepth 100000
section
variable {P:Program} {hp:List Blk} {b id:Nat} {fr:Bool} {l:List Txt} {vs:List AV}
theorem sorted_congr {α:Type} {lt:α→α→Bool} (O:Ordr lt) {a b:List α} (h:a.Perm b):sorted lt a=sorted lt b:=by
 refine List.Perm.eq_of_pairwise (le:=fun x y=>lt y x=false) (fun x y _ _ h1 h2=>O.tri x y h2 h1) (sorted_srtd O a) (sorted_srtd O b) (((sorted_perm a).trans h).trans (sorted_perm b).symm)
theorem sorted_fn (G:Good P fid tabN) (hb:hp[b]? = some (.row fr [.mref id])) (hm:hp[id]? = some (.mp (strs l) vs)) (hlt:hp.all (fun x=>x.idlt hp.length)=true) (hl:l.length≤60000) (hvl:vs.length=l.length):
  SayC P fid 1556 [.clo 1564 [] [.ref b 0]] hp (fun v hp'=>fin hp.length hp' v=some (.vec 1 (strs (sorted ltS l)),hp)):=by
 refine C_fn G u1556 ?_
 unfold d1556
 refine S_seq (SayS.mono (S_det G (Q:=fun x st'=>x=.normal∧st'=⟨[(2,.nils),(0,.clo 1564 [] [.ref b 0])],hp,hp.length,[]⟩) ?_) ?_)
 ·simp (disch:=omega) only [go_sem]
 ·rintro x st ⟨rfl,rfl⟩
  refine S_seq (S_ops (O_cons (P_astep (r:=(.clo 1564 [] [.ref b 0],hp)) rfl (O_cons (P_all (SayC.mono (collect_fn G hb hm hlt hl hvl) ?_))))))
  rintro v hp' ⟨acc,t,hperm,rfl,rfl⟩
  refine O_det G ?_
  simp (disch:=omega) only [go_sem,St.put]
  have gs:=runP_up tabN_le (osf_run (l:=acc) (by rw [hperm.length_eq];exact hl))
  simp only [List.toList_toArray] at gs
  have hs:sorted ltS acc=sorted ltS l:=sorted_congr ordrS hperm
  refine SayS.mono (S_det G (Q:=fun x st'=>x=.ret∧lk st'.env 2=.own 1 (hp.length+3)∧st'.hp=hp++[.row false [.own 1 (hp.length+3)],.dead,t,.row false (strs (sorted ltS l))]) ?_) ?_
  ·simp (disch:=omega) only [go_sem,gs,hs,getA0,getA,setA0,setA,lenA,List.append_assoc]
  ·rintro x ⟨env,hp',lo,mks⟩ ⟨rfl,h1,h2⟩
   simp only at h1 h2
   subst h2
   refine ⟨nofun,.own 1 (hp.length+3),by simp [results,rvs,rvv,h1,nz,tupv],?_⟩
   simp only [rsIds,rvv,h1,immIds,still,List.append_nil]
   refine fin_id hlt rfl rfl (t':=[.row false [.own 1 (hp.length+3)],.dead,t,.dead]) ?_ (by simp [idlt,AV.allv,pidlt,strs_idlt'])
   simp only [pk,getA]
   rw [if_neg (by omega)]
   simp [strs_noid',noidL,setA]
end
def SrtQ (as:List AV) (hp:List Blk) (b id:Nat) (fr:Bool) (l:List Txt) (vs:List AV):Prop:=
 as=[.clo 1564 [] [.ref b 0]]∧hp[b]? = some (.row fr [.mref id])∧hp[id]? = some (.mp (strs l) vs)∧hp.all (fun x=>x.idlt hp.length)=true∧l.length≤60000∧vs.length=l.length
open Classical in
noncomputable def gSorted (as:List AV) (hp:List Blk):Option (AV × List Blk):=
 if h:∃ q:Nat × Nat × Bool × List Txt × List AV,SrtQ as hp q.1 q.2.1 q.2.2.1 q.2.2.2.1 q.2.2.2.2 then some (.vec 1 (strs (sorted ltS h.choose.2.2.2.1)),hp) else none
theorem strs_inj {a b:List Txt} (h:strs a=strs b):a=b:=by
 induction a generalizing b with
 |nil=>cases b with
  |nil=>rfl
  |cons y b=>simp [strs] at h
 |cons x a ih=>cases b with
  |nil=>simp [strs] at h
  |cons y b=>
   simp only [strs,List.map_cons,List.cons.injEq,AV.str.injEq] at h
   rw [h.1,ih h.2]
theorem gSorted_eq {as:List AV} {hp:List Blk} {b id:Nat} {fr:Bool} {l:List Txt} {vs:List AV} (h:SrtQ as hp b id fr l vs):gSorted as hp=some (.vec 1 (strs (sorted ltS l)),hp):=by
 have hx:∃ q:Nat × Nat × Bool × List Txt × List AV,SrtQ as hp q.1 q.2.1 q.2.2.1 q.2.2.2.1 q.2.2.2.2:=⟨(b,id,fr,l,vs),h⟩
 unfold gSorted
 rw [dif_pos hx]
 have h2:=hx.choose_spec
 generalize hx.choose=q at h2
 obtain ⟨a1,a2,a3,_⟩:=h
 obtain ⟨b1,b2,b3,_⟩:=h2
 rw [a1] at b1
 simp only [List.cons.injEq,AV.clo.injEq,AV.ref.injEq,and_true,true_and] at b1
 rw [←b1,a2] at b2
 simp only [Option.some.injEq,Blk.row.injEq,List.cons.injEq,AV.mref.injEq,and_true] at b2
 rw [←b2.2,a3] at b3
 simp only [Option.some.injEq,Blk.mp.injEq] at b3
 rw [strs_inj b3.1]
noncomputable def tabM:Nat→Option Entry:=fun k=>if k=1556 then some (.orc gSorted) else tab k
theorem m1556:tabM 1556=some (.orc gSorted):=rfl
theorem tabM_le:TLe tab tabM:=by
 intro k e h
 unfold tabM
 split
 ·rename_i hk;subst hk;rw [nd1556] at h;cases h
 ·exact h
theorem up {k:Nat} {as:List AV} {hps:List Blk} {r:AV × List Blk} (h:runP tab k as hps=some r):runP tabM k as hps=some r:=runP_up tabM_le h
theorem goodN_of {P:Program} (G:Good P fid tab) (h1:∀ f,fid f=some 1556→EntryOk P fid f (.fn d1556)) (h2:∀ f,fid f=some 1562→EntryOk P fid f (.fn d1562)) (h3:∀ f,fid f=some 1564→EntryOk P fid f (.fn d1564)) (h4:∀ f,fid f=some 1569→EntryOk P fid f (.fn d1569)):Good P fid tabN:=by
 intro f k e hf he
 unfold tabN at he
 split at he
 ·rename_i hk;subst hk;injection he with he;subst he;exact h1 f hf
 ·split at he
  ·rename_i hk;subst hk;injection he with he;subst he;exact h2 f hf
  ·split at he
   ·rename_i hk;subst hk;injection he with he;subst he;exact h3 f hf
   ·split at he
    ·rename_i hk;subst hk;injection he with he;subst he;exact h4 f hf
    ·exact G f k e hf he
theorem goodM_of {P:Program} (G:Good P fid tab) (GN:Good P fid tabN):Good P fid tabM:=by
 intro f k e hf he
 unfold tabM at he
 split at he
 ·rename_i hk;subst hk;injection he with he;subst he
  have hthere:FnThere P f:=by
   obtain ⟨fn,c,q1,q2,q3,_⟩:=GN f 1556 _ hf u1556
   exact ⟨fn,q1,by rw [q2];rfl,q3⟩
  refine ⟨hthere,fun as hps r h=>?_⟩
  unfold gSorted at h
  split at h
  ·rename_i hx
   injection h with h;subst h
   have hsp:=hx.choose_spec
   generalize hx.choose=q at hsp ⊢
   obtain ⟨b1,b2,b3,b4,b5,b6⟩:=hsp
   rw [b1]
   exact (C_ok (sorted_fn GN b2 b3 b4 b5 b6) hf).2
  ·cases h
 ·exact G f k e hf he
end Go.Proofs.YtmckpijdjoifoaaGreat
