import Derived.Test.YtfbfbennheeglaaSi4
namespace Go.Proofs.Ytfbfbennheeglaa
set_option linter.unusedSimpArgs false
set_option linter.unusedVariables false
set_option maxHeartbeats 4000000
set_option maxRecDepth 100000
section
variable (s:List Int) (k0:Nat)
def cpc:Nat→List Int
 |0=>s
 |j+1=>if s.getD (k0+(j+1)) 0≠s.getD (k0+j) 0 then (cpc j).set (unq s (k0+(j+1))).length (s.getD (k0+(j+1)) 0) else cpc j
variable {s:List Int} {k0:Nat}
theorem cpc_len:∀ j,(cpc s k0 j).length=s.length
 |0=>rfl
 |j+1=>by
  simp only [cpc]
  split
  ·rw [List.length_set];exact cpc_len j
  ·exact cpc_len j
theorem unq_succ (s:List Int) {k:Nat} (hk:0<k):unq s (k+1)=if s.getD k 0≠s.getD (k - 1) 0 then unq s k++[s.getD k 0] else unq s k:=by
 change (if k=0∨s.getD k 0≠s.getD (k - 1) 0 then unq s k++[s.getD k 0] else unq s k)=_
 by_cases h:s.getD k 0≠s.getD (k - 1) 0
 ·rw [if_pos (.inr h),if_pos h]
 ·rw [if_neg (by rintro (h1 | h1);omega;exact h h1),if_neg h]
theorem unq_take (s:List Int):∀ {k:Nat},k≤s.length→(∀ j,0<j→j<k→s.getD j 0≠s.getD (j - 1) 0)→unq s k=s.take k
 |0,_,_=>by simp [unq]
 |1,h,_=>by
  have e:s.take 1=s.take 0++[s.getD 0 0]:=take_snoc 0 (by omega)
  rw [e];simp [unq]
 |k+2,h,hj=>by
  rw [unq_succ s (by omega),if_pos (hj (k+1) (by omega) (by omega)),unq_take s (by omega) (fun j h1 h2=>hj j h1 (by omega)),take_snoc 0 (show k+1<s.length by omega)]
theorem cpc_spec (h0:0<k0) (hu:unq s (k0+1)=s.take k0):∀ j,k0+j<s.length→(cpc s k0 j).take (unq s (k0+(j+1))).length=unq s (k0+(j+1))∧(unq s (k0+(j+1))).length≤k0+j∧(∀ p,k0+j≤p→(cpc s k0 j).getD p 0=s.getD p 0)
 |0,h=>by
  have:k0+(0+1)=k0+1:=by omega
  rw [this,hu]
  refine ⟨by simp [cpc],by simp;omega,fun p _=>rfl⟩
 |j+1,h=>by
  obtain ⟨i1,i2,i3⟩:=cpc_spec h0 hu j (by omega)
  have e:k0+(j+1+1)=k0+(j+1)+1:=by omega
  have hs:=unq_succ s (k:=k0+(j+1)) (by omega)
  rw [show k0+(j+1) - 1=k0+j by omega] at hs
  rw [e,hs]
  simp only [cpc]
  by_cases hc:s.getD (k0+(j+1)) 0≠s.getD (k0+j) 0
  ·rw [if_pos hc,if_pos hc]
   have hl:(unq s (k0+(j+1))).length<(cpc s k0 j).length:=by rw [cpc_len];omega
   refine ⟨?_,by simp;omega,fun p hp=>?_⟩
   ·rw [List.length_append,List.length_singleton,take_snoc 0 (by rw [List.length_set];exact hl),List.take_set_of_le (Nat.le_refl _),i1]
    congr 2
    rw [List.getD_eq_getElem?_getD,List.getElem?_set_self hl];rfl
   ·rw [List.getD_eq_getElem?_getD,List.getElem?_set_ne (by omega),←List.getD_eq_getElem?_getD]
    exact i3 p (by omega)
  ·rw [if_neg hc,if_neg hc]
   exact ⟨i1,by omega,fun p hp=>i3 p (by omega)⟩
end
theorem tile_zs:∀ n,tile n [AV.int IntKind.i64 0]=ints (List.replicate n 0)
 |0=>rfl
 |n+1=>by simp only [tile,tile_zs n,List.replicate_succ];rfl
def cpu (s:List Int) (k0 j:Nat):Nat:=(unq s (k0+(j+1))).length
theorem compact_run {s:List Int} (hs:s.length≤1000000):∃ v c,runP tab 1571 [.own 1 0] [.row false (ints s)]=some (v,[.row false (ints c)])∧((v=.own 1 0∧c=unq s s.length)∨∃ k,v=.osl 1 0 0 k∧k≤c.length∧c.take k=unq s s.length):=by
 have L:=ints_length s
 by_cases h2:s.length<2
 ·refine ⟨_,_,runP_fn t1571 rfl ?_,.inl ⟨rfl,rfl⟩⟩
  have e:unq s s.length=s:=by
   rw [unq_take s (Nat.le_refl _) (fun j h1 h2=>by omega),List.take_length]
  rw [e]
  simp (disch:=omega) only [go_sem,d1571,L]
 have st0:∀ i,i<s.length - 1→s.getD (i+1) 0≠s.getD i 0→Ev tab d1571_b0 ⟨[(0,.own 1 0),(3,.int .i64 ((i:Int)+1))],[.row false (ints s)],1,[(0,1,[0,3],[(0,0)])]⟩ (fun x st=>x=.normal∧st=⟨[(0,.own 1 0),(3,.int .i64 (((i+1:Nat):Int)+1))],[.row false (ints s)],1,[(0,1,[0,3],[(0,0)])]⟩):=by
  intro i hi q
  have e1:=ints_rdc0 (l:=s) (i:=i+1) (by omega)
  have e2:=ints_rdc0 (l:=s) (i:=i) (by omega)
  have z1:((i:Int)+1).toNat=i+1:=by omega
  have z2:((i:Int)+1 - 1).toNat=i:=by omega
  simp (disch:=omega) only [go_sem,d1571_b0,L,e1,e2,z1,z2,q]
 rcases first_ix' (fun i=>s.getD (i+1) 0≠s.getD i 0) (s.length - 1) with h | ⟨m,m1,m2,m3⟩
 ·refine ⟨_,_,runP_fn t1571 rfl ?_,.inl ⟨rfl,rfl⟩⟩
  have e:unq s s.length=s:=by
   rw [unq_take s (Nat.le_refl _) (fun j h1 h2=>by have:=h (j - 1) (by omega);rw [show j - 1+1=j by omega] at this;exact this),List.take_length]
  rw [e]
  simp (disch:=omega) only [go_sem,d1571,L]
  refine Ev_loop0 (fun i=>⟨[(0,.own 1 0),(3,.int .i64 ((i:Int)+1))],[.row false (ints s)],1,[(0,1,[0,3],[(0,0)])]⟩) (s.length - 1) rfl (fun i hi=>st0 i hi (h i hi)) ?_
  have z:((s.length - 1:Nat):Int)+1=(s.length:Int):=by omega
  simp (disch:=omega) only [go_sem,d1571_b0,L,z]
 ·have m3:s.getD (m+1) 0=s.getD m 0:=Classical.not_not.1 m3
  have hu:unq s (m+1+1)=s.take (m+1):=by
   rw [unq_succ s (by omega),if_neg (by simpa using m3),unq_take s (by omega) (fun j h1 h2=>by have:=m2 (j - 1) (by omega);rw [show j - 1+1=j by omega] at this;exact this)]
  have hsp:=cpc_spec (s:=s) (k0:=m+1) (by omega) hu
  obtain ⟨E,hEe⟩:∃ E,E=s.length - (m+2):=⟨_,rfl⟩
  have hE:m+1+E<s.length:=by omega
  obtain ⟨x1,x2,x3⟩:=hsp E hE
  have eU:unq s (m+1+(E+1))=unq s s.length:=by rw [show m+1+(E+1)=s.length by omega]
  have x2':cpu s (m+1) E≤m+1+E:=x2
  refine ⟨.osl 1 0 0 (cpu s (m+1) E),(cpc s (m+1) E).take (cpu s (m+1) E)++List.replicate (s.length - cpu s (m+1) E) 0,runP_fn t1571 rfl ?_,.inr ⟨cpu s (m+1) E,rfl,by simp [cpc_len];omega,?_⟩⟩
  ·simp (disch:=omega) only [go_sem,d1571,L]
   refine Ev_loop0 (fun i=>⟨[(0,.own 1 0),(3,.int .i64 ((i:Int)+1))],[.row false (ints s)],1,[(0,1,[0,3],[(0,0)])]⟩) m rfl (fun i hi=>st0 i (by omega) (m2 i hi)) ?_
   have e1:=ints_rdc0 (l:=s) (i:=m+1) (by omega)
   have e2:=ints_rdc0 (l:=s) (i:=m) (by omega)
   have z1:((m:Int)+1).toNat=m+1:=by omega
   have z2:((m:Int)+1 - 1).toNat=m:=by omega
   rw [m3] at e1
   simp (disch:=omega) only [go_sem,d1571_b0,L,e1,e2,z1,z2]
   have c0:cpu s (m+1) 0=m+1:=by unfold cpu;rw [show m+1+(0+1)=m+1+1 by omega,hu];simp;omega
   have hlen:s.length - (m+1)=E+1:=by omega
   rw [hlen]
   refine Ev_loop0 (fun j=>⟨[(0,.own 1 0),(3,.int .i64 (cpu s (m+1) j:Int)),(4,.osl 1 0 (m+1) (E+1)),(5,.int .i64 ((j:Int)+1))],[.row false (ints (cpc s (m+1) j))],1,[(1,1,[0,3,4,5],[(0,0),(4,0)]),(0,1,[0,3],[(0,0)])]⟩) E (by simp [c0,cpc]) (fun j hj=>?_) ?_
   ·obtain ⟨y1,y2,y3⟩:=hsp j (by omega)
    have y2':cpu s (m+1) j≤m+1+j:=y2
    have Lc:=ints_length (cpc s (m+1) j)
    have lc:=cpc_len (s:=s) (k0:=m+1) j
    have f1:=ints_rdc0 (l:=cpc s (m+1) j) (i:=m+1+(j+1)) (by omega)
    have f2:=ints_rdc0 (l:=cpc s (m+1) j) (i:=m+1+j) (by omega)
    rw [y3 _ (by omega)] at f1
    rw [y3 _ (by omega)] at f2
    have w1:((j:Int)+1).toNat=j+1:=by omega
    have w2:((j:Int)+1 - 1).toNat=j:=by omega
    have hs':=unq_succ s (k:=m+1+(j+1)) (by omega)
    rw [show m+1+(j+1) - 1=m+1+j by omega] at hs'
    by_cases hc:s.getD (m+1+(j+1)) 0=s.getD (m+1+j) 0
    ·have e1:cpc s (m+1) (j+1)=cpc s (m+1) j:=by simp only [cpc];rw [if_neg (by simpa using hc)]
     have e2:cpu s (m+1) (j+1)=cpu s (m+1) j:=by unfold cpu;rw [show m+1+(j+1+1)=m+1+(j+1)+1 by omega,hs',if_neg (by simpa using hc)]
     rw [e1,e2]
     simp (disch:=omega) only [go_sem,d1571_b1,Lc,lc,f1,f2,w1,w2,hc]
    ·have e1:cpc s (m+1) (j+1)=(cpc s (m+1) j).set (cpu s (m+1) j) (s.getD (m+1+(j+1)) 0):=by simp only [cpc];rw [if_pos hc];rfl
     have e2:cpu s (m+1) (j+1)=cpu s (m+1) j+1:=by unfold cpu;rw [show m+1+(j+1+1)=m+1+(j+1)+1 by omega,hs',if_pos hc];simp
     rw [e1,e2]
     simp (disch:=omega) only [go_sem,d1571_b1,Lc,lc,f1,f2,w1,w2,hc]
   ·have Lc:=ints_length (cpc s (m+1) E)
    have lc:=cpc_len (s:=s) (k0:=m+1) E
    have eset:setAll (ints (cpc s (m+1) E)) (cpu s (m+1) E) (tile (s.length - cpu s (m+1) E) [AV.int IntKind.i64 0])=ints (List.take (cpu s (m+1) E) (cpc s (m+1) E)++List.replicate (s.length - cpu s (m+1) E) 0):=by
     have lt:(ints (List.replicate (s.length - cpu s (m+1) E) 0)).length=s.length - cpu s (m+1) E:=by rw [ints_length,List.length_replicate]
     rw [tile_zs,setAll_eq _ _ _ (by rw [lt,Lc,lc];omega),lt,ints_take,List.drop_eq_nil_of_le (by rw [Lc,lc];omega),List.append_nil]
     simp [ints]
    have lr:(ints (List.take (cpu s (m+1) E) (cpc s (m+1) E)++List.replicate (s.length - cpu s (m+1) E) 0)).length=s.length:=by
     rw [ints_length,List.length_append,List.length_take,List.length_replicate,lc];omega
    simp (disch:=omega) only [go_sem,d1571_b1,Lc,lc,eset,lr]
  ·rw [List.take_append_of_le_length (by simp [cpc_len];omega),List.take_take,Nat.min_self]
   exact x1.trans eU
theorem pris_run {l:List Int} (hl:l.length≤60000):∃ v c,runP tab 1566 [.own 1 0] [.row false (ints l)]=some (v,[.row false (ints c)])∧((v=.own 1 0∧c=nrmL ltI l)∨∃ k,v=.osl 1 0 0 k∧k≤c.length∧c.take k=nrmL ltI l):=by
 have gs:=isf_run hl
 simp only [List.toList_toArray] at gs
 have sl:=sorted_len (lt:=ltI) l
 obtain ⟨v,c,gc,hv⟩:=compact_run (s:=sorted ltI l) (by rw [sl];omega)
 have en:nrmL ltI l=unq (sorted ltI l) (sorted ltI l).length:=by rw [nrmL,sl]
 rw [←en] at hv
 refine ⟨v,c,runP_fn t1566 rfl ?_,hv⟩
 rcases hv with ⟨rfl,rfl⟩ | ⟨k,rfl,h1,h2⟩
 ·simp (disch:=omega) only [go_sem,d1566,gs,gc]
 ·simp (disch:=omega) only [go_sem,d1566,gs,gc]
abbrev Po:=Txt × List Int
def poS:List Po→List AV
 | []=>[]
 |p::P=>.str p.1::.sl 1 (ints p.2)::poS P
def poV:List Po→List AV
 | []=>[]
 |p::P=>.str p.1::.vec 1 (ints p.2)::poV P
theorem poS_len:∀ P:List Po,(poS P).length=P.length*2
 | []=>rfl
 |p::P=>by simp only [poS,List.length_cons,poS_len P];omega
theorem poV_len:∀ P:List Po,(poV P).length=P.length*2
 | []=>rfl
 |p::P=>by simp only [poV,List.length_cons,poV_len P];omega
theorem poS_all {p:AV→Bool} (h0:∀ s,p (.str s)=true) (h1:∀ l,p (.sl 1 (ints l))=true) (h2:∀ l,allL p (ints l)=true):∀ P:List Po,allL p (poS P)=true
 | []=>rfl
 |q::P=>by simp only [poS,allL,AV.allv,h0,h1,h2,poS_all h0 h1 h2 P,Bool.and_self]
theorem poV_all {p:AV→Bool} (h0:∀ s,p (.str s)=true) (h1:∀ l,p (.vec 1 (ints l))=true) (h2:∀ l,allL p (ints l)=true):∀ P:List Po,allL p (poV P)=true
 | []=>rfl
 |q::P=>by simp only [poV,allL,AV.allv,h0,h1,h2,poV_all h0 h1 h2 P,Bool.and_self]
theorem poS_noid' (P:List Po):allL pnoid (poS P)=true:=poS_all (fun _=>rfl) (fun _=>rfl) (fun l=>ints_noid' l) P
theorem poV_noid' (P:List Po):allL pnoid (poV P)=true:=poV_all (fun _=>rfl) (fun _=>rfl) (fun l=>ints_noid' l) P
theorem poS_noinl' (P:List Po):allL pnoinl (poS P)=true:=poS_all (fun _=>rfl) (fun _=>rfl) (fun l=>ints_noinl' l) P
theorem poV_noimm' (P:List Po):allL pnoimm (poV P)=true:=poV_all (fun _=>rfl) (fun _=>rfl) (fun l=>ints_noimm l) P
theorem poS_idlt' (n:Nat) (P:List Po):allL (pidlt n) (poS P)=true:=idltL_noid _ (poS_noid' P)
theorem poV_idlt' (n:Nat) (P:List Po):allL (pidlt n) (poV P)=true:=idltL_noid _ (poV_noid' P)
theorem poS_ren' (f:Nat→Nat) (P:List Po):mapL (ren1 f) (poS P)=poS P:=renL_noid _ (poS_noid' P)
theorem poV_ren' (f:Nat→Nat) (P:List Po):mapL (ren1 f) (poV P)=poV P:=renL_noid _ (poV_noid' P)
theorem poS_ids (P:List Po):idsL (poS P)=[]:=noidL_ids _ (poS_noid' P)
theorem poV_ids (P:List Po):idsL (poV P)=[]:=noidL_ids _ (poV_noid' P)
theorem poS_frz':∀ P:List Po,mapL frz1 (poS P)=poS P
 | []=>rfl
 |q::P=>by simp only [poS,mapL,AV.mapv,frz1,ints_frz',poS_frz' P]
theorem poV_frz':∀ P:List Po,mapL frz1 (poV P)=poS P
 | []=>rfl
 |q::P=>by simp only [poS,poV,mapL,AV.mapv,frz1,ints_frz',poV_frz' P]
theorem poS_okc:∀ P:List Po,(poS P).all AV.okc=true
 | []=>rfl
 |q::P=>by simp only [poS,List.all_cons,AV.okc,poS_okc P,Bool.and_self]
theorem poV_okc:∀ P:List Po,(poV P).all AV.okc=true
 | []=>rfl
 |q::P=>by simp only [poV,List.all_cons,AV.okc,poV_okc P,Bool.and_self]
theorem poS_drop:∀ (P:List Po) (i:Nat),(poS P).drop (i*2)=poS (P.drop i)
 | P,0=>by simp
 | [],i+1=>by simp [poS]
 |p::P,i+1=>by
  rw [show (i+1)*2=i*2+1+1 by omega]
  simp only [poS,List.drop_succ_cons]
  exact poS_drop P i
theorem poS_pks (hp:List Blk):∀ P:List Po,pksL hp (poS P)=some (poS P,hp)
 | []=>rfl
 |p::P=>by
  simp only [poS,pksL,pks,pk,Option.bind_some,poS_pks hp P,Option.map_some]
attribute [go_sem] poS_len poV_len poS_noid' poV_noid' poS_noinl' poV_noimm' poS_idlt' poV_idlt' poS_ren' poV_ren' poS_ids poV_ids poS_frz' poV_frz' poS_okc poV_okc poS_pks
theorem poS_at {P:List Po} {i:Nat} (h:i<P.length):rdc ((poS P).drop (i*2)) (some 2)=some (.agg [.str (P.getD i default).1,.sl 1 (ints (P.getD i default).2)]):=by
 rw [poS_drop,List.drop_eq_getElem_cons h,List.getD_eq_getElem?_getD,List.getElem?_eq_getElem h];rfl
theorem poS_at1 {P:List Po} {i:Nat} (h:i<P.length):rdc ((poS P).drop (i*2)) none=some (.str (P.getD i default).1):=by
 rw [poS_drop,List.drop_eq_getElem_cons h,List.getD_eq_getElem?_getD,List.getElem?_eq_getElem h];rfl
theorem poS_at2 {P:List Po} {i:Nat} (h:i<P.length):rdc (((poS P).drop (i*2)).drop 1) none=some (.sl 1 (ints (P.getD i default).2)):=by
 rw [poS_drop,List.drop_eq_getElem_cons h,List.getD_eq_getElem?_getD,List.getElem?_eq_getElem h];rfl
theorem kfind_out {k:AV}:∀ {ks:List AV},(∀ x∈ks,keq k x=some false)→kfind k ks=some none
 | [],_=>rfl
 |x::ks,h=>by
  have ih:=kfind_out (k:=k) (ks:=ks) fun y hy=>h y (List.mem_cons_of_mem _ hy)
  simp only [kfind,h x (by simp),Option.bind_some,Bool.false_eq_true,if_false,ih,Option.map_some,Option.map_none]
theorem kfind_in {k:AV}:∀ {ks:List AV} {j:Nat} {x:AV},(∀ i y,i<j→ks[i]? = some y→keq k y=some false)→ks[j]? = some x→keq k x=some true→kfind k ks=some (some j)
 | [],j,x,_,h,_=>by simp at h
 |y::ks,0,x,_,h,hx=>by
  simp at h;subst h
  simp only [kfind,hx,Option.bind_some,if_true]
 |y::ks,j+1,x,hlt,h,hx=>by
  have:=hlt 0 y (by omega) rfl
  have ih:=kfind_in (k:=k) (ks:=ks) (j:=j) (x:=x) (fun i z hi hz=>hlt (i+1) z (by omega) (by simpa using hz)) (by simpa using h) hx
  simp only [kfind,this,Option.bind_some,Bool.false_eq_true,if_false,ih,Option.map_some]
theorem keq_int (a b:Int):keq (.int .i64 a) (.int .i64 b)=some (decide (a=b)):=by
 simp only [keq,aeq,if_true];congr 1
theorem kget_iout {n:Int} {ks:List Int} (h:n ∉ ks):kget 1 (.int .i64 n) (ints ks)=some none:=by
 unfold kget
 rw [if_pos (show kOk _ _=true from rfl)]
 refine kfind_out fun x hx=>?_
 simp only [ints,List.mem_map] at hx
 obtain ⟨y,hy,rfl⟩:=hx
 rw [keq_int,decide_eq_false (fun e=>h (by rw [e];exact hy))]
theorem kget_iin {n:Int}:∀ {ks:List Int},n∈ks→∃ j,j<ks.length∧ks.getD j 0=n∧kget 1 (.int .i64 n) (ints ks)=some (some j):=by
 intro ks h
 rcases first_ix' (fun i=>ks.getD i 0≠n) ks.length with h1 | ⟨m,m1,m2,m3⟩
 ·obtain ⟨i,hi,e⟩:=memI.1 h
  exact absurd e (h1 i hi)
 ·have m3:ks.getD m 0=n:=Classical.not_not.1 m3
  refine ⟨m,m1,m3,?_⟩
  unfold kget
  rw [if_pos (show kOk _ _=true from rfl)]
  have hat:∀ i,i<ks.length→(ints ks)[i]? = some (.int .i64 (ks.getD i 0)):=fun i hi=>by simp [ints,List.getD_eq_getElem?_getD,hi]
  refine kfind_in (fun i y hi hy=>?_) (hat m m1) (by rw [keq_int,decide_eq_true m3.symm])
  rw [hat i (by omega)] at hy
  injection hy with hy
  subst hy
  rw [keq_int,decide_eq_false (fun e=>m2 i hi e.symm)]
def uns (n:Nat):List AV:=List.replicate n (.agg [])
theorem uns_len (n:Nat):(uns n).length=n:=by simp [uns]
theorem uns_set (n i:Nat):(uns n).set i (.agg [])=uns n:=by simp [uns]
theorem uns_app (n:Nat):uns n++[.agg []]=uns (n+1):=by simp [uns,List.replicate_succ']
theorem uns_idlt' (k n:Nat):allL (pidlt k) (uns n)=true:=nls_allR n
 where nls_allR:∀ n,allL (pidlt k) (uns n)=true
  |0=>rfl
  |n+1=>by simp only [uns,List.replicate_succ,allL,AV.allv,pidlt,Bool.and_self,Bool.true_and];exact nls_allR n
theorem uns_get {n i:Nat} (h:i<n):(uns n)[i]? = some (.agg []):=by simp [uns,h]
theorem uns_ren' (f:Nat→Nat):∀ n,mapL (ren1 f) (uns n)=uns n
 |0=>rfl
 |n+1=>by simp only [uns,List.replicate_succ,mapL,AV.mapv,ren1,List.cons.injEq];exact ⟨trivial,uns_ren' f n⟩
attribute [go_sem] uns_len uns_set uns_idlt' uns_ren'
theorem snocInd {α:Type} {p:List α→Prop} (h0:p []) (h1:∀ l x,p l→p (l++[x])):∀ l,p l:=by
 have key:∀ l:List α,p l.reverse:=by
  intro l
  induction l with
  |nil=>exact h0
  |cons x l ih=>rw [List.reverse_cons];exact h1 _ _ ih
 intro l
 simpa using key l.reverse
def ddI (l:List Int):List Int:=l.foldl (fun a x=>if x∈a then a else a++[x]) []
theorem ddI_snoc (l:List Int) (x:Int):ddI (l++[x])=if x∈ddI l then ddI l else ddI l++[x]:=by unfold ddI;rw [List.foldl_append];rfl
theorem ddI_mem (l:List Int) (x:Int):x∈ddI l↔x∈l:=by
 refine snocInd (p:=fun l=>x∈ddI l↔x∈l) (by simp [ddI]) (fun l y ih=>?_) l
 ·rw [ddI_snoc]
  by_cases h:y∈ddI l
  ·rw [if_pos h,List.mem_append,List.mem_singleton,ih]
   constructor
   ·exact .inl
   ·rintro (h1 | rfl)
    ·exact h1
    ·exact ih.1 h
  ·rw [if_neg h,List.mem_append,List.mem_append,ih]
theorem ddI_len (l:List Int):(ddI l).length≤l.length:=by
 refine snocInd (p:=fun l=>(ddI l).length≤l.length) (by simp [ddI]) (fun l y ih=>?_) l
 ·rw [ddI_snoc]
  split
  ·simp;omega
  ·simp;omega
def findP (P:List Po) (w:Txt):List Int:=match P.find? (fun p=>p.1 == w) with | some p=>p.2 | none=>[]
theorem findP_at {P:List Po} {w:Txt} {m:Nat} (m1:m<P.length) (m2:∀ i,i<m→(P.getD i default).1≠w) (m3:(P.getD m default).1=w):findP P w=(P.getD m default).2:=by
 unfold findP
 have:P.find? (fun p=>p.1 == w)=some (P.getD m default):=by
  rw [List.getD_eq_getElem?_getD,List.getElem?_eq_getElem m1,List.find?_eq_some_iff_getElem]
  refine ⟨by rw [List.getD_eq_getElem?_getD,List.getElem?_eq_getElem m1] at m3;simpa using m3,m,m1,rfl,fun j hj=>?_⟩
  have:=m2 j hj
  rw [List.getD_eq_getElem?_getD,List.getElem?_eq_getElem (by omega)] at this
  simpa using this
 rw [this]
theorem pfind_run {P:List Po} {w:Txt} (hP:P.length≤1000000) (hp:∀ p∈P,p.2.length<1000000):runP tab 1554 [.sl 2 (poS P),.str w] []=some (.vec 1 (ints (findP P w)),[]):=by
 refine runP_fn t1554 rfl ?_
 have L:=poS_len P
 have Ld:P.length*2 / 2=P.length:=by omega
 simp (disch:=omega) only [go_sem,d1554,L,Ld]
 rcases first_ix' (fun i=>(P.getD i default).1≠w) P.length with h | ⟨m,m1,m2,m3⟩
 ·have e:findP P w=[]:=by
   unfold findP
   rw [List.find?_eq_none.2 fun p hp=>?_]
   obtain ⟨i,hi,rfl⟩:=mem_getD (d:=default) hp
   simpa using h i hi
  rw [e]
  refine Ev_loop0 (fun i=>⟨[(1,.str w),(7,.sl 2 (poS P)),(8,.int .i64 P.length),(9,.int .i64 (i:Int))],[],0,[(0,0,[1,7,8,9],[])]⟩) P.length rfl (fun i hi=>?_) ?_
  ·have e1:=poS_at hi
   have q:((P.getD i default).1 == w)=false:=by simpa using h i hi
   simp (disch:=omega) only [go_sem,d1554_b0,L,Ld,e1,q]
  ·simp (disch:=omega) only [go_sem,d1554_b0,L,Ld]
   rfl
 ·have m3:(P.getD m default).1=w:=Classical.not_not.1 m3
  have e:findP P w=(P.getD m default).2:=by
   unfold findP
   have:P.find? (fun p=>p.1 == w)=some (P.getD m default):=by
    rw [List.getD_eq_getElem?_getD,List.getElem?_eq_getElem m1,List.find?_eq_some_iff_getElem]
    refine ⟨by rw [List.getD_eq_getElem?_getD,List.getElem?_eq_getElem m1] at m3;simpa using m3,m,m1,rfl,fun j hj=>?_⟩
    have:=m2 j hj
    rw [List.getD_eq_getElem?_getD,List.getElem?_eq_getElem (by omega)] at this
    simpa using this
   rw [this]
  rw [e]
  refine Ev_loop0 (fun i=>⟨[(1,.str w),(7,.sl 2 (poS P)),(8,.int .i64 P.length),(9,.int .i64 (i:Int))],[],0,[(0,0,[1,7,8,9],[])]⟩) m rfl (fun i hi=>?_) ?_
  ·have e1:=poS_at (P:=P) (i:=i) (by omega)
   have q:((P.getD i default).1 == w)=false:=by simpa using m2 i hi
   simp (disch:=omega) only [go_sem,d1554_b0,L,Ld,e1,q]
  ·have e1:=poS_at m1
   have q:((P.getD m default).1 == w)=true:=by simpa using m3
   have gc:=clonei_run (l:=(P.getD m default).2) (Nat.le_of_lt (hp _ (getD_mem' m1)))
   simp (disch:=omega) only [go_sem,d1554_b0,L,Ld,e1,q,gc]
def bothL (a b:List Int):List Int:=nrmL ltI (b.filter fun x=>decide (x∈a))
theorem pboth_run {a b:List Int} (ha:a.length≤60000) (hb:b.length≤60000):runP tab 1572 [.sl 1 (ints a),.sl 1 (ints b)] []=some (.vec 1 (ints (bothL a b)),[]):=by
 refine runP_fn t1572 rfl ?_
 have La:=ints_length a
 have Lb:=ints_length b
 simp (disch:=omega) only [go_sem,d1572,La,Lb]
 refine Ev_loop0 (fun i=>⟨[(1,.sl 1 (ints b)),(5,.mref 0),(14,.sl 1 (ints a)),(15,.int .i64 a.length),(16,.int .i64 (i:Int))],[.mp (ints (ddI (a.take i))) (uns (ddI (a.take i)).length)],0,[(0,1,[1,5,14,15,16],[(5,0)])]⟩) a.length rfl (fun i hi=>?_) ?_
 ·have e1:=ints_rdc0 hi
  have et:a.take (i+1)=a.take i++[a.getD i 0]:=take_snoc 0 hi
  rw [et,ddI_snoc]
  by_cases hm:a.getD i 0∈ddI (a.take i)
  ·obtain ⟨j,hj,_,hk⟩:=kget_iin hm
   rw [if_pos hm]
   simp (disch:=omega) only [go_sem,d1572_b0,La,e1,hk]
  ·have hk:=kget_iout hm
   rw [if_neg hm]
   simp (disch:=omega) only [go_sem,d1572_b0,La,e1,hk]
   rw [uns_app]
 ·rw [List.take_length]
  simp (disch:=omega) only [go_sem,d1572_b0,La]
  have hmem:∀ x,x∈ddI a↔x∈a:=ddI_mem a
  refine Ev_loop0 (fun i=>⟨[(5,.mref 0),(8,.own 1 1),(24,.sl 1 (ints b)),(25,.int .i64 b.length),(26,.int .i64 (i:Int))],[.mp (ints (ddI a)) (uns (ddI a).length),.row false (ints ((b.take i).filter fun x=>decide (x∈a)))],0,[(1,2,[5,8,24,25,26],[(5,0),(8,1)]),(0,1,[1,5,14,15,16],[(5,0)])]⟩) b.length rfl (fun i hi=>?_) ?_
  ·have e1:=ints_rdc0 hi
   have et:b.take (i+1)=b.take i++[b.getD i 0]:=take_snoc 0 hi
   have Lf:=ints_length ((b.take i).filter fun x=>decide (x∈a))
   have Lfl:((b.take i).filter fun x=>decide (x∈a)).length≤60000:=by
    have:=List.length_filter_le (fun x=>decide (x∈a)) (b.take i)
    rw [List.length_take] at this;omega
   by_cases hm:b.getD i 0∈a
   ·obtain ⟨j,hj,_,hk⟩:=kget_iin ((hmem _).2 hm)
    have hg:=uns_get hj
    have ef:((b.take (i+1)).filter fun x=>decide (x∈a))=((b.take i).filter fun x=>decide (x∈a))++[b.getD i 0]:=by
     rw [et,List.filter_append,List.filter_cons_of_pos (p:=fun x=>decide (x∈a)) (decide_eq_true hm),List.filter_nil]
    rw [ef]
    simp (disch:=omega) only [go_sem,d1572_b1,Lb,e1,hk,hg,Lf]
   ·have hk:=kget_iout (fun h=>hm ((hmem _).1 h))
    have ef:((b.take (i+1)).filter fun x=>decide (x∈a))=((b.take i).filter fun x=>decide (x∈a)):=by
     rw [et,List.filter_append,List.filter_cons_of_neg (p:=fun x=>decide (x∈a)) (by rw [decide_eq_false hm];nofun),List.filter_nil,List.append_nil]
    rw [ef]
    simp (disch:=omega) only [go_sem,d1572_b1,Lb,e1,hk,Lf]
  ·rw [List.take_length]
   obtain ⟨v,c,gr,hv⟩:=pris_run (l:=b.filter fun x=>decide (x∈a)) (by have:=List.length_filter_le (fun x=>decide (x∈a)) b;omega)
   have Lc:=ints_length c
   rcases hv with ⟨rfl,rfl⟩ | ⟨k,rfl,h1,h2⟩
   ·simp (disch:=omega) only [go_sem,d1572_b1,Lb,gr]
    rfl
   ·simp (disch:=omega) only [go_sem,d1572_b1,Lb,gr]
    rw [h2];rfl
theorem ghost_wh (s:Nat) (env:List (Nat × AV)) (hp:List Blk) (lo mks):ghost (.whole s) ⟨env,hp,lo,mks⟩=match lk env s with
  | .osl sz id o n=>match hp[id]? with
   |some (.row false cs)=>if o=0∧n*sz≤cs.length then some ⟨(s,.own sz hp.length)::env,hp.set id .dead++[.row false (cs.take (n*sz))],lo,mks⟩ else none
   |_=>none
  |_=>some ⟨env,hp,lo,mks⟩:=rfl
structure okP (P:List Po):Prop where
 n:P.length≤10000
 r:∀ p∈P,p.2.length≤1000
structure okW (P:List Po):Prop where
 n:P.length≤10000
 r:∀ p∈P,p.2.length≤10000
theorem okP.w {P:List Po} (h:okP P):okW P:=⟨h.n,fun p hp=>Nat.le_trans (h.r p hp) (by omega)⟩
theorem findP_len {P:List Po} (h:okP P) (w:Txt):(findP P w).length≤1000:=by
 unfold findP
 split
 ·rename_i p hp;exact h.r p (List.mem_of_find?_eq_some hp)
 ·simp
theorem bothL_len (a b:List Int):(bothL a b).length≤b.length:=by
 have h1:=nrm_len (lt:=ltI) (b.filter fun x=>decide (x∈a))
 have h2:=List.length_filter_le (fun x=>decide (x∈a)) b
 exact Nat.le_trans h1 h2
theorem ibo_run {P:List Po} (hP:okP P) {t:List Int} (ht:t.length≤60000) (w:Txt):runP tab 1567 [.sl 2 (poS P),.sl 1 (ints t),.str w] []=some (.vec 1 (ints (bothL t (findP P w))),[]):=by
 refine runP_fn t1567 rfl ?_
 have g1:=pfind_run (P:=P) (w:=w) (by have:=hP.n;omega) (fun p hp=>by have:=hP.r p hp;omega)
 have g2:=pboth_run (a:=t) (b:=findP P w) ht (by have:=findP_len hP w;omega)
 simp (disch:=omega) only [go_sem,d1567,g1,g2]
theorem fold_row {K:Nat} {P:List Po} {g:List Int→Txt→List Int} {ws:List Txt} {t0 c:List Int} {v:AV} (hv:(v=.own 1 0∧c=t0)∨∃ k,v=.osl 1 0 0 k∧k≤c.length∧c.take k=t0) (hw:ws.length≤100000) (hK:∀ i,i<ws.length→runP tab K [.sl 2 (poS P),.sl 1 (ints ((ws.take i).foldl g t0)),.str (ws.getD i [])] []=some (.vec 1 (ints (g ((ws.take i).foldl g t0) (ws.getD i []))),[])):
  runP tab 1565 [.sl 1 (strs ws),v,.clo K [.sl 2 (poS P)] []] [.row false (ints c)]=some (.vec 1 (ints (ws.foldl g t0)),[.dead]):=by
 refine runP_fn t1565 rfl ?_
 have L:=strs_length ws
 have Lc:=ints_length c
 have hl:Ev tab (.loop d1565_b0) ⟨[(1,.own 1 1),(2,.clo K [.sl 2 (poS P)] []),(9,.sl 1 (strs ws)),(10,.int .i64 ws.length),(11,.int .i64 0)],[.dead,.row false (ints t0)],1,[(0,2,[1,2,9,10,11],[(1,1)])]⟩ (fun x st=>x=.exit 0∧lk st.env 1=.own 1 1∧st.hp=[.dead,.row false (ints (ws.foldl g t0))]∧st.lo=1∧st.mks=[(0,2,[1,2,9,10,11],[(1,1)])]):=by
  refine Ev_loop0 (fun i=>⟨[(1,.own 1 1),(2,.clo K [.sl 2 (poS P)] []),(9,.sl 1 (strs ws)),(10,.int .i64 ws.length),(11,.int .i64 (i:Int))],[.dead,.row false (ints ((ws.take i).foldl g t0))],1,[(0,2,[1,2,9,10,11],[(1,1)])]⟩) ws.length rfl (fun i hi=>?_) ?_
  ·have e1:=strs_rdc hi
   have gk:=hK i hi
   have et:ws.take (i+1)=ws.take i++[ws.getD i []]:=take_snoc [] hi
   rw [et,List.foldl_append,List.foldl_cons,List.foldl_nil]
   simp (disch:=omega) only [go_sem,d1565_b0,L,e1,gk]
  ·rw [List.take_length]
   simp (disch:=omega) only [go_sem,d1565_b0,L]
 have fin:∀ Q,(∀ env,lk env 1=.own 1 1→Q (.exit 0) ⟨env,[.dead,.row false (ints (ws.foldl g t0))],1,[(0,2,[1,2,9,10,11],[(1,1)])]⟩)→Ev tab (.loop d1565_b0) ⟨[(1,.own 1 1),(2,.clo K [.sl 2 (poS P)] []),(9,.sl 1 (strs ws)),(10,.int .i64 ws.length),(11,.int .i64 0)],[.dead,.row false (ints t0)],1,[(0,2,[1,2,9,10,11],[(1,1)])]⟩ Q:=by
  intro Q hq
  obtain ⟨⟨x,env,hp,lo,mks⟩,h1,h2,h3,h4,h5,h6⟩:=hl
  simp only at h2 h3 h4 h5 h6
  subst h2 h4 h5 h6
  exact ⟨_,h1,hq env h3⟩
 rcases hv with ⟨rfl,rfl⟩ | ⟨k,rfl,h1,h2⟩
 ·simp (disch:=omega) only [go_sem,d1565,L,Lc,ghost_wh]
  refine fin _ fun env he=>?_
  simp (disch:=omega) only [go_sem,he]
 ·simp (disch:=omega) only [go_sem,d1565,L,Lc,ghost_wh,h2]
  refine fin _ fun env he=>?_
  simp (disch:=omega) only [go_sem,he]
def allF (P:List Po) (a:List Int) (x:Txt):List Int:=bothL a (findP P x)
def allP (P:List Po):List Txt→List Int
 | []=>[]
 |w::r=>r.foldl (allF P) (nrmL ltI (findP P w))
theorem allF_len {P:List Po} (hP:okP P):∀ (ws:List Txt) (t:List Int),t.length≤1000→(ws.foldl (allF P) t).length≤1000
 | [],t,h=>h
 |w::ws,t,h=>allF_len hP ws _ (Nat.le_trans (bothL_len _ _) (findP_len hP w))
theorem nrm_findP {P:List Po} (hP:okP P) (w:Txt):(nrmL ltI (findP P w)).length≤1000:=Nat.le_trans (nrm_len _) (findP_len hP w)
theorem all05_run {P:List Po} (hP:okP P) {ws:List Txt} (hw:ws.length≤100000):runP tab 1558 [.sl 2 (poS P),.sl 1 (strs ws)] []=some (.tup [.vec 1 (ints (allP P ws)),.int .i64 (if ws=[] then 1 else 0)],[]):=by
 refine runP_fn t1558 rfl ?_
 have L:=strs_length ws
 cases ws with
 |nil=>simp (disch:=omega) only [go_sem,d1558,strs];rfl
 |cons w r=>
  have lw:(w::r).length=r.length+1:=rfl
  have hf:=findP_len hP w
  have g1:=pfind_run (P:=P) (w:=w) (by have:=hP.n;omega) (fun p hp=>by have:=hP.r p hp;omega)
  obtain ⟨v,c,gr,hv⟩:=pris_run (l:=findP P w) (by omega)
  have Lc:=ints_length c
  have hn:=nrm_findP hP w
  have gk:∀ i,i<r.length→runP tab 1567 [.sl 2 (poS P),.sl 1 (ints ((r.take i).foldl (allF P) (nrmL ltI (findP P w)))),.str (r.getD i [])] []=some (.vec 1 (ints (allF P ((r.take i).foldl (allF P) (nrmL ltI (findP P w))) (r.getD i []))),[]):=fun i hi=>
   ibo_run hP (by have:=allF_len hP (r.take i) _ hn;omega) _
  have e0:rdc (strs (w::r)) none=some (.str w):=rfl
  have ed:(strs (w::r)).drop 1=strs r:=rfl
  rw [if_neg (show ¬ w::r=[] by simp)]
  have et:List.take (r.length+1 - 1) (strs r)=strs r:=by rw [List.take_of_length_le (by rw [strs_length];omega)]
  have lr:r.length≤100000:=by omega
  rcases hv with ⟨rfl,rfl⟩ | ⟨k,rfl,h1,h2⟩
  ·have gf:=fold_row (ws:=r) (K:=1567) (P:=P) (g:=allF P) (t0:=nrmL ltI (findP P w)) (v:=.own 1 0) (.inl ⟨rfl,rfl⟩) lr gk
   simp (disch:=omega) only [go_sem,d1558,L,lw,g1,gr,gf,e0,ed,et]
   rfl
  ·have gf:=fold_row (ws:=r) (K:=1567) (P:=P) (g:=allF P) (t0:=nrmL ltI (findP P w)) (v:=.osl 1 0 0 k) (c:=c) (.inr ⟨k,rfl,h1,h2⟩) lr gk
   simp (disch:=omega) only [go_sem,d1558,L,lw,g1,gr,gf,e0,ed,et]
   rfl
end Go.Proofs.Ytfbfbennheeglaa
