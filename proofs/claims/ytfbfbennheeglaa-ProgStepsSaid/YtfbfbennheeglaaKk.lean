import Derived.Test.YtfbfbennheeglaaKi
namespace Go.Proofs.Ytfbfbennheeglaa
set_option linter.unusedSimpArgs false
set_option linter.unusedVariables false
open Go.RowKit
section
variable {P:Program} {fid:FuncId→Option Nat} {fr:Nat→Prop} {w0 w:World} {m:Mem} {hp hp':List Blk} {env:List (Nat × AV)} {a:Act} {o:Oper} {v:AV} {l0:Nat} {mk:List Mark} {fl:List Nat}
theorem HInv.adopt0 {f:List Nat} (H:HInv fr w0 m hp w f) {b:Blk} {x:Ent} (hb:BlkOk m w b x f):HInv fr w0 { m with bl:=m.bl++[x],fp:=fun k=>if k=hp.length then f else m.fp k } (hp++[b]) w []:=
  HInv.adopt (fl:=[]) (by simpa using H) hb
theorem HInv.newRow {f:List Nat} (H:HInv fr w0 m hp w f) {cur:Array Value} {t:TypeId} {cs:List AV} {cap n sz:Nat} (hR:RL m w cs (fun i=>cur[i]?) f) (hok:cs.all AV.okc=true) (hs:cur.size=cap*sz) (hl:cs.length=n*sz) (h0:cs=[]→n=0) (hn:n≤cap):
    HInv fr w0 { m with bl:=m.bl++[⟨some ⟨w.heap.size,0,none⟩,some w.heap.size,cap,n,sz⟩],fp:=fun k=>if k=hp.length then w.heap.size::f else m.fp k } (hp++[.row false cs]) (w.alloc (.cells cur t)) []:=by
  have H1:=H.alloc0 (.cells cur t)
  refine HInv.adopt (fl:=[]) (f:=w.heap.size::f) (by simpa using H1) ⟨hok,hl,h0,hn,.inr ⟨w.heap.size,rfl,rfl,fun _=>⟨cur,t,f,heap_alloc_new w _,hs,rfl,?_⟩,fun h=>by cases h⟩⟩
  refine RL_mono (Mem.le.refl m) (fun q hq=>Below.heap_alloc w _ q (H.fown q hq).2.1) (fun _ _ h=>h) hR
theorem fp_new {m:Mem} {hp:List Blk} (H:m.bl.length=hp.length) (e:Ent):(m.bl++[e])[hp.length]? = some e:=by rw [←H];exact get_new
theorem cells_ok {m:Mem} {x:AV} {u:Value} (h:C m x u) (hx:x≠.unk) (ht:∀ vs,x≠.tup vs):CL m x.cells (fun i=>u.cells[i]?)∧u.cells.size=x.cells.length:=by
  by_cases hx':∃ cs,x=.agg cs
  · obtain ⟨cs,rfl⟩:=hx'
    simp only [C] at h
    obtain ⟨h1,vs,rfl,h2,h3⟩:=h
    exact ⟨h3,h2⟩
  · have e:x.cells=[x]:=by cases x<;>first | rfl | exact absurd ⟨_,rfl⟩ hx'
    have hok:x.okc=true:=by cases x<;>first | rfl | exact absurd rfl hx | exact absurd rfl (ht _) | exact absurd ⟨_,rfl⟩ hx'
    rw [e]
    have h1:=C_okc h hok
    have e2:u.cells=#[u]:=by cases u<;>first | rfl | simp [Value.oneCell'] at h1
    rw [e2]
    exact ⟨by simp [CL,h],rfl⟩
theorem pksL_cells {hp:List Blk} {x:AV} {r:List AV × List Blk} (h:pksL hp x.cells=some r) (hok:r.1.all AV.okc=true):x≠.unk∧∀ vs,x≠.tup vs:=by
  constructor
  · rintro rfl;simp [AV.cells,pksL,pks] at h
  · rintro vs rfl
    simp only [AV.cells,pksL,pks,pk,obI,omI] at h
    obtain ⟨q,⟨q',_,rfl⟩,b,_,rfl⟩:=h
    simp [AV.okc] at hok
theorem pkL_cells {n:Nat} {hp:List Blk} {x:AV} {r:List AV × List Blk} (h:pkL n hp x.cells=some r) (hok:r.1.all AV.okc=true):x≠.unk∧∀ vs,x≠.tup vs:=by
  constructor
  · rintro rfl;simp [AV.cells,pkL,pk] at h
  · rintro vs rfl
    simp only [AV.cells,pkL,pk,obI,omI] at h
    obtain ⟨q,⟨q',_,rfl⟩,b,_,rfl⟩:=h
    simp [AV.okc] at hok
theorem zeroOf_ok (hcd:m.cd=fid) {t:TypeId} {z:List AV} (h:zeroOf P fid t=some z):∃ i zv,P.info? t=some i∧i.zero=some zv∧CL m z (fun i=>zv.cells[i]?)∧z.length=zv.cells.size∧z.all AV.okc=true:=by
  simp only [zeroOf,obI] at h
  obtain ⟨zv,⟨i,hi,hz⟩,h⟩:=h
  obtain ⟨k1,k2,k3⟩:=absL_ok hcd _ _ h
  exact ⟨i,zv,hi,hz,by simpa using k1,by simpa using k2,k3⟩
theorem go_box (hcd:m.cd=fid) {t:TypeId} {n:Nat} {x:Operand} {x':SX} (hop:o.op=.box t x) (h1:opd fid x=some x') (hs:astep hp (St.ev ⟨env,hp,l0,mk⟩) (.box n x')=some (v,hp')) (H:HInv fr w0 m hp w []) (E:EnvOk m env a.tmps):
    Goes P o a w fr w0 m v hp':=by
  have k1:=opd_ok (st:=⟨env,hp,l0,mk⟩) hcd h1 E
  simp only [astep,obI] at hs
  obtain ⟨r,hr,hs⟩:=hs
  split at hs
  · rename_i hc
    simp only [Option.some.injEq,Prod.mk.injEq] at hs
    obtain ⟨rfl,rfl⟩:=hs
    obtain ⟨hne,hnt⟩:=pksL_cells hr hc.2
    obtain ⟨c1,c2⟩:=cells_ok k1 hne hnt
    obtain ⟨m1,f1,E1,i1,b1,H1,R1,l1,l2⟩:=pksL_ok (f0:=[]) (f:=[]) _ hr H (RL_of_CL _ _ c1)
    have H2:=HInv.newRow (t:=t) (cap:=(a.eval x).cells.size) (n:=(a.eval x).cells.size) (sz:=1) (by simpa using H1) R1 hc.2 (by simp) (by rw [l2,c2];simp) (fun h=>by rw [c2,←l2,h];rfl) (Nat.le_refl _)
    refine ⟨_,.pointer (some ⟨w.heap.size,0,none⟩),_,_,?_,.inl rfl,E1.trans (ext_app _ _),?_,H2⟩
    · simp [execOp,hop,Instr.box,newVar,newRow,newObj,Sem.run]
    · simp only [C]
      exact ⟨_,fp_new H1.len _,w.heap.size,rfl,rfl⟩
  · cases hs
theorem go_alloc (hcd:m.cd=fid) {t:TypeId} {z:List AV} (hop:o.op=.alloc t) (h1:zeroOf P fid t=some z) (hs:astep hp (St.ev ⟨env,hp,l0,mk⟩) (.alloc z)=some (v,hp')) (H:HInv fr w0 m hp w []):Goes P o a w fr w0 m v hp':=by
  obtain ⟨i,zv,hi,hz,k1,k2,k3⟩:=zeroOf_ok hcd h1
  simp only [astep,Option.some.injEq,Prod.mk.injEq] at hs
  obtain ⟨rfl,rfl⟩:=hs
  have H2:=HInv.newRow (t:=t) (cap:=zv.cells.size) (n:=zv.cells.size) (sz:=1) H (RL_of_CL _ _ k1) k3 (by simp) (by rw [k2];simp) (fun h=>by rw [←k2,h];rfl) (Nat.le_refl _)
  refine ⟨_,.pointer (some ⟨w.heap.size,0,none⟩),_,_,?_,.inl rfl,ext_app _ _,?_,H2⟩
  · simp [execOp,hop,Instr.alloc,zeroValue,typeInfo,hi,hz,newVar,newRow,newObj,Sem.run]
  · simp only [C]
    exact ⟨_,fp_new H.len _,w.heap.size,rfl,rfl⟩
theorem go_load (hcd:m.cd=fid) {u:Bool} {t:TypeId} {n:Option Nat} {x:Operand} {x':SX} (hop:o.op=.load t x) (hn:ldk P t=some n) (h1:opd fid x=some x') (hs:astep hp (St.ev ⟨env,hp,l0,mk⟩) (.load u n x')=some (v,hp')) (H:HInv fr w0 m hp w []) (E:EnvOk m env a.tmps):
    Goes P o a w fr w0 m v hp':=by
  have k1:=opd_ok (st:=⟨env,hp,l0,mk⟩) hcd h1 E
  simp only [astep] at hs
  split at hs
  · rename_i cs hx
    rw [hx] at k1
    simp only [omI,Prod.mk.injEq] at hs
    obtain ⟨v',hv,rfl,rfl⟩:=hs
    simp only [C] at k1
    obtain ⟨hok,b,off,hu,hg⟩:=k1
    obtain ⟨uu,hr,hC⟩:=run_loadAt_ok (P:=P) (w:=w) (b:=b) (o:=off) hn hv hok hg (fun i v hv=>H.im _ _ _ hv)
    exact goes_pure H (u:=uu) (by simp [execOp,hop,hu,hr]) hC
  · rename_i id off hx
    rw [hx] at k1
    simp only [C] at k1
    obtain ⟨e,he,g,heg,hu⟩:=k1
    split at hs
    · rename_i fr' cs hb
      split at hs
      ·
        split at hs
        · rename_i hc
          obtain ⟨rfl,hlen⟩:=hc
          split at hs
          · rename_i hni
            simp only [omI,Prod.mk.injEq] at hs
            obtain ⟨v',hv,rfl,rfl⟩:=hs
            obtain ⟨hok,q2,q3,q4,q5⟩:=H.blk id _ e hb he
            rcases q5 with ⟨q,_⟩ | ⟨g',r1,r2,r3,_⟩
            · rw [heg] at q;cases q
            · rw [heg] at r1;injection r1 with r1;subst r1
              obtain ⟨cur,t',f',s1,s2,s3,s4⟩:=r3 rfl
              obtain ⟨fa,f2,rfl,ha,h2⟩:=CL_get s4 off
              have hto:(cs.take off).length=off:=by simp;omega
              rw [hto] at h2
              obtain ⟨fb,fc,rfl,hbb,hcc⟩:=CL_get h2 (cnt n)
              have htu:((cs.drop off).take (cnt n)).length=cnt n:=by simp;omega
              rw [htu,List.drop_drop] at hcc
              have Hk:=H.kill id
              rw [s3,List.append_nil] at Hk
              have Hk2:=Hk.perm (fl':=(g::(fa++fc))++fb) (by
                simp only [List.cons_append]
                refine List.Perm.cons g ?_
                rw [List.append_assoc]
                exact List.Perm.append_left fa List.perm_append_comm)
              obtain ⟨m2,f3,E2,i2,p2,H2,R2,l2,o2,lx,hlx⟩:=unpk_ok (f0:=g::(fa++fc)) ((cs.drop off).take (cnt n)) Hk2 (RL_mono (le_fp _) (fun _ _=>rfl) (fun _ _ h=>h) hbb)
              have hokr:(unpk (hp.set id .dead) ((cs.drop off).take (cnt n))).1.all AV.okc=true:=o2 (all_take (all_drop hok _) _)
              obtain ⟨hCr,hf3⟩:=CL_of_RL _ _ _ hni R2
              subst hf3
              have hx2:m2.bl[id]? = some e:=E2.le.bl id e he
              have hlr:off+(unpk (hp.set id .dead) ((cs.drop off).take (cnt n))).1.length≤cs.length:=by rw [l2,htu];exact hlen
              have Efull:Ext fr m m2:=(ext_fp _).trans E2
              have hR2:RL m2 w (setAll cs off (unpk (hp.set id .dead) ((cs.drop off).take (cnt n))).1) (fun i=>cur[i]?) (fa++fc):=by
                rw [setAll_eq _ _ _ hlr,List.append_assoc,RL_append]
                refine ⟨fa,fc,rfl,RL_mono Efull.le (fun _ _=>rfl) (fun _ _ h=>h) ha,?_⟩
                rw [RL_append]
                refine ⟨[],fc,rfl,?_,?_⟩
                · rw [hto];exact R2
                · rw [hto,l2,htu];exact RL_mono Efull.le (fun _ _=>rfl) (fun _ _ h=>h) hcc
              have H3:=H2.turn (f:=g::(fa++fc)) (g:=[]) (i:=id) (b:=.row false (setAll cs off (unpk (hp.set id .dead) ((cs.drop off).take (cnt n))).1)) hx2 (fun q hq=>.inr (by simpa using hq)) (by simpa using H2.fnd)
                ⟨setAll_okc _ _ _ hok hokr,by rw [setAll_length];exact q2,fun h=>q3 (List.eq_nil_of_length_eq_zero (by rw [←setAll_length _ cs off,h];rfl)),q4,.inr ⟨g,heg,r2,fun _=>⟨cur,t',fa++fc,s1,s2,rfl,hR2⟩,fun h=>by cases h⟩⟩
              obtain ⟨uu,hr,hC⟩:=run_loadAt_ok (P:=P) (w:=w) (b:=g) (o:=off) hn hv hokr hCr (fun i v hv=>by simp [World.cell?,s1];exact hv)
              refine ⟨_,uu,w,_,?_,.inl rfl,Efull.trans (ext_fp _),C_mono (le_fp _) _ _ hC,H3⟩
              simp [execOp,hop,hu,hr]
          · cases hs
        · cases hs
      · simp only [obI] at hs
        obtain ⟨v',hv,hs⟩:=hs
        split at hs
        · rename_i hni
          simp only [Option.some.injEq,Prod.mk.injEq] at hs
          obtain ⟨rfl,rfl⟩:=hs
          obtain ⟨e',q,hb',he',q1,q2,q3,q4,q5⟩:=row_at H (cs:=cs) (id:=id) (by simp [rowc,hb,Blk.cells])
          rw [he] at he';injection he' with he';subst he'
          rcases q5 with ⟨r1,_⟩ | ⟨g',f,r1,r2,hR⟩
          · rw [heg] at r1;cases r1
          · rw [heg] at r1;injection r1 with r1;subst r1
            obtain ⟨fa,fb,rfl,_,hb2⟩:=CL_get hR off
            by_cases hoff:off≤cs.length
            · have hto:(cs.take off).length=off:=by simp;omega
              rw [hto] at hb2
              have hk:∃ k,rdc ((cs.drop off).take k) n=some v'∧allL pnoinl ((cs.drop off).take k)=true:=by
                cases n with
                |none=>
                  refine ⟨1,?_,?_⟩
                  · simp only [rdc] at hv ⊢
                    rw [List.head?_take,if_neg (by omega)];exact hv
                  · simp only [rdc] at hv
                    cases hq:cs.drop off with
                    |nil=>rfl
                    |cons x xs=>
                      rw [hq] at hv
                      simp at hv;subst hv
                      simp only [List.take_succ_cons,List.take_zero,allL,Bool.and_true]
                      exact hni
                |some k=>
                  refine ⟨k,?_,?_⟩
                  · simp only [rdc] at hv ⊢
                    split at hv
                    · rename_i hk;rw [if_pos (by rw [List.length_take];omega),List.take_take,Nat.min_self];exact hv
                    · cases hv
                  · simp only [rdc] at hv
                    split at hv
                    · injection hv with hv;subst hv
                      simp only [noinl,AV.allv,Bool.and_eq_true] at hni
                      exact hni.2
                    · cases hv
              obtain ⟨k,hv2,hni2⟩:=hk
              obtain ⟨fc,fd,rfl,hc2,_⟩:=CL_get hb2 k
              obtain ⟨hCL,_⟩:=CL_of_RL _ _ _ hni2 hc2
              obtain ⟨uu,hr,hC⟩:=run_loadAt_ok (P:=P) (w:=w) (b:=g) (o:=off) hn hv2 (all_take (all_drop q1 _) _) hCL (fun i v hv=>hv)
              exact goes_pure H (u:=uu) (by simp [execOp,hop,hu,hr]) hC
            · rw [List.drop_eq_nil_of_le (by omega)] at hv
              obtain ⟨uu,hr,hC⟩:=run_loadAt_ok (P:=P) (w:=w) (b:=g) (o:=off) (cs:=[]) (g:=fun _=>none) hn hv rfl (by simp [CL]) (fun i v hv=>by cases hv)
              exact goes_pure H (u:=uu) (by simp [execOp,hop,hu,hr]) hC
        · cases hs
    · cases hs
  · cases hs
theorem go_store (hcd:m.cd=fid) {mv:Bool} {t:TypeId} {n:Nat} {x y:Operand} {x' y':SX} (hop:o.op=.store t x y) (hn:szOf P t=some n) (h1:opd fid x=some x') (h2:opd fid y=some y') (hs:astep hp (St.ev ⟨env,hp,l0,mk⟩) (.store mv n x' y')=some (v,hp'))
    (H:HInv fr w0 m hp w []) (E:EnvOk m env a.tmps):Goes P o a w fr w0 m v hp':=by
  have k1:=opd_ok (st:=⟨env,hp,l0,mk⟩) hcd h1 E
  have k2:=opd_ok (st:=⟨env,hp,l0,mk⟩) hcd h2 E
  simp only [astep] at hs
  split at hs
  · rename_i id off hx
    rw [hx] at k1
    simp only [C] at k1
    obtain ⟨e,he,g,heg,hu⟩:=k1
    simp only [obI] at hs
    obtain ⟨r,hr,hs⟩:=hs
    split at hs
    · rename_i cs hb
      split at hs
      · rename_i hc
        obtain ⟨hl,hle,hok2⟩:=hc
        simp only [Option.some.injEq,Prod.mk.injEq] at hs
        obtain ⟨rfl,rfl⟩:=hs
        have hcells:(St.ev ⟨env,hp,l0,mk⟩ y'≠.unk∧∀ vs,St.ev ⟨env,hp,l0,mk⟩ y'≠.tup vs) ∧
            (CL m (St.ev ⟨env,hp,l0,mk⟩ y').cells (fun i=>(a.eval y).cells[i]?)→∃ m1 f1,Ext fr m m1∧m1.bl=m.bl∧HInv fr w0 m1 r.2 w ([]++f1)∧RL m1 w r.1 (fun i=>(a.eval y).cells[i]?) f1∧r.1.length=(St.ev ⟨env,hp,l0,mk⟩ y').cells.length):=by
          cases mv
          · simp only [Bool.false_eq_true,if_false] at hr
            refine ⟨pksL_cells hr hok2,fun c1=>?_⟩
            obtain ⟨m1,f1,E1,i1,b1,H1,R1,l1,l2⟩:=pksL_ok (f0:=[]) (f:=[]) _ hr H (RL_of_CL _ _ c1)
            exact ⟨m1,f1,E1,b1,H1,R1,l2⟩
          · simp only [if_true] at hr
            refine ⟨pkL_cells hr hok2,fun c1=>?_⟩
            obtain ⟨m1,f1,E1,i1,b1,H1,R1,l1,l2,_⟩:=pkL_ok (f0:=[]) (f:=[]) _ hr H (RL_of_CL _ _ c1)
            exact ⟨m1,f1,E1,b1,H1,R1,l2⟩
        obtain ⟨⟨hne,hnt⟩,hcells⟩:=hcells
        obtain ⟨c1,c2⟩:=cells_ok k2 hne hnt
        obtain ⟨m1,f1,E1,b1,H1,R1,l2⟩:=hcells c1
        rw [List.nil_append] at H1
        have he1:m1.bl[id]? = some e:=by rw [b1];exact he
        obtain ⟨hok,q2,q3,q4,q5⟩:=H1.blk id _ e hb he1
        rcases q5 with ⟨q,_⟩ | ⟨g',r1,r2,r3,_⟩
        · rw [heg] at q;cases q
        · rw [heg] at r1;injection r1 with r1;subst r1
          obtain ⟨cur,t',f',s1,s2,s3,s4⟩:=r3 rfl
          have hwl:(a.eval y).cells.toList.length=r.1.length:=by rw [l2];simpa using c2
          have hcl:=RL_length s4
          have hone:=vs_one (vs:=(a.eval y).cells.toList) (by simpa using R1) hwl hok2
          have hst:=run_storeCells_at P g off t' (a.eval y).cells.toList 0 cur w s1 (by omega) hone
          simp only [Nat.add_zero] at hst
          simp only [szOf,omI] at hn
          obtain ⟨i,hi,hin⟩:=hn
          have hsize:¬ (a.eval y).cells.size≠i.size:=by rw [c2,←l2,hin,hl];simp
          obtain ⟨fa,fb,fc,rfl,hR⟩:=RL_splice (o:=off) (vs:=cur.toList) (ws:=(a.eval y).cells.toList) (by simpa using s4) (by simpa using hcl) (by simpa using R1) hwl (by omega)
          have hnd:((g::(fa++(fb++fc)))++f1).Nodup:=by
            rw [←s3,List.nodup_append]
            exact ⟨H1.nd id,H1.fnd,fun a ha b hb e=>H1.fdj id a ha (by rw [e];exact hb)⟩
          have hgf:∀ q∈fa++(f1++fc),q≠g:=by
            intro q hq e
            subst e
            rw [List.cons_append,List.nodup_cons] at hnd
            apply hnd.1
            simp at hq ⊢
            rcases hq with h | h | h<;>simp [h]
          have hsize2:(cur.toList.take off++(a.eval y).cells.toList++cur.toList.drop (off+(a.eval y).cells.toList.length)).toArray.size=cur.size:=by
            simp only [List.size_toArray,List.length_append,List.length_take,List.length_drop,Array.length_toList] at hwl ⊢
            omega
          refine ⟨.skip,undef,w.setRow g (cur.toList.take off++(a.eval y).cells.toList++cur.toList.drop (off+(a.eval y).cells.toList.length)).toArray,{ m1 with fp:=fun k=>if k=id then g::(fa++(f1++fc)) else m1.fp k },?_,.inr ⟨rfl,rfl⟩,E1.trans (ext_fp _),by simp [C,undef,CL],?_⟩
          · simp [execOp,hop,hu,Instr.storeAt,Instr.sureAddr,storeVar,sizeOf,typeInfo,hi,hst]
            simpa using hsize
          · refine H1.write (f:=g::(fa++(f1++fc))) (g':=[]) he1 (by rw [s3];simp) (fun q hq=>?_) ?_ ⟨setAll_okc _ _ _ hok hok2,by rw [setAll_length];exact q2,fun h=>q3 (List.eq_nil_of_length_eq_zero (by rw [←setAll_length _ cs off,h];rfl)),q4,.inr ⟨g,heg,r2,fun _=>⟨_,t',fa++(f1++fc),setRow_heap w g cur _ t' _ s1,by rw [hsize2,s2],rfl,?_⟩,fun h=>by cases h⟩⟩
            · rw [s3]
              simp at hq ⊢
              rcases hq with h | h | h | h<;>simp [h]
            · rw [List.append_nil,List.nodup_cons]
              refine ⟨fun h=>hgf g h rfl,?_⟩
              rw [List.cons_append,List.nodup_cons] at hnd
              have:=hnd.2
              refine List.Nodup.sublist (l₂:=fa++(f1++(fb++fc))) ?_ ?_
              · exact List.Sublist.append_left (List.Sublist.append_left (List.sublist_append_right fb fc) f1) fa
              · refine (List.Perm.nodup_iff ?_).1 this
                rw [List.append_assoc]
                exact List.Perm.append_left fa List.perm_append_comm
            · refine RL_mono (Mem.le.refl m1) (fun q hq=>setRow_other w g q _ (hgf q hq)) (fun i u h=>?_) hR
              simpa using h
      · cases hs
    · cases hs
  · cases hs
end
section
variable {P:Program} {fid:FuncId→Option Nat} {fr:Nat→Prop} {w0 w:World} {m:Mem} {hp hp':List Blk} {env:List (Nat × AV)} {a:Act} {o:Oper} {v:AV} {l0:Nat} {mk:List Mark} {fl:List Nat}
theorem run_append_room' (w:World) (t ty e:TypeId) (i:TypeInfo) (ht:P.underlying t=some (.slice e)) (hi:P.info? e=some i) (g off sLen sCap:Nat) (cur:Array Value) (t':TypeId) (hg:w.heap[g]? = some (.cells cur t' (0,0)))
    (a:Addr) (m c:Nat) (news:List Value) (hl:news.length=m*i.size) (hnews:∀ j u,news[j]? = some u→w.cell? (a.add j)=some u) (h1:∀ u∈news,u.oneCell'=true)
    (hroom:sLen+m≤sCap) (hfit:off+sLen*i.size+news.length≤cur.size):
    (Builtin.append_ #[t,t] ty #[.slice (some ⟨g,off,none⟩) sLen sCap,.slice (some a) m c]).run P w =
      .ok (.slice (some ⟨g,off,none⟩) (sLen+m) sCap) (w.setRow g (cur.toList.take (off+sLen*i.size)++news++cur.toList.drop (off+sLen*i.size+news.length)).toArray):=by
  have hf:=run_firstCells_some (P:=P) w i.size m a m c news hl hnews
  have hst:=run_storeCells_at P g (off+sLen*i.size) t' news 0 cur w hg (by simpa using hfit) h1
  simp only [Nat.add_zero] at hst
  simp [Builtin.append_,run_underlying ht,sizeOf,typeInfo,hi,Builtin.lenOf,hroom,hf,Addr.add_lit,hst]
theorem run_append_zero (w:World) (t ty e:TypeId) (i:TypeInfo) (ht:P.underlying t=some (.slice e)) (hi:P.info? e=some i) (ad:Option Addr) (n c c':Nat) (hnc:n≤c) (hx:Option Addr):
    (Builtin.append_ #[t,t] ty #[.slice ad n c,.slice hx 0 c']).run P w=.ok (.slice ad n c) w:=by
  cases ad<;>cases hx<;>simp [Builtin.append_,run_underlying ht,sizeOf,typeInfo,hi,Builtin.lenOf,Builtin.firstCells,hnc,storeCells,loadCells,loadCellsFrom]
theorem app_core {t ty e:TypeId} {i:TypeInfo} {z:Value} (ht:P.underlying t=some (.slice e)) (hi:P.info? e=some i) (hz:i.zero=some z) (hzs:z.cells.size=i.size) (hbb:0<i.bytes) (hsz:0<i.size)
    {ad0:Option Addr} {n0 c0:Nat} {cs:List AV} {f1:List Nat} (hcs:cs.length=n0*i.size) (hn0:n0≤c0) (hok0:cs.all AV.okc=true)
    (hdest:(c0=0∧f1=[])∨∃ g cur t' f',ad0=some ⟨g,0,none⟩∧w.heap[g]? = some (.cells cur t' (0,0))∧cur.size=c0*i.size∧f1=g::f'∧RL m w cs (fun j=>cur[j]?) f')
    {ad:Option Addr} {n c:Nat} {vs:List Value} {xs:List AV} {fx:List Nat} (hvl:xs.length=n*i.size) (hxl:vs.length=xs.length) (hvs:∀ (j:Nat) v,vs[j]? = some v→∃ a',ad=some a'∧w.cell? (a'.add j)=some v)
    (hR:RL m w xs (fun j=>vs[j]?) fx) (hok:xs.all AV.okc=true) (H:HInv fr w0 m hp w (f1++fx)) (hfit:(n0+n)*i.bytes≤140737488355328):
    ∃ u w' e' F,(Builtin.append_ #[t,t] ty #[.slice ad0 n0 c0,.slice ad n c]).run P w=.ok u w'∧HInv fr w0 { m with bl:=m.bl++[e'],fp:=F } (hp++[.row false (cs++xs)]) w' []∧C { m with bl:=m.bl++[e'],fp:=F } (.own i.size hp.length) u:=by
  have hnm:n0+n≤140737488355328:=Nat.le_trans (Nat.le_mul_of_pos_right _ hbb) hfit
  have hlen:(cs++xs).length=(n0+n)*i.size:=by rw [List.length_append,hcs,hvl,Nat.add_mul]
  have hzero:cs++xs=[]→n0+n=0:=by
    intro h
    rw [h] at hlen
    rcases Nat.mul_eq_zero.1 (show (n0+n)*i.size=0 from hlen.symm) with h | h<;>omega
  have hokA:(cs++xs).all AV.okc=true:=by rw [List.all_append,hok0,hok];rfl
  have mk:∀ (u:Value) (e':Ent) (F:Nat→List Nat),u=.slice e'.a e'.n e'.cap→e'.sz=i.size→C { m with bl:=m.bl++[e'],fp:=F } (.own i.size hp.length) u:=by
    intro u e' F h1 h2
    simp only [C]
    exact ⟨e',fp_new H.len e',h1,h2⟩
  by_cases hn:n=0
  · subst hn
    have hx0:xs=[]:=List.eq_nil_of_length_eq_zero (by rw [hvl];simp)
    subst hx0
    simp only [RL] at hR
    subst hR
    have hrun:=run_append_zero (P:=P) w t ty e i ht hi ad0 n0 c0 c hn0 ad
    simp only [Nat.add_zero,List.append_nil] at *
    rcases hdest with ⟨rfl,rfl⟩ | ⟨g,cur,t',f',rfl,k2,k3,rfl,k5⟩
    · have hc0:cs=[]:=List.eq_nil_of_length_eq_zero (by rw [hcs,show n0=0 by omega];simp)
      exact ⟨_,w,⟨ad0,none,0,n0,i.size⟩,_,hrun,H.adopt0 ⟨hok0,hcs,hzero,hn0,.inl ⟨rfl,rfl,rfl⟩⟩,mk _ _ _ rfl rfl⟩
    · exact ⟨_,w,⟨some ⟨g,0,none⟩,some g,c0,n0,i.size⟩,_,hrun,H.adopt0 ⟨hok0,hcs,hzero,hn0,.inr ⟨g,rfl,rfl,fun _=>⟨cur,t',f',k2,k3,rfl,k5⟩,fun h=>by cases h⟩⟩,mk _ _ _ rfl rfl⟩
  · have hpos:0<vs.length:=by rw [hxl,hvl];exact Nat.mul_pos (by omega) hsz
    obtain ⟨a',rfl,_⟩:=hvs 0 _ (List.getElem?_eq_getElem hpos)
    have hvs':∀ (j:Nat) v,vs[j]? = some v→w.cell? (a'.add j)=some v:=fun j v hv=>by
      obtain ⟨a2,h1,h2⟩:=hvs j v hv;injection h1 with h1;subst h1;exact h2
    have hone:∀ u∈vs,u.oneCell'=true:=vs_one hR hxl hok
    by_cases hroom:n0+n≤c0
    · rcases hdest with ⟨rfl,rfl⟩ | ⟨g,cur,t',f',rfl,k2,k3,rfl,k5⟩
      · omega
      · have hfit2:n0*i.size+vs.length≤cur.size:=by rw [hxl,hvl,k3,←Nat.add_mul];exact Nat.mul_le_mul_right _ hroom
        have hr:=run_append_room' (P:=P) (ty:=ty) w t e i ht hi g 0 n0 c0 cur t' k2 a' n c vs (by rw [hxl,hvl]) hvs' hone hroom (by omega)
        simp only [Nat.zero_add] at hr
        have hsize2:(cur.toList.take (n0*i.size)++vs++cur.toList.drop (n0*i.size+vs.length)).toArray.size=cur.size:=by
          simp only [List.size_toArray,List.length_append,List.length_take,List.length_drop,Array.length_toList]
          omega
        have hnd:=H.fnd
        rw [List.cons_append,List.nodup_cons] at hnd
        have hsame:∀ q∈f'++fx,(w.setRow g (cur.toList.take (n0*i.size)++vs++cur.toList.drop (n0*i.size+vs.length)).toArray).heap[q]? = w.heap[q]?:=fun q hq=>setRow_other w g q _ (by rintro rfl;exact hnd.1 hq)
        refine ⟨_,_,⟨some ⟨g,0,none⟩,some g,c0,n0+n,i.size⟩,_,hr,((show HInv fr w0 m hp w (g::(f'++fx)) from H).setFloat (g:=g) (by simp) _).adopt0 ?_,mk _ _ _ rfl rfl⟩
        refine ⟨hokA,hlen,hzero,hroom,.inr ⟨g,rfl,rfl,fun _=>⟨_,t',f'++fx,setRow_heap w g cur _ t' _ k2,by rw [hsize2,k3],rfl,?_⟩,fun h=>by cases h⟩⟩
        rw [RL_append]
        refine ⟨f',fx,rfl,?_,?_⟩
        · refine RL_mono (Mem.le.refl m) (fun q hq=>hsame q (by simp [hq])) (fun _ _ h=>h) (RL_congr (fun j hj=>?_) k5)
          have hj2:j<n0*i.size:=by omega
          rw [List.getElem?_toArray,List.append_assoc,List.getElem?_append_left (by simp;omega),List.getElem?_take,if_pos hj2]
          simp
        · refine RL_mono (Mem.le.refl m) (fun q hq=>hsame q (by simp [hq])) (fun _ _ h=>h) (RL_congr (fun j hj=>?_) hR)
          rw [List.getElem?_toArray,List.append_assoc,List.getElem?_append_right (by simp;omega),List.getElem?_append_left (by simp;omega)]
          congr 1
          simp
          omega
    ·
      have hus:∃ (us:List Value) (f':List Nat),us.length=cs.length∧(∀ (j:Nat) v,us[j]? = some v→∃ a0,ad0=some a0∧w.cell? (a0.add j)=some v)∧RL m w cs (fun j=>us[j]?) f'∧(∀ q∈f'++fx,q∈f1++fx)∧(f'++fx).Nodup:=by
        rcases hdest with ⟨rfl,rfl⟩ | ⟨g,cur,t',f',rfl,k2,k3,rfl,k5⟩
        · have hc0:cs=[]:=List.eq_nil_of_length_eq_zero (by rw [hcs,show n0=0 by omega];simp)
          subst hc0
          exact ⟨[],[],rfl,by simp,by simp [RL],by simp,by simpa using H.fnd⟩
        · obtain ⟨us,q1,q2,q3⟩:=RL_list _ _ _ k5
          have hnd:=H.fnd
          rw [List.cons_append,List.nodup_cons] at hnd
          exact ⟨us,f',q1,fun j v hv=>⟨_,rfl,by rw [addr_add,Nat.zero_add];simp [World.cell?,k2];exact q2 j v hv⟩,q3,fun q hq=>by simp at hq ⊢;rcases hq with h | h<;>simp [h],hnd.2⟩
      obtain ⟨us,f',u1,u2,u3,u4,u5⟩:=hus
      have hcap:n0+n≤grownCap w (n0+n) c0 e:=grownCap_ge w _ _ e
      have hcur:(us.toArray++vs.toArray++Builtin.zeroCells z.cells (grownCap w (n0+n) c0 e - (n0+n))).size=grownCap w (n0+n) c0 e*i.size:=by
        rw [Array.size_append,Array.size_append,size_zeroCells,hzs,List.size_toArray,List.size_toArray,hxl,hvl,u1,hcs,←Nat.add_mul,←Nat.add_mul,Nat.add_sub_cancel' hcap]
      have hRA:RL m w.drew (cs++xs) (fun j=>(us.toArray++vs.toArray++Builtin.zeroCells z.cells (grownCap w (n0+n) c0 e - (n0+n)))[j]?) (f'++fx):=by
        rw [RL_append]
        refine ⟨f',fx,rfl,RL_mono (w:=w) (Mem.le.refl m) (fun _ _=>rfl) (fun _ _ h=>h) (RL_congr (fun j hj=>?_) u3),RL_mono (w:=w) (Mem.le.refl m) (fun _ _=>rfl) (fun _ _ h=>h) (RL_congr (fun j hj=>?_) hR)⟩
        · rw [Array.append_assoc,Array.getElem?_append_left (by simp;omega)]
          simp
        · rw [Array.append_assoc,Array.getElem?_append_right (by simp;omega),Array.getElem?_append_left (by simp;omega)]
          simp [u1]
      have HN:=HInv.newRow (t:=e) (cap:=grownCap w (n0+n) c0 e) (n:=n0+n) (sz:=i.size) ((H.drew).fsub u4 u5) hRA hokA hcur hlen hzero hcap
      refine ⟨_,_,_,_,?_,HN,mk (.slice (some ⟨w.heap.size,0,none⟩) (n0+n) (grownCap w (n0+n) c0 e)) _ _ rfl rfl⟩
      rcases ad0 with _ | b0
      · have hc0:cs=[]:=by
          rcases hdest with ⟨h1,_⟩ | ⟨g,_,_,_,h,_⟩
          · exact List.eq_nil_of_length_eq_zero (by rw [hcs,show n0=0 by omega];simp)
          · cases h
        have hn00:n0=0:=by
          subst hc0
          rcases Nat.mul_eq_zero.1 (show n0*i.size=0 from hcs.symm) with h | h<;>omega
        have hc00:c0=0:=by
          rcases hdest with ⟨h1,_⟩ | ⟨g,_,_,_,h,_⟩
          · exact h1
          · cases h
        subst hc0;subst hn00;subst hc00
        have hus0:us=[]:=List.eq_nil_of_length_eq_zero (by simpa using u1)
        subst hus0
        have hr:=run_append_nil (P:=P) w t ty e i z ht hi hz a' n c vs (by rw [hxl,hvl]) hvs' (by omega) (by omega) (by simp at hfit;omega)
        simp only [Nat.zero_add] at hr ⊢
        rw [hr]
        congr 2
        simp
      · exact run_append_grow (P:=P) w t ty e i z ht hi hz b0 n0 c0 us (by rw [u1,hcs]) (fun j v hv=>by obtain ⟨a2,h1,h2⟩:=u2 j v hv;injection h1 with h1;subst h1;exact h2) a' n c vs (by rw [hxl,hvl]) hvs' (by omega) (by omega) (growslice_fits (by omega) hfit)
theorem own_src (H:HInv fr w0 m hp w fl) {s j:Nat} {u:Value} {xs:List AV} (hC:C m (.own s j) u) (hb:hp[j]? = some (.row false xs)):
    ∃ (ad:Option Addr) (n c:Nat) (vs:List Value) (f':List Nat),u=.slice ad n c∧n≤c∧xs.length=n*s∧vs.length=xs.length∧(∀ (j:Nat) v,vs[j]? = some v→∃ a',ad=some a'∧w.cell? (a'.add j)=some v)∧RL m w xs (fun i=>vs[i]?) f'∧xs.all AV.okc=true∧(∀ q∈f',q∈m.fp j)∧f'.Nodup:=by
  simp only [C] at hC
  obtain ⟨e,he,rfl,hes⟩:=hC
  obtain ⟨h1,h2,h3,h4,h5⟩:=H.blk j _ e hb he
  rw [hes] at h2
  rcases h5 with ⟨q1,q2,q3⟩ | ⟨g,q1,q2,q3,_⟩
  · have:xs=[]:=List.eq_nil_of_length_eq_zero (by rw [h2,show e.n=0 by omega];simp)
    subst this
    exact ⟨e.a,e.n,e.cap,[],[],rfl,h4,h2,rfl,by simp,by simp [RL],rfl,by simp,by simp⟩
  · obtain ⟨cur,t,f',r1,r2,r3,r4⟩:=q3 rfl
    obtain ⟨vs,k1,k2,k3⟩:=RL_list _ _ _ r4
    have hnd:=H.nd j
    rw [r3,List.nodup_cons] at hnd
    exact ⟨e.a,e.n,e.cap,vs,f',rfl,h4,h2,k1,fun i v hv=>⟨_,q2,by rw [addr_add,Nat.zero_add];simp [World.cell?,r1];exact k2 i v hv⟩,k3,h1,fun q hq=>by rw [r3];simp [hq],hnd.2⟩
theorem own_dst (H:HInv fr w0 m hp w fl) {s id:Nat} {u:Value} {cs:List AV} (hC:C m (.own s id) u) (hb:hp[id]? = some (.row false cs)):
    ∃ (ad:Option Addr) (n c:Nat),u=.slice ad n c∧n≤c∧cs.length=n*s∧(cs=[]→n=0)∧cs.all AV.okc=true∧((c=0∧m.fp id=[])∨∃ g cur t' f',ad=some ⟨g,0,none⟩∧w.heap[g]? = some (.cells cur t' (0,0))∧cur.size=c*s∧m.fp id=g::f'∧RL m w cs (fun j=>cur[j]?) f'):=by
  simp only [C] at hC
  obtain ⟨e,he,rfl,hes⟩:=hC
  obtain ⟨h1,h2,h3,h4,h5⟩:=H.blk id _ e hb he
  rw [hes] at h2
  refine ⟨e.a,e.n,e.cap,rfl,h4,h2,h3,h1,?_⟩
  rcases h5 with ⟨q1,q2,q3⟩ | ⟨g,q1,q2,q3,_⟩
  · exact .inl ⟨q2,q3⟩
  · obtain ⟨cur,t,f',r1,r2,r3,r4⟩:=q3 rfl
    exact .inr ⟨g,cur,t,f',q2,r1,by rw [←hes];exact r2,r3,r4⟩
theorem set_same {α:Type} {l:List α} {i:Nat} {x:α} (h:l[i]? = some x):l.set i x=l:=by
  apply List.ext_getElem?
  intro k
  by_cases hk:i=k
  · subst hk;rw [List.getElem?_set_self (List.getElem?_eq_some_iff.1 h).1,h]
  · rw [List.getElem?_set_ne hk]
theorem app_in {t ty e:TypeId} {i:TypeInfo} (ht:P.underlying t=some (.slice e)) (hi:P.info? e=some i) (hsz:0<i.size) {id n:Nat} {cs cs1:List AV} {u0:Value} (hC:C m (.osl i.size id 0 n) u0) (hb:hp[id]? = some (.row false cs)) (H:HInv fr w0 m hp w [])
    {ad:Option Addr} {nx c:Nat} {vs:List Value} {xs:List AV} (hxl:xs.length=nx*i.size) (hvl:vs.length=xs.length) (hvs:∀ (j:Nat) v,vs[j]? = some v→∃ a',ad=some a'∧w.cell? (a'.add j)=some v) (hok:xs.all AV.okc=true)
    (hfit:n*i.size+xs.length≤cs.length) (hl1:cs1.length=cs.length) (hok1:cs1.all AV.okc=true) (hz:xs=[]→cs1=cs)
    (hf:∀ g cur t' f',w.heap[g]? = some (.cells cur t' (0,0))→RL m w cs (fun j=>cur[j]?) f'→m.fp id=g::f'→xs≠[]→∃ f1 fx,RL m w cs1 (fun j=>cur[j]?) f1∧RL m w xs (fun j=>vs[j]?) fx∧(∀ q∈f1++fx,q∈f')∧(f1++fx).Nodup):
    ∃ u w' F,(Builtin.append_ #[t,t] ty #[u0,.slice ad nx c]).run P w=.ok u w'∧HInv fr w0 { m with fp:=F } (hp.set id (.row false (setAll cs1 (n*i.size) xs))) w' []∧C { m with fp:=F } (.osl i.size id 0 (n+nx)) u:=by
  simp only [C] at hC
  obtain ⟨en,he,hes,_,a0,c0,rfl,hnc,hco,hca⟩:=hC
  obtain ⟨h1,h2,h3,h4,h5⟩:=H.blk id _ en hb he
  have mk:∀ F,n+nx≤c0→C { m with fp:=F } (.osl i.size id 0 (n+nx)) (.slice a0 (n+nx) c0):=by
    intro F hle
    simp only [C]
    exact ⟨en,he,hes,hsz,a0,c0,rfl,hle,hco,hca⟩
  by_cases hnx:nx=0
  · subst hnx
    have hx0:xs=[]:=List.eq_nil_of_length_eq_zero (by rw [hxl];simp)
    subst hx0
    rw [hz rfl]
    refine ⟨_,w,m.fp,run_append_zero (P:=P) w t ty e i ht hi a0 n c0 c hnc ad,?_,mk _ (by omega)⟩
    simp only [setAll,set_same hb]
    exact H
  · have hpos:0<vs.length:=by rw [hvl,hxl];exact Nat.mul_pos (by omega) hsz
    have hxne:xs≠[]:=by rintro rfl;simp only [List.length_nil] at hvl;omega
    obtain ⟨a',rfl,_⟩:=hvs 0 _ (List.getElem?_eq_getElem hpos)
    have hvs':∀ (j:Nat) v,vs[j]? = some v→w.cell? (a'.add j)=some v:=fun j v hv=>by
      obtain ⟨a2,q1,q2⟩:=hvs j v hv;injection q1 with q1;subst q1;exact q2
    have hroom:n+nx≤en.n:=by
      rw [hxl,←Nat.add_mul,h2,hes] at hfit
      exact Nat.le_of_mul_le_mul_right hfit hsz
    rcases h5 with ⟨q1,q2,q3⟩ | ⟨g,q1,q2,q3,_⟩
    · omega
    · obtain ⟨cur,t',f',r1,r2,r3,r4⟩:=q3 rfl
      obtain ⟨f1,fx,R1,Rx,hsub,hnd⟩:=hf g cur t' f' r1 r4 r3 hxne
      have hc0:c0≠0:=by omega
      obtain ⟨g',hg',ha0⟩:=hca.resolve_left hc0
      rw [q1] at hg';injection hg' with hg';subst hg'
      rw [Nat.zero_mul] at ha0
      subst ha0
      have hcl:=RL_length R1
      have hone:∀ u∈vs,u.oneCell'=true:=vs_one Rx hvl hok
      have hr:=run_append_room' (P:=P) (ty:=ty) w t e i ht hi g 0 n c0 cur t' r1 a' nx c vs (by rw [hvl,hxl]) hvs' hone (by omega) (by omega)
      simp only [Nat.zero_add] at hr
      obtain ⟨fa,fb,fc,rfl,hR⟩:=RL_splice (o:=n*i.size) (vs:=cur.toList) (ws:=vs) (by simpa using R1) (by simpa using hcl) Rx hvl (by omega)
      have hsize2:(cur.toList.take (n*i.size)++vs++cur.toList.drop (n*i.size+vs.length)).toArray.size=cur.size:=by
        simp only [List.size_toArray,List.length_append,List.length_take,List.length_drop,Array.length_toList]
        omega
      have hnd0:=H.nd id
      rw [r3,List.nodup_cons] at hnd0
      have hgf:∀ q∈fa++(fx++fc),q≠g:=by
        rintro q hq rfl
        apply hnd0.1
        apply hsub
        simp at hq ⊢
        rcases hq with h | h | h<;>simp [h]
      have hnd1:(fa++(fx++fc)).Nodup:=by
        refine List.Nodup.sublist (l₂:=fa++(fx++(fb++fc))) (List.Sublist.append_left (List.Sublist.append_left (List.sublist_append_right fb fc) fx) fa) ?_
        refine (List.Perm.nodup_iff ?_).1 hnd
        rw [List.append_assoc]
        exact List.Perm.append_left fa List.perm_append_comm
      refine ⟨_,_,fun k=>if k=id then g::(fa++(fx++fc)) else m.fp k,hr,?_,mk _ (by omega)⟩
      refine H.write (f:=g::(fa++(fx++fc))) (g':=[]) he (by rw [r3];simp) (fun q hq=>?_) ?_ ⟨setAll_okc _ _ _ hok1 hok,by rw [setAll_length,hl1];exact h2,fun h=>h3 (List.eq_nil_of_length_eq_zero (by rw [←hl1,←setAll_length _ cs1 (n*i.size),h];rfl)),h4,.inr ⟨g,q1,q2,fun _=>⟨_,t',fa++(fx++fc),setRow_heap w g cur _ t' _ r1,by rw [hsize2,r2],rfl,?_⟩,fun h=>by cases h⟩⟩
      · rw [r3]
        left
        simp only [List.append_nil] at hq
        rcases List.mem_cons.1 hq with rfl | hq
        · simp
        · refine List.mem_cons_of_mem _ (hsub q ?_)
          simp at hq ⊢
          rcases hq with h | h | h<;>simp [h]
      · rw [List.append_nil,List.nodup_cons]
        exact ⟨fun h=>hgf g h rfl,hnd1⟩
      · refine RL_mono (Mem.le.refl m) (fun q hq=>setRow_other w g q _ (hgf q hq)) (fun i u h=>?_) hR
        simpa using h
theorem append_types (w:World) {t t' e e2:TypeId} (ht:P.underlying t=some (.slice e)) (ht':P.underlying t'=some (.slice e2)) (ty:TypeId) (args:Array Value):(Builtin.append_ #[t,t'] ty args).run P w=(Builtin.append_ #[t,t] ty args).run P w:=by
  unfold Builtin.append_
  simp only [List.getElem?_toArray,List.getElem?_cons_zero,List.getElem?_cons_succ]
  cases args[0]? with
  |none=>cases args[1]?<;>simp
  |some x=>
    cases args[1]? with
    |none=>simp
    |some y=>cases x<;>simp [run_underlying ht,run_underlying ht']
theorem go_append (hcd:m.cd=fid) {t t' e e2:TypeId} {i:TypeInfo} {s x:Operand} {s' x':SX} (hop:o.op=.call { callee:=.builtin .append,args:=#[s,x],argTypes:=#[t,t'] }) (ht:P.underlying t=some (.slice e)) (ht':P.underlying t'=some (.slice e2)) (hi:P.info? e=some i)
    (hz:i.size=(i.zero.map (·.cells.size)).getD 0) (hb:0<i.bytes) (hsz:0<i.size) (h1:opd fid s=some s') (h2:opd fid x=some x')
    (hs:astep hp (St.ev ⟨env,hp,l0,mk⟩) (.append i.size i.bytes s' x')=some (v,hp')) (H:HInv fr w0 m hp w []) (E:EnvOk m env a.tmps):Goes P o a w fr w0 m v hp':=by
  have k1:=opd_ok (st:=⟨env,hp,l0,mk⟩) hcd h1 E
  have k2:=opd_ok (st:=⟨env,hp,l0,mk⟩) hcd h2 E
  obtain ⟨z,hz1,hz2⟩:∃ z,i.zero=some z∧z.cells.size=i.size:=by
    cases hq:i.zero with
    |none=>rw [hq] at hz;simp at hz;omega
    |some z=>exact ⟨z,rfl,by rw [hz,hq];rfl⟩
  have hex:∀ u w',(Builtin.append_ #[t,t] o.type #[a.eval s,a.eval x]).run P w=.ok u w'→(execOp a.eval o).run P w=.ok (.value u) w':=by
    intro u w' h
    rw [←append_types w ht ht'] at h
    simp only [execOp,hop,resolve,invoke,builtin,Sem.run_bind,Sem.run_pure,Result.andThen_ok,List.map_toArray,List.map_cons,List.map_nil,h]
  simp only [astep,obI] at hs
  obtain ⟨xs,hxs,hs⟩:=hs
  have hdiv:∀ n,xs.length=n*i.size→xs.length / i.size=n:=fun n h=>by rw [h,Nat.mul_div_cancel _ hsz]
  have live:∀ {j:Nat},(hp[j]?).any (fun b=>match b with | .row false _=>true | _=>false)=true→∀ sj,St.ev ⟨env,hp,l0,mk⟩ x'=.own sj j→hp[j]? = some (.row false xs)∧sj=i.size:=by
    intro j hl sj hxj
    rw [hxj] at hxs
    simp only [slc] at hxs
    split at hxs
    · rename_i hss
      refine ⟨?_,hss⟩
      cases hq:hp[j]? with
      |none=>rw [hq] at hl;simp at hl
      |some b=>
        rw [hq] at hl
        simp only [Option.any_some] at hl
        simp only [rowc,hq,Option.bind_some] at hxs
        split at hl
        · simp only [Blk.cells,Option.some.injEq] at hxs;rw [hxs]
        · cases hl
    · cases hxs
  split at hs
  · rename_i hx
    rw [hx] at k1
    simp only [C] at k1
    split at hs
    · rename_i hni
      split at hs
      · rename_i hc
        simp only [Option.some.injEq,Prod.mk.injEq] at hs
        obtain ⟨rfl,rfl⟩:=hs
        obtain ⟨ad,n,c,vs,f,hu,hnc,hxl,hvl,hvs,hR,hok⟩:=slc_ok H hsz k2 hxs
        obtain ⟨_,hf⟩:=CL_of_RL _ _ _ hni hR
        subst hf
        obtain ⟨u,w',e',F,hrun,HH,hCC⟩:=app_core (P:=P) (ty:=o.type) (ad0:=none) (n0:=0) (c0:=0) (cs:=[]) (f1:=[]) (c:=c) ht hi hz1 hz2 hb hsz (by simp) (Nat.le_refl 0) rfl (.inl ⟨rfl,rfl⟩) hxl hvl hvs hR hok H (by rw [hdiv n hxl] at hc;simpa using hc)
        exact ⟨_,u,w',_,hex u w' (by rw [k1,hu];exact hrun),.inl rfl,ext_app _ _,hCC,HH⟩
      · cases hs
    · split at hs
      · rename_i sj j hxj
        split at hs
        · rename_i hc
          simp only [Option.some.injEq,Prod.mk.injEq] at hs
          obtain ⟨rfl,rfl⟩:=hs
          obtain ⟨hbj,rfl⟩:=live hc.1 sj hxj
          rw [hxj] at k2
          obtain ⟨ad,n,c,vs,f',hu,hnc,hxl,hvl,hvs,hR,hok,hsub,hnd⟩:=own_src H k2 hbj
          have Hk:=(H.kill j).fsub (fl':=[]++f') (fun q hq=>by simp at hq ⊢;exact hsub q hq) (by simpa using hnd)
          obtain ⟨u,w',e',F,hrun,HH,hCC⟩:=app_core (P:=P) (ty:=o.type) (ad0:=none) (n0:=0) (c0:=0) (cs:=[]) (f1:=[]) (c:=c) ht hi hz1 hz2 hb hsz (by simp) (Nat.le_refl 0) rfl (.inl ⟨rfl,rfl⟩) hxl hvl hvs (RL_mono (le_fp _) (fun _ _=>rfl) (fun _ _ h=>h) hR) hok Hk (by have:=hc.2;rw [hdiv n hxl] at this;simpa using this)
          refine ⟨_,u,w',_,hex u w' (by rw [k1,hu];exact hrun),.inl rfl,(ext_fp _).trans (ext_app _ _),?_,HH⟩
          simpa using hCC
        · cases hs
      · cases hs
  · rename_i s2 id hx
    rw [hx] at k1
    split at hs
    · rename_i cs hbi
      split at hs
      · rename_i hss
        subst hss
        split at hs
        · rename_i hfit
          obtain ⟨ad0,n0,c0,hu0,hn0,hcl,hc0,hok0,hdest⟩:=own_dst H k1 hbi
          have hdiv0:cs.length / i.size=n0:=by rw [hcl,Nat.mul_div_cancel _ hsz]
          rw [hdiv0] at hfit
          have fin:∀ {hp1:List Blk} {m1:Mem} {fx:List Nat} {ad n c} {vs:List Value},a.eval x=.slice ad n c→Ext fr m m1→HInv fr w0 m1 hp1 w (m.fp id++fx)→RL m1 w xs (fun j=>vs[j]?) fx→xs.length=n*i.size→vs.length=xs.length→(∀ (j:Nat) v,vs[j]? = some v→∃ a',ad=some a'∧w.cell? (a'.add j)=some v)→xs.all AV.okc=true→hp1.length=hp.length →
              v=.own i.size hp.length→hp'=hp1++[.row false (cs++xs)]→Goes P o a w fr w0 m v hp':=by
            intro hp1 m1 fx ad n c vs hu E1 H1 hR hxl hvl hvs hok hl e1 e2
            subst e1;subst e2
            rw [hdiv n hxl] at hfit
            obtain ⟨u,w',e',F,hrun,HH,hCC⟩:=app_core (P:=P) (ty:=o.type) (ad0:=ad0) (n0:=n0) (c0:=c0) (cs:=cs) (f1:=m.fp id) (c:=c) ht hi hz1 hz2 hb hsz hcl hn0 hok0
              (by rcases hdest with ⟨h1, h2⟩ | ⟨g, cur, t', f', q1, q2, q3, q4, q5⟩
                  · exact .inl ⟨h1,h2⟩
                  · exact .inr ⟨g,cur,t',f',q1,q2,q3,q4,RL_mono E1.le (fun _ _=>rfl) (fun _ _ h=>h) q5⟩) hxl hvl hvs hR hok H1 hfit
            refine ⟨_,u,w',_,hex u w' (by rw [hu0,hu];exact hrun),.inl rfl,E1.trans (ext_app _ _),?_,HH⟩
            rw [←hl];exact hCC
          split at hs
          · rename_i hni
            simp only [Option.some.injEq,Prod.mk.injEq] at hs
            obtain ⟨rfl,rfl⟩:=hs
            obtain ⟨ad,n,c,vs,f,hu,hnc,hxl,hvl,hvs,hR,hok⟩:=slc_ok H hsz k2 hxs
            obtain ⟨_,hf⟩:=CL_of_RL _ _ _ hni hR
            subst hf
            exact fin hu (ext_fp _) (by simpa using H.kill id) (RL_mono (le_fp _) (fun _ _=>rfl) (fun _ _ h=>h) hR) hxl hvl hvs hok (by simp) rfl rfl
          · split at hs
            · rename_i sj j hxj
              split at hs
              · rename_i hc
                simp only [Option.some.injEq,Prod.mk.injEq] at hs
                obtain ⟨rfl,rfl⟩:=hs
                obtain ⟨hbj,rfl⟩:=live hc.2 sj hxj
                rw [hxj] at k2
                obtain ⟨ad,n,c,vs,f',hu,hnc,hxl,hvl,hvs,hR,hok,hsub,hnd⟩:=own_src H k2 hbj
                have Hk:=H.kill id
                rw [List.append_nil] at Hk
                have Hk2:=Hk.kill j
                have hfj:(if j=id then [] else m.fp j)=m.fp j:=if_neg hc.1
                have Hk3:=Hk2.fsub (fl':=m.fp id++f') (fun q hq=>by
                  rcases List.mem_append.1 hq with h | h
                  · exact List.mem_append_right _ h
                  · refine List.mem_append_left _ ?_
                    show q∈(if j=id then [] else m.fp j)
                    rw [hfj];exact hsub q h) (by
                  rw [List.nodup_append]
                  exact ⟨H.nd id,hnd,fun a ha b hb e=>hc.1 (H.dj j id a (by rw [e];exact hsub b hb) ha)⟩)
                exact fin hu ((ext_fp _).trans (ext_fp _)) Hk3 (RL_mono ((le_fp _).trans (le_fp _)) (fun _ _=>rfl) (fun _ _ h=>h) hR) hxl hvl hvs hok (by simp) rfl rfl
              · cases hs
            · cases hs
        · cases hs
      · cases hs
    · cases hs
  · rename_i s2 id o2 n hx
    rw [hx] at k1
    split at hs
    · rename_i cs hbi
      split at hs
      · rename_i hc
        obtain ⟨rfl,rfl,hfit⟩:=hc
        obtain ⟨ad,nx,c,vs,f,hu,hnc,hxl,hvl,hvs,hR,hok⟩:=slc_ok H hsz k2 hxs
        have hokc:cs.all AV.okc=true:=by
          obtain ⟨_,_,h1,_⟩:=H.at_ hbi
          exact h1
        split at hs
        · rename_i hni
          simp only [Option.some.injEq,Prod.mk.injEq] at hs
          obtain ⟨rfl,rfl⟩:=hs
          obtain ⟨hCL,hf0⟩:=CL_of_RL _ _ _ hni hR
          obtain ⟨u,w',F,hrun,HH,hCC⟩:=app_in (P:=P) (ty:=o.type) (c:=c) (cs1:=cs) ht hi hsz k1 hbi H hxl hvl hvs hok hfit rfl hokc (fun _=>rfl)
            (fun g cur t' f' q1 q2 q3 _=>⟨f',[],q2,by subst hf0;exact hR,by simp,by have:=H.nd id;rw [q3,List.nodup_cons] at this;simpa using this.2⟩)
          rw [hdiv nx hxl]
          exact ⟨_,u,w',_,hex u w' (by rw [hu];exact hrun),.inl rfl,ext_fp _,hCC,HH⟩
        · split at hs
          · rename_i sj j o3 n3 hxj
            split at hs
            · rename_i hji
              subst hji
              simp only [Option.some.injEq,Prod.mk.injEq] at hs
              obtain ⟨rfl,rfl⟩:=hs
              rw [hxj] at hxs k2
              simp only [slc] at hxs
              split at hxs
              · rename_i hss
                subst hss
                simp only [rowc,hbi,Option.bind_some,Blk.cells] at hxs
                simp only [part] at hxs
                split at hxs
                · rename_i hple
                  injection hxs with hxs
                  have hlx:xs.length=n3*i.size:=by rw [←hxs];simp;rw [Nat.add_mul] at hple;omega
                  have hol:o3*i.size+xs.length≤cs.length:=by rw [hlx,←Nat.add_mul];exact hple
                  have hrep:(List.replicate xs.length AV.any).all AV.okc=true:=by
                    rw [List.all_eq_true];intro y hy;rw [List.eq_of_mem_replicate hy];rfl
                  obtain ⟨u,w',F,hrun,HH,hCC⟩:=app_in (P:=P) (ty:=o.type) (c:=c) (cs1:=setAll cs (o3*i.size) (List.replicate xs.length .any)) ht hi hsz k1 hbi H hxl hvl hvs hok hfit (setAll_length _ _ _) (setAll_okc _ _ _ hokc hrep) (fun h=>by subst h;rfl)
                    (fun g cur t' f' q1 q2 q3 hxne=>by
                      obtain ⟨fa,f2,rfl,ha,hb2⟩:=CL_get q2 (o3*i.size)
                      have hto:(cs.take (o3*i.size)).length=o3*i.size:=by simp;omega
                      rw [hto] at hb2
                      obtain ⟨fb,fc,rfl,hbb,hcc⟩:=CL_get hb2 (n3*i.size)
                      rw [hxs] at hbb
                      have htu:((cs.drop (o3*i.size)).take (n3*i.size)).length=xs.length:=by rw [hxs]
                      rw [htu,List.drop_drop] at hcc
                      have hnd:=H.nd j
                      rw [q3,List.nodup_cons] at hnd
                      simp only [C] at k2
                      obtain ⟨e3,he3,_,_,ad3,c3,hu3,_,_,hca3⟩:=k2
                      rw [hu] at hu3
                      injection hu3 with e1 e2 e3'
                      subst e1;subst e2;subst e3'
                      obtain ⟨_,h52,h53,h54,h5⟩:=H.blk j _ e3 hbi he3
                      rcases h5 with ⟨z1,z2,_⟩ | ⟨g3,z1,z2,z3,_⟩
                      · exfalso
                        apply hxne
                        refine List.eq_nil_of_length_eq_zero ?_
                        have:cs=[]:=List.eq_nil_of_length_eq_zero (by rw [h52,show e3.n=0 by omega];simp)
                        rw [this] at hol;simp at hol;simpa using hol.2
                      · obtain ⟨cur3,t3,f3,y1,y2,y3,_⟩:=z3 rfl
                        rw [q3] at y3
                        injection y3 with y3 _
                        subst y3
                        rw [q1] at y1
                        injection y1 with y1;injection y1 with y1
                        subst y1
                        have hval:∀ k,k<xs.length→vs[k]? = cur[o3*i.size+k]?:=by
                          intro k hk
                          obtain ⟨a2,w1,w2⟩:=hvs k _ (List.getElem?_eq_getElem (by omega))
                          rcases hca3 with hc0 | ⟨g4,z4,z5⟩
                          · exfalso
                            have:nx=0:=by omega
                            rw [this] at hxl;simp at hxl;rw [hxl] at hk;simp at hk
                          · rw [z1] at z4;injection z4 with z4;subst z4
                            rw [z5] at w1;injection w1 with w1;subst w1
                            rw [addr_add] at w2
                            simp [World.cell?,q1] at w2
                            rw [List.getElem?_eq_getElem (by omega),w2]
                        refine ⟨fa++fc,fb,?_,RL_congr (fun k hk=>hval k hk) hbb,fun q hq=>?_,?_⟩
                        · rw [setAll_eq _ _ _ (by simpa using hol),List.append_assoc,RL_append]
                          refine ⟨fa,fc,rfl,ha,?_⟩
                          rw [RL_append]
                          refine ⟨[],fc,rfl,?_,?_⟩
                          · rw [hto]
                            refine RL_of_CL _ _ ?_
                            rw [CL_iff]
                            intro k y hk
                            have hk1:k<xs.length:=by have:=(List.getElem?_eq_some_iff.1 hk).1;simpa using this
                            rw [List.getElem?_replicate,if_pos hk1] at hk
                            injection hk with hk
                            subst hk
                            have hkv:=hval k hk1
                            rw [List.getElem?_eq_getElem (show k<vs.length by omega)] at hkv
                            refine ⟨_,hkv.symm,?_⟩
                            simp only [C]
                            exact vs_one hR hvl hok _ (List.getElem_mem _)
                          · rw [hto,List.length_replicate];rw [←hxl] at hcc;exact hcc
                        · simp at hq ⊢
                          rcases hq with h | h | h<;>simp [h]
                        · refine (List.Perm.nodup_iff ?_).1 hnd.2
                          rw [List.append_assoc]
                          exact List.Perm.append_left fa List.perm_append_comm)
                  rw [hdiv nx hxl]
                  exact ⟨_,u,w',_,hex u w' (by rw [hu];exact hrun),.inl rfl,ext_fp _,hCC,HH⟩
                · cases hxs
              · cases hxs
            · cases hs
          · cases hs
      · cases hs
    · cases hs
  · cases hs
end
end Go.Proofs.Ytfbfbennheeglaa
