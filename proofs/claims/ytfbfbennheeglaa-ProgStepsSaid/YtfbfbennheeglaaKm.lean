import Derived.Test.YtfbfbennheeglaaKu
import Derived.Lib.AppendZeros
namespace Go.Proofs.Ytfbfbennheeglaa
set_option linter.unusedSimpArgs false
set_option linter.unusedVariables false
open Go.RowKit
section
variable {P:Program} {fid:FuncId→Option Nat} {fr:Nat→Prop} {w0 w:World} {m:Mem} {hp hp':List Blk} {env:List (Nat × AV)} {a:Act} {o:Oper} {v:AV} {l0:Nat} {mk:List Mark} {fl:List Nat}
theorem CL_tile {m:Mem} {z:List AV} {zs:Array Value} (hC:CL m z (fun i=>zs[i]?)) (hl:z.length=zs.size) (hz:0<z.length):∀ n,CL m (tile n z) (fun i=>(madeCells zs (n*z.length))[i]?):=by
 have key:∀ n k,CL m (tile n z) (fun i=>if i<n*z.length then zs[(k*z.length+i) % zs.size]? else none):=by
  intro n
  induction n with
  |zero=>intro k;simp [tile,CL]
  |succ n ih=>
   intro k
   rw [CL_iff]
   intro i x hx
   simp only [tile] at hx
   by_cases hi:i<z.length
   ·rw [List.getElem?_append_left hi] at hx
    obtain ⟨u,hu,hCu⟩:=CL_iff.1 hC i x hx
    refine ⟨u,?_,hCu⟩
    rw [if_pos (by rw [Nat.add_mul];omega),←hl,Nat.mul_comm,Nat.mul_add_mod,Nat.mod_eq_of_lt hi]
    exact hu
   ·rw [List.getElem?_append_right (by omega)] at hx
    obtain ⟨u,hu,hCu⟩:=CL_iff.1 (ih (k+1)) _ x hx
    refine ⟨u,?_,hCu⟩
    split at hu
    ·rename_i hlt
     rw [if_pos (by rw [Nat.add_mul];omega),←hu]
     congr 2
     rw [Nat.add_mul];omega
    ·cases hu
 intro n
 have:=key n 0
 rw [CL_iff] at this ⊢
 intro i x hx
 obtain ⟨u,hu,hCu⟩:=this i x hx
 refine ⟨u,?_,hCu⟩
 split at hu
 ·rename_i hlt
  simp only [Nat.zero_mul,Nat.zero_add] at hu
  have hm:i % zs.size<zs.size:=Nat.mod_lt _ (by omega)
  rw [Array.getElem?_eq_getElem hm] at hu
  rw [madeCells,Array.getElem?_map,Array.getElem?_range,if_pos hlt]
  simp only [Option.map_some]
  rw [getElem!_pos zs _ hm]
  exact hu
 ·cases hu
theorem tile_length (z:List AV):∀ n,(tile n z).length=n*z.length
 |0=>by simp [tile]
 |n+1=>by simp only [tile,List.length_append,tile_length z n];rw [Nat.add_mul];omega
theorem tile_okc {z:List AV} (h:z.all AV.okc=true):∀ n,(tile n z).all AV.okc=true
 |0=>rfl
 |n+1=>by simp only [tile,List.all_append,h,tile_okc h n,Bool.and_self]
theorem CL_set {m:Mem} {cs:List AV} {vals:Array Value} (hC:CL m cs (fun i=>vals[i]?)) (hl:cs.length=vals.size) {u:AV} {x:Value} (hu:C m u x) (o:Nat):CL m (cs.set o u) (fun i=>(vals.setIfInBounds o x)[i]?):=by
 rw [CL_iff] at hC ⊢
 intro i y hy
 by_cases hi:o=i
 ·subst hi
  have hlt:o<cs.length:=by have:=(List.getElem?_eq_some_iff.1 hy).1;simpa using this
  rw [List.getElem?_set_self hlt] at hy
  injection hy with hy;subst hy
  exact ⟨x,by rw [Array.getElem?_setIfInBounds_self,if_pos (by omega)],hu⟩
 ·rw [List.getElem?_set_ne hi] at hy
  obtain ⟨v,hv,hCv⟩:=hC i y hy
  exact ⟨v,by rw [Array.getElem?_setIfInBounds_ne hi];exact hv,hCv⟩
theorem CL_write {m:Mem} (off:Nat):∀ (us:List AV) (ws:List Value) (k:Nat) (cs:List AV) (vals:Array Value),CL m us (fun i=>ws[i]?)→ws.length=us.length→CL m cs (fun i=>vals[i]?)→cs.length=vals.size →
  CL m (setAll cs (off+k) us) (fun i=>((ws.zipIdx k).foldl (fun cs p=>cs.setIfInBounds (off+p.2) p.1) vals)[i]?)∧((ws.zipIdx k).foldl (fun cs p=>cs.setIfInBounds (off+p.2) p.1) vals).size=vals.size
 | [],ws,k,cs,vals,_,hw,hC,hl=>by
  have:ws=[]:=List.eq_nil_of_length_eq_zero (by simpa using hw)
  subst this
  exact ⟨by simpa [setAll] using hC,rfl⟩
 |u::us,ws,k,cs,vals,hu,hw,hC,hl=>by
  cases ws with
  |nil=>simp at hw
  |cons x ws=>
   simp only [CL] at hu
   obtain ⟨⟨x',hx',hCx⟩,hu⟩:=hu
   simp at hx'
   subst hx'
   have h1:=CL_set hC hl hCx (off+k)
   obtain ⟨k1,k2⟩:=CL_write off us ws (k+1) (cs.set (off+k) u) (vals.setIfInBounds (off+k) x) (by simpa using hu) (by simpa using hw) h1 (by simp [hl])
   simp only [setAll,List.zipIdx_cons,List.foldl_cons]
   exact ⟨k1,by rw [k2];simp⟩
theorem fill_ok (hcd:m.cd=fid) {t:TypeId} {place:Nat→Option (Nat × Nat)} {hp0:List Blk} {l0:Nat} {mk:List Mark}:∀ (ps:List (Nat × Operand)) (qs:List (Nat × Nat × SX)) (cs cs':List AV) (vals:Array Value),
  places P fid t ps=some qs →
  (∀ (i:Nat) (x:Operand) (o s:Nat) (y:SX) (r:List (Nat × Nat × SX)),places P fid t [(i,x)]=some ((o,s,y)::r)→place i=some (o,s)∧opd fid x=some y) →
  EnvOk m env a.tmps→parts (St.ev ⟨env,hp0,l0,mk⟩) qs cs=some cs'→CL m cs (fun i=>vals[i]?)→cs.length=vals.size→cs.all AV.okc=true →
  ∃ vals',Instr.fill place vals (ps.map fun p=>(p.1,a.eval p.2))=some vals'∧CL m cs' (fun i=>vals'[i]?)∧cs'.length=vals'.size∧cs'.all AV.okc=true:=by
 intro ps
 induction ps with
 |nil=>
  intro qs cs cs' vals hq _ _ hp hC hl hok
  simp only [places] at hq;injection hq with hq;subst hq
  simp only [parts] at hp;injection hp with hp;subst hp
  exact ⟨vals,rfl,hC,hl,hok⟩
 |cons p ps ih=>
  intro qs cs cs' vals hq hpl E hp hC hl hok
  obtain ⟨i,x⟩:=p
  have hsplit:∃ o s y qs',qs=(o,s,y)::qs'∧places P fid t ps=some qs'∧places P fid t [(i,x)]=some [(o,s,y)]:=by
   simp only [places,obI] at hq ⊢
   obtain ⟨y,hy,qs',hqs',hq⟩:=hq
   split at hq
   ·rename_i fs hfs
    simp only [obI,omI] at hq
    obtain ⟨f,hf,s,hs,rfl⟩:=hq
    exact ⟨_,_,_,qs',rfl,hqs',y,hy,[],rfl,by simp [hf,hs]⟩
   ·simp only [omI] at hq
    obtain ⟨s,hs,rfl⟩:=hq
    exact ⟨_,_,_,qs',rfl,hqs',y,hy,[],rfl,by simp [hs]⟩
   ·simp only [omI] at hq
    obtain ⟨s,hs,rfl⟩:=hq
    exact ⟨_,_,_,qs',rfl,hqs',y,hy,[],rfl,by simp [hs]⟩
   ·cases hq
  obtain ⟨off,s,y,qs',rfl,hqs',hone⟩:=hsplit
  obtain ⟨hpi,hy⟩:=hpl i x off s y [] hone
  simp only [parts] at hp
  split at hp
  ·rename_i hc
   obtain ⟨hc1,hc2,hc3⟩:=hc
   have k:=opd_ok (st:=⟨env,hp0,l0,mk⟩) hcd hy E
   obtain ⟨d1,d2⟩:=cells_ok k (by rintro e;rw [e] at hc3;simp [AV.cells,AV.okc] at hc3) (by rintro vs e;rw [e] at hc3;simp [AV.cells,AV.okc] at hc3)
   have hsz:(a.eval x).cells.toList.length=(St.ev ⟨env,hp0,l0,mk⟩ y).cells.length:=by simpa using d2
   obtain ⟨f1,f2⟩:=CL_write off (St.ev ⟨env,hp0,l0,mk⟩ y).cells (a.eval x).cells.toList 0 cs vals (by simpa using d1) hsz hC hl
   obtain ⟨vals',g1,g2,g3,g4⟩:=ih qs' _ cs' _ hqs' hpl E hp f1 (by rw [setAll_length,f2,hl]) (setAll_okc _ _ _ hok hc3)
   refine ⟨vals',?_,g2,g3,g4⟩
   simp only [List.map_cons,Instr.fill,hpi]
   rw [if_neg (by simp;rw [d2];omega)]
   rw [←g1]
   congr 1
   rw [←Array.foldl_toList,Array.toList_zipIdx]
  ·cases hp
theorem mapM_places (w:World) (fs:List Field) (h:fs.all (fun f=>(szOf P f.type).isSome)=true):
  (fs.mapM fun f=>do pure (f.offset,←sizeOf f.type):Sem (List (Nat × Nat))).run P w=.ok (fs.map fun f=>(f.offset,(szOf P f.type).getD 0)) w:=by
 induction fs with
 |nil=>rfl
 |cons f fs ih=>
  simp only [List.all_cons,Bool.and_eq_true] at h
  obtain ⟨s,hs⟩:=Option.isSome_iff_exists.1 h.1
  simp only [List.mapM_cons,Sem.run_bind,szOf_ok hs,Result.andThen_ok,Sem.run_pure,ih h.2,List.map_cons,hs,Option.getD_some]
theorem build_struct {t:TypeId} {fs:Array Field} (ht:P.underlying t=some (.struct fs)) (hall:(fs.all fun f=>(szOf P f.type).isSome)=true):
  ∃ place,(∀ (i:Nat) (x:Operand) (o s:Nat) (y:SX) (r:List (Nat × Nat × SX)),places P fid t [(i,x)]=some ((o,s,y)::r)→place i=some (o,s)∧opd fid x=some y) ∧
   ∀ parts zv,(zeroValue t).run P w=.ok zv w→∀ cells,Instr.fill place zv.cells parts.toList=some cells→(Instr.build t parts).run P w=.ok (.agg cells) w:=by
 refine ⟨fun i=>((fs.toList.map fun f=>(f.offset,(szOf P f.type).getD 0)).toArray)[i]?,?_,?_⟩
 ·intro i x o s y r h
  simp only [places,obI,ht,omI] at h
  obtain ⟨y',hy,qs,hqs,f,hf,s',hs',h⟩:=h
  simp only [List.cons.injEq,Prod.mk.injEq] at h
  obtain ⟨⟨rfl,rfl,rfl⟩,_⟩:=h
  exact ⟨by simp [hf,hs'],hy⟩
 ·intro parts zv hzv cells hc
  have hall':fs.toList.all (fun f=>(szOf P f.type).isSome)=true:=by simpa using hall
  have hm:=mapM_places (P:=P) w fs.toList hall'
  have hm2:(fs.mapM fun f=>do pure (f.offset,←sizeOf f.type):Sem (Array (Nat × Nat))).run P w=.ok ((fs.toList.map fun f=>(f.offset,(szOf P f.type).getD 0)).toArray) w:=by
   rw [Array.mapM_eq_mapM_toList,map_eq_pure_bind,Sem.run_bind,hm]
   rfl
  simp only [Instr.build,Sem.run_bind,hzv,Result.andThen_ok,run_underlying ht,hm2,hc,Sem.run_pure]
theorem build_array {t e:TypeId} {n s:Nat} (ht:P.underlying t=some (.array n e)) (hs:szOf P e=some s):
  ∃ place,(∀ (i:Nat) (x:Operand) (o s:Nat) (y:SX) (r:List (Nat × Nat × SX)),places P fid t [(i,x)]=some ((o,s,y)::r)→place i=some (o,s)∧opd fid x=some y) ∧
   ∀ parts zv,(zeroValue t).run P w=.ok zv w→∀ cells,Instr.fill place zv.cells parts.toList=some cells→(Instr.build t parts).run P w=.ok (.agg cells) w:=by
 refine ⟨fun i=>some (i*s,s),?_,?_⟩
 ·intro i x o s' y r h
  simp only [places,obI,ht,omI,hs] at h
  obtain ⟨y',hy,qs,hqs,s2,hs2,h⟩:=h
  injection hs2 with hs2;subst hs2
  simp only [List.cons.injEq,Prod.mk.injEq] at h
  obtain ⟨⟨rfl,rfl,rfl⟩,_⟩:=h
  exact ⟨rfl,hy⟩
 ·intro parts zv hzv cells hc
  simp only [Instr.build,Sem.run_bind,hzv,Result.andThen_ok,run_underlying ht,szOf_ok hs,hc,Sem.run_pure]
theorem parts_length (ev:SX→AV):∀ (qs:List (Nat × Nat × SX)) (cs cs':List AV),parts ev qs cs=some cs'→cs'.length=cs.length
 | [],cs,cs',h=>by simp only [parts] at h;injection h with h;rw [h]
 | (o,s,x)::qs,cs,cs',h=>by
  simp only [parts] at h
  split at h
  ·rw [parts_length ev qs _ _ h,setAll_length]
  ·cases h
theorem go_build (hcd:m.cd=fid) {t:TypeId} {ps:Array (Nat × Operand)} {z:List AV} {qs:List (Nat × Nat × SX)} (hop:o.op=.build t ps) (hz:zeroOf P fid t=some z) (hq:places P fid t ps.toList=some qs)
  (hplace:∃ place,(∀ (i:Nat) (x:Operand) (o s:Nat) (y:SX) (r:List (Nat × Nat × SX)),places P fid t [(i,x)]=some ((o,s,y)::r)→place i=some (o,s)∧opd fid x=some y) ∧
   ∀ parts zv,(zeroValue t).run P w=.ok zv w→∀ cells,Instr.fill place zv.cells parts.toList=some cells→(Instr.build t parts).run P w=.ok (.agg cells) w)
  (hs:astep hp (St.ev ⟨env,hp,l0,mk⟩) (.build z qs)=some (v,hp')) (H:HInv fr w0 m hp w []) (E:EnvOk m env a.tmps):Goes P o a w fr w0 m v hp':=by
 obtain ⟨i,zv,hi,hz',c1,c2,c3⟩:=zeroOf_ok hcd hz
 obtain ⟨place,hpl,hrun⟩:=hplace
 simp only [astep,omI,Prod.mk.injEq] at hs
 obtain ⟨cs,hcs,rfl,rfl⟩:=hs
 obtain ⟨vals,g1,g2,g3,g4⟩:=fill_ok (P:=P) hcd ps.toList qs z cs zv.cells hq hpl E hcs c1 c2 c3
 have hzv:(zeroValue t).run P w=.ok zv w:=by simp [zeroValue,typeInfo,hi,hz']
 refine goes_pure H (u:=.agg vals) ?_ ?_
 ·have:=hrun (ps.map fun p=>(p.1,a.eval p.2)) zv hzv vals (by simpa using g1)
  simp only [execOp,hop,Sem.run_bind]
  rw [this]
  rfl
 ·simp only [C]
  exact ⟨g4,vals,rfl,g3.symm,g2⟩
theorem go_make (hcd:m.cd=fid) {t e:TypeId} {i:TypeInfo} {z:List AV} {l:Operand} {l':SX} (hop:o.op=.makeSlice t l l) (h1:opd fid l=some l') (ht:P.underlying t=some (.slice e)) (hi:P.info? e=some i) (hz:zeroOf P fid e=some z) (hsz:i.size=z.length) (hb:0<i.bytes) (hs0:0<i.size)
  (hs:astep hp (St.ev ⟨env,hp,l0,mk⟩) (.make z i.bytes l')=some (v,hp')) (H:HInv fr w0 m hp w []) (E:EnvOk m env a.tmps):Goes P o a w fr w0 m v hp':=by
 have k1:=opd_ok (st:=⟨env,hp,l0,mk⟩) hcd h1 E
 obtain ⟨i',zv,hi',hz',c1,c2,c3⟩:=zeroOf_ok hcd hz
 rw [hi] at hi';injection hi' with hi';subst hi'
 simp only [astep] at hs
 split at hs
 ·rename_i k n hx
  rw [hx] at k1
  simp only [C] at k1
  split at hs
  ·rename_i hc
   simp only [Option.some.injEq,Prod.mk.injEq] at hs
   obtain ⟨rfl,rfl⟩:=hs
   obtain ⟨N,rfl⟩:=Int.eq_ofNat_of_zero_le hc.1
   have hc2:N*i.bytes≤140737488355328:=by have:=hc.2;rw [←Int.natCast_mul] at this;omega
   have hN:N≤140737488355328:=Nat.le_trans (Nat.le_mul_of_pos_right N hb) hc2
   have hr:=run_make (P:=P) w t e i zv ht hi hz' k k N N (by omega) (Int.le_refl _) (by rw [Int.mul_comm];omega) (by omega)
   simp only [Int.toNat_natCast] at hr ⊢
   have hC:=CL_tile c1 c2 (by omega) N
   rw [←hsz] at hC
   have H2:=HInv.newRow (t:=e) (cap:=N) (n:=N) (sz:=i.size) H (RL_of_CL _ _ hC) (tile_okc c3 N) (size_madeCells _ _) (by rw [tile_length,hsz]) (fun h=>by
    have:=tile_length z N
    rw [h] at this
    rcases Nat.mul_eq_zero.1 (show N*z.length=0 from this.symm) with h | h<;>omega) (Nat.le_refl _)
   refine ⟨_,.slice (some ⟨w.heap.size,0,none⟩) N N,_,_,?_,.inl rfl,ext_app _ _,?_,H2⟩
   ·simp [execOp,hop,k1,hr]
   ·simp only [C]
    exact ⟨_,fp_new H.len _,rfl,hsz⟩
  ·cases hs
 ·cases hs
theorem go_room (hcd:m.cd=fid) {t e:TypeId} {i:TypeInfo} {z:List AV} {c:Nat} (hop:o.op=.makeSlice t (.const (.int .i64 0)) (.tmp c)) (ht:P.underlying t=some (.slice e)) (hi:P.info? e=some i) (hz:zeroOf P fid e=some z) (hsz:i.size=z.length) (hb:0<i.bytes) (hs0:0<i.size)
  (hs:astep hp (St.ev ⟨env,hp,l0,mk⟩) (.room z i.bytes (.tmp c))=some (v,hp')) (H:HInv fr w0 m hp w []) (E:EnvOk m env a.tmps):Goes P o a w fr w0 m v hp':=by
 have k1:=opd_ok (st:=⟨env,hp,l0,mk⟩) (x:=.tmp c) (y:=.tmp c) hcd rfl E
 obtain ⟨i',zv,hi',hz',c1,c2,c3⟩:=zeroOf_ok hcd hz
 rw [hi] at hi';injection hi' with hi';subst hi'
 simp only [astep] at hs
 split at hs
 ·rename_i k n hx
  rw [hx] at k1
  simp only [C] at k1
  split at hs
  ·rename_i hc
   simp only [Option.some.injEq,Prod.mk.injEq] at hs
   obtain ⟨rfl,rfl⟩:=hs
   obtain ⟨N,rfl⟩:=Int.eq_ofNat_of_zero_le hc.1
   have hc2:N*i.bytes≤140737488355328:=by have:=hc.2;rw [←Int.natCast_mul] at this;omega
   have hN:N≤140737488355328:=Nat.le_trans (Nat.le_mul_of_pos_right N hb) hc2
   have hr:=run_make (P:=P) w t e i zv ht hi hz' .i64 k 0 N (by omega) (by omega) (by rw [Int.mul_comm];omega) (by omega)
   simp only [Int.toNat_natCast] at hr ⊢
   have H2:=HInv.newRow (t:=e) (cap:=N) (n:=0) (sz:=i.size) (cs:=[]) (f:=[]) H (by simp [RL]) rfl (size_madeCells zv.cells (N*i.size)) (by simp) (fun _=>rfl) (Nat.zero_le _)
   refine ⟨_,.slice (some ⟨w.heap.size,0,none⟩) 0 N,_,_,?_,.inl rfl,ext_app _ _,?_,H2⟩
   ·have h0:a.eval (.const (.int .i64 0))=.int .i64 0:=rfl
    simp [execOp,hop,k1,h0,hr]
   ·simp only [C]
    exact ⟨_,fp_new H.len _,rfl,hsz⟩
  ·cases hs
 ·cases hs
theorem lit_place {t e:TypeId} {s:Nat} (ht:P.underlying t=some (.slice e)) (hsz:szOf P e=some s):∀ (i:Nat) (x:Operand) (o s':Nat) (y:SX) (r:List (Nat × Nat × SX)),places P fid t [(i,x)]=some ((o,s',y)::r)→(fun i=>some (i*s,s):Nat→Option (Nat × Nat)) i=some (o,s')∧opd fid x=some y:=by
 intro i x o s' y r h
 simp only [places,obI,ht,omI,hsz] at h
 obtain ⟨y',hy,qs,hqs,s2,hs2,h⟩:=h
 injection hs2 with hs2;subst hs2
 simp only [List.cons.injEq,Prod.mk.injEq] at h
 obtain ⟨⟨rfl,rfl,rfl⟩,_⟩:=h
 exact ⟨rfl,hy⟩
theorem go_lit (hcd:m.cd=fid) {mm:Bool} {t e:TypeId} {ps:Array (Nat × Operand)} {z:List AV} {len s:Nat} {qs:List (Nat × Nat × SX)} (hop:o.op=.buildSlice t len ps) (ht:P.underlying t=some (.slice e)) (hsz:szOf P e=some s) (hz:zeroOf P fid e=some z)
  (hsl:s=z.length) (hs0:0<s) (hmax:len*s≤2 ^ 24) (hq:places P fid t ps.toList=some qs)
  (hs:astep hp (St.ev ⟨env,hp,l0,mk⟩) (.lit mm z s len qs)=some (v,hp')) (H:HInv fr w0 m hp w []) (E:EnvOk m env a.tmps):Goes P o a w fr w0 m v hp':=by
 obtain ⟨i,zv,hi,hz',c1,c2,c3⟩:=zeroOf_ok hcd hz
 simp only [astep,obI] at hs
 obtain ⟨cs,hcs,hs⟩:=hs
 have htile:=CL_tile c1 c2 (by omega) len
 rw [←hsl] at htile
 obtain ⟨vals,g1,g2,g3,g4⟩:=fill_ok (P:=P) hcd ps.toList qs (tile len z) cs (madeCells zv.cells (len*s)) hq (lit_place ht hsz) E hcs htile (by rw [size_madeCells,tile_length,hsl]) (tile_okc c3 len)
 have hlen:cs.length=len*s:=by rw [parts_length _ _ _ _ hcs,tile_length,hsl]
 have hlen0:cs=[]→len=0:=by
  intro h
  rw [h] at hlen
  rcases Nat.mul_eq_zero.1 (show len*s=0 from hlen.symm) with h | h<;>omega
 have hrun:(Instr.buildSlice t len (ps.map fun p=>(p.1,a.eval p.2))).run P w=.ok (.slice (some ⟨w.heap.size,0,none⟩) len len) (w.alloc (.cells vals e)):=by
  have hnb:¬ len*s > 2 ^ 24:=by omega
  have hg1:Instr.fill (fun i=>some (i*s,s)) (madeCells zv.cells (len*s)) (ps.map fun p=>(p.1,a.eval p.2)).toList=some vals:=by simpa using g1
  have hzr:(zeroValue e).run P w=.ok zv w:=by simp [zeroValue,typeInfo,hi,hz']
  by_cases h0:len*s=0
  ·have hmade:(Array.range (len*s)).map (fun x=>(#[]:Array Value)[x % (#[]:Array Value).size]!)=madeCells zv.cells (len*s):=by rw [h0];simp [madeCells,Array.range_zero']
   simp only [Instr.buildSlice,Sem.run_bind,run_underlying ht,Result.andThen_ok,szOf_ok hsz,if_neg hnb,Sem.run_pure,if_pos h0,hmade,hg1]
   simp [newRow,newObj,Sem.run]
  ·have hmade:(Array.range (len*s)).map (fun x=>zv.cells[x % zv.cells.size]!)=madeCells zv.cells (len*s):=rfl
   simp only [Instr.buildSlice,Sem.run_bind,run_underlying ht,Result.andThen_ok,szOf_ok hsz,if_neg hnb,Sem.run_pure,if_neg h0,hzr,hmade,hg1]
   simp [newRow,newObj,Sem.run]
 have hex:(execOp a.eval o).run P w=.ok (.value (.slice (some ⟨w.heap.size,0,none⟩) len len)) (w.alloc (.cells vals e)):=by
  simp only [execOp,hop,Sem.run_bind]
  rw [hrun]
  rfl
 split at hs
 ·
  simp only [omI,Prod.mk.injEq] at hs
  obtain ⟨r,hr,rfl,rfl⟩:=hs
  obtain ⟨m1,f1,E1,i1,b1,H1,R1,l1,l2⟩:=pksL_ok (f0:=[]) (f:=[]) _ hr H (RL_of_CL _ _ g2)
  have hokr:r.1.all AV.okc=true:=by
   have key:∀ (xs:List AV) {hp:List Blk} {r:List AV × List Blk},pksL hp xs=some r→xs.all AV.okc=true→r.1.all AV.okc=true:=by
    intro xs
    induction xs with
    |nil=>intro hp r h _;simp only [pksL] at h;injection h with h;subst h;rfl
    |cons x xs ih=>
     intro hp r h k
     simp only [pksL,obI,omI] at h
     obtain ⟨a,ha,b,hb,rfl⟩:=h
     simp only [List.all_cons,Bool.and_eq_true] at k ⊢
     exact ⟨pks_okc (show pks hp x=some (a.1,a.2) from ha) k.1,ih hb k.2⟩
   exact key cs hr g4
  have H2:=HInv.newRow (t:=e) (cap:=len) (n:=len) (sz:=s) (by simpa using H1) R1 hokr (by rw [←g3,hlen]) (by rw [l2,hlen]) (fun h=>hlen0 (List.eq_nil_of_length_eq_zero (by rw [←l2,h];rfl))) (Nat.le_refl _)
  refine ⟨_,_,_,_,hex,.inl rfl,E1.trans (ext_app _ _),?_,H2⟩
  simp only [C]
  exact ⟨_,fp_new H1.len _,rfl,rfl⟩
 ·
  split at hs
  ·rename_i hid
   simp only [Option.some.injEq,Prod.mk.injEq] at hs
   obtain ⟨rfl,rfl⟩:=hs
   have H1:=(H.alloc0 (.cells vals e))
   have hfresh:∀ id,w.heap.size ∉ m.fp id:=fun id h=>Nat.lt_irrefl _ (H.own id _ h).2.1
   have hle:Mem.le m { m with im:=fun b o=>if b=w.heap.size then vals[o]? else m.im b o }:=by
    refine ⟨rfl,rfl,fun b o u h=>?_,fun _ _ h=>h⟩
    show (if _ then _ else _)=_
    rw [if_neg]
    ·exact h
    ·rintro rfl;exact Nat.lt_irrefl _ (H.imlt h)
   refine ⟨_,_,_,{ m with im:=fun b o=>if b=w.heap.size then vals[o]? else m.im b o },hex,.inl rfl,⟨hle,fun b hb o=>?_⟩,?_,?_⟩
   ·show (if _ then _ else _)=_
    rw [if_neg]
    rintro rfl;exact Nat.lt_irrefl _ (H.fix _ hb).1
   ·simp only [C]
    refine ⟨g4,_,len,len,rfl,hlen,hlen0,Nat.le_refl _,fun _=>⟨w.heap.size,0,rfl,?_⟩⟩
    refine CL_mono hle _ _ _ (fun i u hu=>?_) g2
    show (if _ then _ else _)=_
    rw [if_pos rfl,Nat.zero_add]
    exact hu
   ·refine ⟨H1.os,H1.tape,H1.output,H1.size,H1.fix,H1.len,?_,fun id b e' h k=>(H1.blk id b e' h k).mono hle (fun _ _=>rfl),?_,H1.nd,H1.dj,H1.fpz,by simp,by simp,by simp⟩
    ·intro b o u h
     change (if _ then _ else _)=_ at h
     split at h
     ·rename_i hb
      subst hb
      rw [World.cell?_alloc_at _ _ _ _ rfl]
      exact h
     ·rw [World.cell?_alloc_lt _ _ _ (H.imlt h)]
      exact H.im b o u h
    ·intro id g hg
     obtain ⟨q1,q2,q3⟩:=H1.own id g hg
     refine ⟨q1,q2,fun o=>?_⟩
     show (if _ then _ else _)=_
     rw [if_neg]
     ·exact q3 o
     ·rintro rfl;exact hfresh id hg
  ·cases hs
theorem over (H:HInv fr w0 m hp w []) {id off:Nat} {cs us:List AV} {en:Ent} {g:Nat} (he:m.bl[id]? = some en) (hb:hp[id]? = some (.row false cs)) (hg:en.b=some g) {ws:List Value} (hC:CL m us (fun j=>ws[j]?)) (hl:ws.length=us.length) (hok:us.all AV.okc=true) (hfit:off+us.length≤cs.length):
  ∃ w' F,(storeCells ⟨g,off,none⟩ ws).run P w=.ok () w'∧HInv fr w0 { m with fp:=F } (hp.set id (.row false (setAll cs off us))) w' []:=by
 obtain ⟨h1,h2,h3,h4,h5⟩:=H.blk id _ en hb he
 rcases h5 with ⟨q1,_⟩ | ⟨g',q1,q2,q3,_⟩
 ·rw [hg] at q1;cases q1
 ·rw [hg] at q1;injection q1 with q1;subst q1
  obtain ⟨cur,t',f',r1,r2,r3,r4⟩:=q3 rfl
  have hcl:=RL_length r4
  have hone:∀ u∈ws,u.oneCell'=true:=vs_one (w:=w) (RL_of_CL _ _ hC) hl hok
  have hst:=run_storeCells_at P g off t' ws 0 cur w r1 (by omega) hone
  simp only [Nat.add_zero] at hst
  obtain ⟨fa,fb,fc,rfl,hR⟩:=RL_splice (o:=off) (vs:=cur.toList) (ws:=ws) (by simpa using r4) (by simpa using hcl) (RL_of_CL (w:=w) _ _ hC) hl hfit
  have hsize2:(cur.toList.take off++ws++cur.toList.drop (off+ws.length)).toArray.size=cur.size:=by
   simp only [List.size_toArray,List.length_append,List.length_take,List.length_drop,Array.length_toList]
   omega
  have hnd0:=H.nd id
  rw [r3,List.nodup_cons] at hnd0
  have hgf:∀ q∈fa++fc,q≠g:=by
   rintro q hq rfl
   apply hnd0.1
   simp at hq ⊢
   rcases hq with h | h<;>simp [h]
  refine ⟨_,fun k=>if k=id then g::(fa++([]++fc)) else m.fp k,hst,?_⟩
  refine H.write (f:=g::(fa++([]++fc))) (g':=[]) he (by rw [r3];simp) (fun q hq=>?_) ?_ ⟨setAll_okc _ _ _ h1 hok,by rw [setAll_length];exact h2,fun h=>h3 (List.eq_nil_of_length_eq_zero (by rw [←setAll_length us cs off,h];rfl)),h4,.inr ⟨g,hg,q2,fun _=>⟨_,t',fa++([]++fc),setRow_heap w g cur _ t' _ r1,by rw [hsize2,r2],rfl,?_⟩,fun h=>by cases h⟩⟩
  ·rw [r3]
   left
   simp at hq ⊢
   rcases hq with h | h | h<;>simp [h]
  ·rw [List.append_nil,List.nodup_cons]
   refine ⟨fun h=>hgf g (by simpa using h) rfl,?_⟩
   exact List.Nodup.sublist (by simp) hnd0.2
  ·refine RL_mono (Mem.le.refl m) (fun q hq=>setRow_other w g q _ (hgf q (by simpa using hq))) (fun i u h=>?_) hR
   simpa using h
theorem go_clear (hcd:m.cd=fid) {t e:TypeId} {z:List AV} {x:Operand} {x':SX} (hop:o.op=.call { callee:=.builtin .clear,args:=#[x],argTypes:=#[t] }) (ht:P.underlying t=some (.slice e)) (hz:zeroOf P fid e=some z) (hz0:0<z.length) (hsz:szOf P e=some z.length) (h1:opd fid x=some x')
  (hs:astep hp (St.ev ⟨env,hp,l0,mk⟩) (.clear z x')=some (v,hp')) (H:HInv fr w0 m hp w []) (E:EnvOk m env a.tmps):Goes P o a w fr w0 m v hp':=by
 have k1:=opd_ok (st:=⟨env,hp,l0,mk⟩) hcd h1 E
 obtain ⟨i,zv,hi,hz',c1,c2,c3⟩:=zeroOf_ok hcd hz
 have hzr:∀ w,(zeroValue e).run P w=.ok zv w:=fun w=>by simp [zeroValue,typeInfo,hi,hz']
 have hex:∀ w',(Builtin.clear_ #[t] o.type #[a.eval x]).run P w=.ok (.tuple #[]) w'→(execOp a.eval o).run P w=.ok (.value (.tuple #[])) w':=by
  intro w' h
  simp only [execOp,hop,resolve,invoke,builtin,Sem.run_bind,Sem.run_pure,Result.andThen_ok,List.map_toArray,List.map_cons,List.map_nil,h]
 have hnone:∀ ad c,a.eval x=.slice ad 0 c→(Builtin.clear_ #[t] o.type #[a.eval x]).run P w=.ok (.tuple #[]) w:=by
  intro ad c h
  rw [h]
  cases ad<;>simp [Builtin.clear_,run_underlying ht]
 have hC:∀ m':Mem,C m' (.tup []) (.tuple #[]):=fun m'=>by simp [C,CL]
 have key:∀ (id o2 n c:Nat) (cs:List AV) (en:Ent) (g:Nat),m.bl[id]? = some en→hp[id]? = some (.row false cs)→en.b=some g→a.eval x=.slice (some ⟨g,o2*z.length,none⟩) n c→n≠0→(o2+n)*z.length≤cs.length →
   v=.tup []→hp'=hp.set id (.row false (setAll cs (o2*z.length) (tile n z)))→Goes P o a w fr w0 m v hp':=by
  intro id o2 n c cs en g he hb hg hu hn hfit e1 e2
  subst e1;subst e2
  have hCt:=CL_tile c1 c2 hz0 n
  have hzc:(Builtin.zeroCells zv.cells n).toList=(madeCells zv.cells (n*z.length)).toList:=by rw [c2];rfl
  obtain ⟨w',F,hrun,HH⟩:=over (P:=P) H he hb hg (us:=tile n z) (ws:=(madeCells zv.cells (n*z.length)).toList) (off:=o2*z.length) (by simpa using hCt) (by rw [Array.length_toList,size_madeCells,tile_length]) (tile_okc c3 n) (by rw [tile_length];rw [Nat.add_mul] at hfit;exact hfit)
  refine ⟨_,_,w',_,hex w' ?_,.inl rfl,ext_fp F,hC _,HH⟩
  rw [hu]
  obtain ⟨n',rfl⟩:∃ n',n=n'+1:=⟨n - 1,by omega⟩
  simp [Builtin.clear_,run_underlying ht,hzr,hzc,hrun]
 simp only [astep] at hs
 split at hs
 ·rename_i hx
  rw [hx] at k1
  simp only [C] at k1
  simp only [Option.some.injEq,Prod.mk.injEq] at hs
  obtain ⟨rfl,rfl⟩:=hs
  exact goes_pure H (hex w (hnone none 0 k1)) (hC m)
 ·rename_i s2 id hx
  rw [hx] at k1
  simp only [C] at k1
  obtain ⟨en,he,hu,hes⟩:=k1
  split at hs
  ·rename_i cs hb
   split at hs
   ·rename_i hss
    subst hss
    obtain ⟨q1,q2,q3,q4,q5⟩:=H.blk id _ en hb he
    rw [hes] at q2
    have hdiv:cs.length / z.length=en.n:=by rw [q2,Nat.mul_div_cancel _ hz0]
    rw [hdiv] at hs
    simp only [Option.some.injEq,Prod.mk.injEq] at hs
    obtain ⟨rfl,rfl⟩:=hs
    by_cases hn:en.n=0
    ·have hcs:cs=[]:=List.eq_nil_of_length_eq_zero (by rw [q2,hn];simp)
     subst hcs
     rw [hn] at hu ⊢
     have:hp.set id (.row false (tile 0 z))=hp:=set_same hb
     rw [this]
     exact goes_pure H (hex w (hnone _ _ hu)) (hC m)
    ·rcases q5 with ⟨r1,r2,_⟩ | ⟨g,r1,r2,_⟩
     ·omega
     ·rw [r2] at hu
      have hfull:setAll cs (0*z.length) (tile en.n z)=tile en.n z:=by
       rw [Nat.zero_mul,setAll_eq _ _ _ (by rw [tile_length,q2];omega),tile_length,←q2]
       simp
      refine key id 0 en.n en.cap cs en g he hb r1 (by simpa using hu) hn (by rw [q2];simp) rfl ?_
      rw [hfull]
   ·cases hs
  ·cases hs
 ·rename_i s2 id o2 n hx
  rw [hx] at k1
  simp only [C] at k1
  obtain ⟨en,he,hes,_,ad,c,hu,hnc,hco,hca⟩:=k1
  split at hs
  ·rename_i cs hb
   split at hs
   ·rename_i hc
    obtain ⟨rfl,hfit⟩:=hc
    simp only [Option.some.injEq,Prod.mk.injEq] at hs
    obtain ⟨rfl,rfl⟩:=hs
    by_cases hn:n=0
    ·subst hn
     simp only [tile,setAll,set_same hb]
     exact goes_pure H (hex w (hnone _ _ hu)) (hC m)
    ·obtain ⟨g,hg,rfl⟩:=hca.resolve_left (by omega)
     exact key id o2 n c cs en g he hb hg hu hn hfit rfl rfl
   ·cases hs
  ·cases hs
 ·cases hs
theorem go_copy (hcd:m.cd=fid) {t e:TypeId} {sz:Nat} {s x:Operand} {s' x':SX} (hop:o.op=.call { callee:=.builtin .copy,args:=#[s,x],argTypes:=#[t,t] }) (ht:P.underlying t=some (.slice e)) (hz:szOf P e=some sz) (hz0:0<sz) (h1:opd fid s=some s') (h2:opd fid x=some x')
  (hs:astep hp (St.ev ⟨env,hp,l0,mk⟩) (.copy sz s' x')=some (v,hp')) (H:HInv fr w0 m hp w []) (E:EnvOk m env a.tmps):Goes P o a w fr w0 m v hp':=by
 have k1:=opd_ok (st:=⟨env,hp,l0,mk⟩) hcd h1 E
 have k2:=opd_ok (st:=⟨env,hp,l0,mk⟩) hcd h2 E
 have hszr:=szOf_ok hz
 simp only [astep,obI] at hs
 obtain ⟨xs,hxs,hs⟩:=hs
 obtain ⟨ad,nx,c,vs,f,hu,hnc,hxl,hvl,hvs,hR,hok⟩:=slc_ok H hz0 k2 hxs
 have hdiv:xs.length / sz=nx:=by rw [hxl,Nat.mul_div_cancel _ hz0]
 simp only [hdiv] at hs
 have hex:∀ u w',(Builtin.copy_ #[t,t] o.type #[a.eval s,a.eval x]).run P w=.ok u w'→(execOp a.eval o).run P w=.ok (.value u) w':=by
  intro u w' h
  simp only [execOp,hop,resolve,invoke,builtin,Sem.run_bind,Sem.run_pure,Result.andThen_ok,List.map_toArray,List.map_cons,List.map_nil,h]
 have hmin:∀ n,(xs.take (n*sz)).length=min n nx*sz:=by
  intro n
  rw [List.length_take,hxl,Nat.mul_comm n,Nat.mul_comm nx,Nat.mul_min_mul_left,Nat.mul_comm]
 have hfirst:∀ n,(Builtin.firstCells sz (min nx n) (.slice ad nx c)).run P w=.ok (vs.take (min n nx*sz)).toArray w:=by
  intro n
  by_cases h0:min n nx=0
  ·rw [Nat.min_comm,h0]
   cases ad<;>simp [Builtin.firstCells,loadCells,loadCellsFrom]
  ·have hpos:0<vs.length:=by rw [hvl,hxl];exact Nat.mul_pos (by omega) hz0
   obtain ⟨a',rfl,_⟩:=hvs 0 _ (List.getElem?_eq_getElem hpos)
   have hle:min n nx*sz≤nx*sz:=Nat.mul_le_mul_right _ (Nat.min_le_right _ _)
   have:=run_firstCells_some (P:=P) w sz (min n nx) a' nx c (vs.take (min n nx*sz)) (by rw [List.length_take,hvl,hxl];omega) (fun j v hv=>by
    rw [List.getElem?_take] at hv
    split at hv
    ·obtain ⟨a2,q1,q2⟩:=hvs j v hv
     injection q1 with q1;subst q1;exact q2
    ·cases hv)
   rw [Nat.min_comm nx n]
   exact this
 have hint:∀ (m':Mem) n,C m' (.int .i64 ((min n nx:Nat):Int)) (goInt ((min nx n:Nat):Int)):=by
  intro m' n
  rw [Nat.min_comm n nx]
  simp only [C]
  rfl
 have key:∀ (id n c0 o2:Nat) (cs:List AV) (en:Ent) (a0:Option Addr),m.bl[id]? = some en→hp[id]? = some (.row false cs)→a.eval s=.slice a0 n c0→(o2+n)*sz≤cs.length→noinlL xs=true→(n≠0→∃ g,en.b=some g∧a0=some ⟨g,o2*sz,none⟩) →
   v=.int .i64 ((min n nx:Nat):Int)→hp'=hp.set id (.row false (setAll cs (o2*sz) (xs.take (n*sz))))→Goes P o a w fr w0 m v hp':=by
  intro id n c0 o2 cs en a0 he hb hus hfit hni hgn e1 e2
  subst e1;subst e2
  obtain ⟨hCL,_⟩:=CL_of_RL _ _ _ hni hR
  by_cases hm:min n nx=0
  ·have h0:xs.take (n*sz)=[]:=List.eq_nil_of_length_eq_zero (by rw [hmin,hm];simp)
   rw [h0]
   simp only [setAll,set_same hb]
   refine goes_pure H (hex _ w ?_) (hint m n)
   rw [hus,hu]
   have hf:=hfirst n
   rw [hm] at hf
   cases a0<;>simp [Builtin.copy_,run_underlying ht,hszr,Builtin.lenOf,hf,storeCells]
  ·obtain ⟨g,hg,rfl⟩:=hgn (by omega)
   obtain ⟨w',F,hrun,HH⟩:=over (P:=P) H he hb hg (off:=o2*sz) (us:=xs.take (n*sz)) (ws:=vs.take (min n nx*sz)) (by
     have hle:min n nx*sz≤n*sz:=Nat.mul_le_mul_right _ (Nat.min_le_left _ _)
     rw [CL_iff]
     intro j y hj
     have hjl:=(List.getElem?_eq_some_iff.1 hj).1
     rw [hmin] at hjl
     rw [List.getElem?_take] at hj
     split at hj
     ·obtain ⟨u,q1,q2⟩:=CL_iff.1 hCL j y hj
      exact ⟨u,by simp only [List.getElem?_take,if_pos hjl];exact q1,q2⟩
     ·cases hj) (by rw [List.length_take,hvl,hmin,hxl];have:=Nat.mul_le_mul_right sz (Nat.min_le_right n nx);omega) (all_take hok _) (by rw [hmin];have:=Nat.mul_le_mul_right sz (Nat.min_le_left n nx);rw [Nat.add_mul] at hfit;omega)
   refine ⟨_,_,w',_,hex _ w' ?_,.inl rfl,ext_fp F,hint _ n,HH⟩
   rw [hus,hu]
   simp [Builtin.copy_,run_underlying ht,hszr,Builtin.lenOf,hfirst n,hrun]
 split at hs
 ·rename_i s2 id o2 kk hh
  split at hs
  ·rename_i cs hb
   generalize hn0:kk.getD (cs.length / sz)=n0 at hs
   split at hs
   ·rename_i hc
    obtain ⟨rfl,hfit,hni⟩:=hc
    simp only [Option.some.injEq,Prod.mk.injEq] at hs
    obtain ⟨rfl,rfl⟩:=hs
    cases hsx:St.ev ⟨env,hp,l0,mk⟩ s'<;>rw [hsx] at hh k1<;>simp only [headOf,reduceCtorEq] at hh
    ·injection hh with hh;injection hh with e1 e2;injection e2 with e2 e3;injection e3 with e3 e4;subst e1;subst e2;subst e3;subst e4
     simp only [C] at k1
     obtain ⟨en,he,hus,hes⟩:=k1
     obtain ⟨q1,q2,q3,q4,q5⟩:=H.blk _ _ en hb he
     rw [hes] at q2
     have hd:=Nat.mul_div_cancel en.n hz0
     rw [←q2] at hd
     simp only [Option.getD,hd] at hn0
     subst hn0
     exact key _ en.n en.cap 0 cs en en.a he hb hus hfit hni (fun hn=>by
      rcases q5 with ⟨r1,r2,_⟩ | ⟨g,r1,r2,_⟩
      ·omega
      ·exact ⟨g,r1,by rw [r2];simp⟩) rfl rfl
    ·injection hh with hh;injection hh with e1 e2;injection e2 with e2 e3;injection e3 with e3 e4;subst e1;subst e2;subst e3;subst e4
     simp only [C] at k1
     obtain ⟨en,he,hes,_,a0,c0,hus,hnc0,hco,hca⟩:=k1
     simp only [Option.getD] at hn0
     subst hn0
     exact key _ _ c0 _ cs en a0 he hb hus hfit hni (fun hn=>by
      obtain ⟨g,q1,q2⟩:=hca.resolve_left (by omega)
      exact ⟨g,q1,q2⟩) rfl rfl
   ·cases hs
  ·cases hs
 ·split at hs
  ·rename_i hx
   rw [hx] at k1
   simp only [C] at k1
   simp only [Option.some.injEq,Prod.mk.injEq] at hs
   obtain ⟨rfl,rfl⟩:=hs
   refine goes_pure H (hex (goInt 0) w ?_) (by simp [C,goInt])
   rw [k1,hu]
   have hf:=hfirst 0
   simp at hf
   simp [Builtin.copy_,run_underlying ht,hszr,Builtin.lenOf,hf]
  ·cases hs
end
end Go.Proofs.Ytfbfbennheeglaa
set_option linter.unusedVariables false
set_option maxHeartbeats 1000000
namespace Go.Proofs.Ytfbfbennheeglaa
set_option linter.unusedSimpArgs false
set_option linter.unusedVariables false
open Lib
def SO.one:SO→Bool
 | .lit _ _ _ _ _ | .load _ _ _ | .store _ _ _ _ | .call _ _ _ | .callf _ _ _ | .invoke _ _ _ _ | .look _ _ _ _ _ _=>false
 |_=>true
theorem base_one {so b:SO} (h:b=so.base) (hb:b.one=true):so=b:=by
 cases so<;>simp_all [SO.base,SO.one]
section
variable {P:Program} {fid:FuncId→Option Nat} {fr:Nat→Prop} {w0 w:World} {m:Mem} {hp hp':List Blk} {env:List (Nat × AV)} {a:Act} {o:Oper} {v:AV} {l0:Nat} {mk:List Mark}
theorem byteL_ok:∀ {cs:List AV} {b:List UInt8} {vs:List Value} {f:List Nat},byteL cs=some b→vs.length=cs.length→RL m w cs (fun i=>vs[i]?) f→∃ ns:List Int,vs=ns.map (Value.int .u8)∧b=ns.map fun n=>UInt8.ofNat n.toNat
 | [],b,vs,f,h,hl,_=>by
  injection h with h;subst h
  exact ⟨[],by simpa using hl,rfl⟩
 |x::cs,b,vs,f,h,hl,hR=>by
  unfold byteL at h
  split at h
  ·rename_i heq;cases heq
  ·rename_i n l heq
   injection heq with h1 h2;subst h1 h2
   simp only [omI] at h
   obtain ⟨b',hb,rfl⟩:=h
   cases vs with
   |nil=>simp at hl
   |cons v vs=>
    simp only [RL] at hR
    obtain ⟨f1,f2,_,⟨u,hu,hu2⟩,hR2⟩:=hR
    simp only [List.getElem?_cons_zero,Option.some.injEq] at hu
    subst hu
    simp only [R,C] at hu2
    obtain ⟨_,rfl⟩:=hu2
    obtain ⟨ns,e1,e2⟩:=byteL_ok hb (by simpa using hl) hR2
    exact ⟨n::ns,by simp [e1],by simp [e2]⟩
  ·cases h
theorem go_text (hcd:m.cd=fid) {s d e:TypeId} {x:Operand} {x':SX} (hop:o.op=.convert s d x) (hs':P.underlying s=some (.slice e)) (he:P.underlying e=some (.int .u8)) (hd:P.underlying d=some .string) (h1:opd fid x=some x') (hs:astep hp (St.ev ⟨env,hp,l0,mk⟩) (.text x')=some (v,hp'))
  (H:HInv fr w0 m hp w []) (E:EnvOk m env a.tmps):Goes P o a w fr w0 m v hp':=by
 have k1:=opd_ok (st:=⟨env,hp,l0,mk⟩) hcd h1 E
 simp only [astep,obI,omI] at hs
 obtain ⟨cs,hcs,b,hb,hs⟩:=hs
 simp only [Prod.mk.injEq] at hs
 obtain ⟨rfl,rfl⟩:=hs
 obtain ⟨ad,n,c,vs,f,hu,hnc,hln,hlv,hcell,hR,_⟩:=slc_ok H (by omega) k1 hcs
 obtain ⟨ns,e1,e2⟩:=byteL_ok hb hlv hR
 have hrun:(convert s d (a.eval x)).run P w=.ok (.string ⟨b.toArray⟩) w:=by
  rw [hu,run_convert_bytes_string w s d e ad n c hs' he hd]
  cases ad with
  |none=>
   have hv:vs=[]:=by
    cases vs with
    |nil=>rfl
    |cons v vs=>obtain ⟨a',ha,_⟩:=hcell 0 v rfl;cases ha
   have hn:ns=[]:=by rw [hv] at e1;simpa using e1.symm
   rw [e2,hn]
   simp [Conv.bytesToString];rfl
  |some a'=>
   have hl:vs.length=n:=by rw [hlv,hln];omega
   have hload:(loadCells a' n).run P w=.ok (ns.map (Value.int .u8)).toArray w:=by
    rw [←hl,←e1]
    refine run_loadCells_list (P:=P) w a' vs fun j v hj=>?_
    obtain ⟨a2,h2,h3⟩:=hcell j v hj
    injection h2 with h2;subst h2;exact h3
   rw [run_bytesToString w a' n c ns hload,foldl_push_bytes,e2]
   simp
 exact goes_pure H (u:=.string ⟨b.toArray⟩) (by simp [execOp,hop,hrun]) (by simp [C])
theorem append_ty_irr (w:World) (ty ty':TypeId) {ts:Array TypeId} {args:Array Value}:(Builtin.append_ ts ty' args).run P w=(Builtin.append_ ts ty args).run P w:=rfl
theorem go_appz (hcd:m.cd=fid) {t ti e:TypeId} {kn:IntKind} {i:TypeInfo} {z:List AV} {s x:Operand} {s' x':SX} (hop:o.op=.call { callee:=.builtin .append,args:=#[s,x],argTypes:=#[t,ti] }) (ht:P.underlying t=some (.slice e)) (hti:P.underlying ti=some (.int kn))
  (hi:P.info? e=some i) (hz:zeroOf P fid e=some z) (hsz:i.size=z.length) (hbb:0<i.bytes) (hs0:0<i.size) (h1:opd fid s=some s') (h2:opd fid x=some x')
  (hs:astep hp (St.ev ⟨env,hp,l0,mk⟩) (.appz z i.bytes s' x')=some (v,hp')) (H:HInv fr w0 m hp w []) (E:EnvOk m env a.tmps):Goes P o a w fr w0 m v hp':=by
 have k1:=opd_ok (st:=⟨env,hp,l0,mk⟩) hcd h1 E
 have k2:=opd_ok (st:=⟨env,hp,l0,mk⟩) hcd h2 E
 simp only [astep] at hs
 split at hs
 case h_2=>cases hs
 rename_i k n e1 e2
 rw [e1] at k1
 rw [e2] at k2
 simp only [C] at k1 k2
 split at hs
 case isFalse=>cases hs
 rename_i hc
 injection hs with hs
 simp only [Prod.mk.injEq] at hs
 obtain ⟨rfl,rfl⟩:=hs
 obtain ⟨i',zv,hi',hz',q1,q2,q3⟩:=zeroOf_ok hcd hz
 rw [hi] at hi';injection hi' with hi';subst hi'
 obtain ⟨N,rfl⟩:∃ N:Nat,n=N:=⟨n.toNat,by omega⟩
 have hN:0<N:=by omega
 have hfit:N*i.bytes≤140737488355328:=by have:=hc.2;rw [←Int.natCast_mul] at this;omega
 have hNb:N≤140737488355328:=Nat.le_trans (Nat.le_mul_of_pos_right _ hbb) hfit
 have hr:=run_append_nil_zeros (P:=P) w t ti e e i zv k kn ht hti hi hz' N hN hs0 (by omega) (by omega)
 have hcap:N≤grownCap w N 0 e:=grownCap_ge w _ _ e
 have hzl:z.length=zv.cells.size:=q2
 have hsize:(Builtin.zeroCells zv.cells N++Builtin.zeroCells zv.cells (grownCap w N 0 e - N)).size=grownCap w N 0 e*z.length:=by
  rw [Array.size_append,size_zeroCells,size_zeroCells,←hzl,←Nat.add_mul,Nat.add_sub_cancel' hcap]
 have hCL:CL m (tile N z) (fun j=>(Builtin.zeroCells zv.cells N++Builtin.zeroCells zv.cells (grownCap w N 0 e - N))[j]?):=by
  have:=CL_tile q1 hzl (by omega) N
  rw [CL_iff] at this ⊢
  intro j y hy
  obtain ⟨u,hu,hC⟩:=this j y hy
  refine ⟨u,?_,hC⟩
  rw [Array.getElem?_append_left]
  ·simpa [Builtin.zeroCells,madeCells,hzl] using hu
  ·have:=(Array.getElem?_eq_some_iff.1 hu).1
   rw [size_zeroCells,←hzl];rwa [size_madeCells] at this
 have HN:=HInv.newRow (t:=e) (cap:=grownCap w N 0 e) (n:=N) (sz:=z.length) H.drew (RL_of_CL _ _ hCL) (tile_okc q3 N) hsize (tile_length z N) (fun h=>by
  have:=tile_length z N
  rw [h] at this
  rcases Nat.mul_eq_zero.1 this.symm with h | h<;>omega) hcap
 refine ⟨_,.slice (some ⟨w.heap.size,0,none⟩) N (grownCap w N 0 e),_,_,?_,.inl rfl,ext_app _ _,?_,by simpa using HN⟩
 ·rw [←k2,←k1] at hr
  simp only [execOp,hop,resolve,invoke,builtin,Sem.run_bind,Sem.run_pure,Result.andThen_ok,List.map_toArray,List.map_cons,List.map_nil,append_ty_irr (P:=P) w e o.type,hr]
 ·simp only [C]
  exact ⟨_,fp_new H.len _,rfl,rfl⟩
theorem call_op_ok (hcd:m.cd=fid) {c:Call} {so so':SO} (hop:o.op=.call c) (hc:copCall P fid c=some so') (hb:so'=so.base) (hs:astep hp (St.ev ⟨env,hp,l0,mk⟩) so=some (v,hp')) (H:HInv fr w0 m hp w []) (E:EnvOk m env a.tmps):Goes P o a w fr w0 m v hp':=by
 obtain ⟨callee,args,ats⟩:=c
 obtain ⟨args⟩:=args
 obtain ⟨ats⟩:=ats
 unfold copCall at hc
 split at hc
 ·rename_i hcal
  simp only at hcal;subst hcal
  split at hc
  ·rename_i x t hx ht
   simp only at hx ht;subst hx;subst ht
   split at hc
   ·rename_i d hd
    simp only [omI] at hc
    obtain ⟨x',h1,rfl⟩:=hc
    have:=base_one hb rfl;subst this
    exact go_lenl hcd hop hd h1 hs H E
   ·rename_i hd
    simp only [omI] at hc
    obtain ⟨x',h1,rfl⟩:=hc
    have:=base_one hb rfl;subst this
    exact go_lens hcd hop hd h1 hs H E
   ·cases hc
  ·cases hc
 ·rename_i hcal
  simp only at hcal;subst hcal
  split at hc
  ·rename_i s x t t' hx ht
   simp only at hx ht;subst hx;subst ht
   split at hc
   ·rename_i e e' he he'
    simp only [obI] at hc
    obtain ⟨i,hi,hc⟩:=hc
    split at hc
    ·rename_i hcond
     simp only [omI,obI] at hc
     obtain ⟨s',h1,x',h2,rfl⟩:=hc
     have:=base_one hb rfl;subst this
     exact go_append hcd hop he he' hi hcond.1 hcond.2.1 hcond.2.2 h1 h2 hs H E
    ·cases hc
   ·rename_i e k' he he'
    simp only [obI] at hc
    obtain ⟨i,hi,z,hz,hc⟩:=hc
    split at hc
    ·rename_i hcond
     simp only [omI,obI] at hc
     obtain ⟨s',h1,x',h2,rfl⟩:=hc
     have:=base_one hb rfl;subst this
     exact go_appz hcd hop he he' hi hz hcond.1 hcond.2.1 hcond.2.2 h1 h2 hs H E
    ·cases hc
   ·cases hc
  ·cases hc
 ·rename_i hcal
  simp only at hcal;subst hcal
  split at hc
  ·rename_i x t hx ht
   simp only at hx ht;subst hx;subst ht
   split at hc
   ·rename_i e he
    simp only [obI] at hc
    obtain ⟨z,hz,hc⟩:=hc
    split at hc
    ·rename_i hcond
     simp only [omI] at hc
     obtain ⟨x',h1,rfl⟩:=hc
     have:=base_one hb rfl;subst this
     exact go_clear hcd hop he hz hcond.1 hcond.2 h1 hs H E
    ·cases hc
   ·cases hc
  ·cases hc
 ·rename_i hcal
  simp only at hcal;subst hcal
  split at hc
  ·rename_i s x t t' hx ht
   simp only at hx ht;subst hx;subst ht
   split at hc
   ·rename_i htt;subst htt
    split at hc
    ·rename_i e he
     simp only [obI] at hc
     obtain ⟨n,hn,hc⟩:=hc
     split at hc
     ·rename_i hcond
      simp only [omI,obI] at hc
      obtain ⟨s',h1,x',h2,rfl⟩:=hc
      have:=base_one hb rfl;subst this
      exact go_copy hcd hop he hn hcond h1 h2 hs H E
     ·cases hc
    ·cases hc
   ·cases hc
  ·cases hc
 ·rename_i hcal
  simp only at hcal;subst hcal
  split at hc
  ·rename_i x y hx
   simp only at hx;subst hx
   simp only [omI,obI] at hc
   obtain ⟨x',h1,y',h2,rfl⟩:=hc
   have:=base_one hb rfl;subst this
   exact go_mm hcd (mx:=true) hop h1 h2 hs H E
  ·cases hc
 ·rename_i hcal
  simp only at hcal;subst hcal
  split at hc
  ·rename_i x y hx
   simp only at hx;subst hx
   simp only [omI,obI] at hc
   obtain ⟨x',h1,y',h2,rfl⟩:=hc
   have:=base_one hb rfl;subst this
   exact go_mm hcd (mx:=false) hop h1 h2 hs H E
  ·cases hc
 ·simp only [omI,obI] at hc
  obtain ⟨k,hk,as,has,rfl⟩:=hc
  cases so<;>simp [SO.base] at hb
  simp [astep] at hs
 ·simp only [omI] at hc
  obtain ⟨as,has,rfl⟩:=hc
  cases so<;>simp [SO.base] at hb
  simp [astep] at hs
 ·simp only [omI,obI] at hc
  obtain ⟨x,hx,as,has,rfl⟩:=hc
  cases so<;>simp [SO.base] at hb
  simp [astep] at hs
 ·rename_i hcal
  simp only at hcal;subst hcal
  split at hc
  ·rename_i x t hx ht
   simp only at hx ht;subst hx;subst ht
   split at hc
   ·rename_i d hd
    simp only [omI] at hc
    obtain ⟨x',h1,rfl⟩:=hc
    have:=base_one hb rfl;subst this
    exact go_cap hcd hop hd h1 hs H E
   ·cases hc
  ·cases hc
 ·cases hc
theorem op_ok (hcd:m.cd=fid) {so so':SO} (hc:cop P fid o.op=some so') (hb:so'=so.base) (hs:astep hp (St.ev ⟨env,hp,l0,mk⟩) so=some (v,hp')) (H:HInv fr w0 m hp w []) (E:EnvOk m env a.tmps):Goes P o a w fr w0 m v hp':=by
 generalize hop:o.op=op at hc
 unfold cop at hc
 split at hc<;>try simp only [omI,obI] at hc
 ·obtain ⟨y,hy,rfl⟩:=hc;have:=base_one hb rfl;subst this;exact go_move hcd (.inl hop) hy hs H E
 ·obtain ⟨y,hy,rfl⟩:=hc;have:=base_one hb rfl;subst this;exact go_move hcd (.inr hop) hy hs H E
 ·obtain ⟨c',h1,a',h2,b',h3,rfl⟩:=hc;have:=base_one hb rfl;subst this;exact go_pick hcd hop h1 h2 h3 hs H E
 ·obtain ⟨z,hz,rfl⟩:=hc;have:=base_one hb rfl;subst this;exact go_alloc hcd hop hz hs H
 ·obtain ⟨n,hn,x',hx,rfl⟩:=hc;have:=base_one hb rfl;subst this;exact go_box hcd hop hx hs H E
 ·split at hc
  ·rename_i fs hfs
   split at hc
   ·rename_i hall
    simp only [omI,obI] at hc
    obtain ⟨z,hz,qs,hqs,rfl⟩:=hc
    have:=base_one hb rfl;subst this
    exact go_build hcd hop hz hqs (build_struct hfs hall) hs H E
   ·cases hc
  ·rename_i n e hfs
   simp only [omI,obI] at hc
   obtain ⟨s,hs',z,hz,qs,hqs,rfl⟩:=hc
   have:=base_one hb rfl;subst this
   exact go_build hcd hop hz hqs (build_array hfs hs') hs H E
  ·cases hc
 ·split at hc
  ·rename_i e he
   simp only [obI] at hc
   obtain ⟨s,hs',z,hz,hc⟩:=hc
   split at hc
   ·rename_i hh
    simp only [omI] at hc
    obtain ⟨qs,hqs,rfl⟩:=hc
    cases so<;>simp only [SO.base,reduceCtorEq,SO.lit.injEq,true_and] at hb
    obtain ⟨rfl,rfl,rfl,rfl⟩:=hb
    exact go_lit hcd hop he hs' hz hh.1 hh.2.1 hh.2.2 hqs hs H E
   ·cases hc
  ·cases hc
 ·obtain ⟨n,hn,x',hx,rfl⟩:=hc
  cases so<;>simp only [SO.base,reduceCtorEq,SO.load.injEq,true_and] at hb
  obtain ⟨rfl,rfl⟩:=hb
  exact go_load hcd hop hn hx hs H E
 ·obtain ⟨n,hn,x',hx,v',hv,rfl⟩:=hc
  cases so<;>simp only [SO.base,reduceCtorEq,SO.store.injEq,true_and] at hb
  obtain ⟨rfl,rfl,rfl⟩:=hb
  exact go_store hcd hop hn hx hv hs H E
 ·obtain ⟨x',hx,rfl⟩:=hc;have:=base_one hb rfl;subst this;exact go_nilCheck hcd hop hx hs H E
 ·split at hc
  ·rename_i e he
   split at hc
   ·rename_i hnil
    split at hc
    ·simp only [omI] at hc
     obtain ⟨x',hx,rfl⟩:=hc
     have:=base_one hb rfl;subst this
     exact go_isnil hcd hop he hnil (.inl ⟨rfl,rfl⟩) hx hs H E
    ·simp only [omI] at hc
     obtain ⟨x',hx,rfl⟩:=hc
     have:=base_one hb rfl;subst this
     exact go_isnil hcd hop he hnil (.inr ⟨rfl,rfl⟩) hx hs H E
    ·cases hc
   ·cases hc
  ·simp only [omI,obI] at hc
   obtain ⟨tc,htc,x',hx,y',hy,rfl⟩:=hc
   have:=base_one hb rfl;subst this
   exact go_bin hcd hop htc hx hy hs H E
 ·obtain ⟨x',hx,rfl⟩:=hc;have:=base_one hb rfl;subst this;exact go_un hcd hop hx hs H E
 ·split at hc
  ·rename_i k1 k2 h1 h2
   simp only [omI] at hc
   obtain ⟨x',hx,rfl⟩:=hc;have:=base_one hb rfl;subst this;exact go_conv hcd hop h1 h2 hx hs H E
  ·rename_i h1 h2
   simp only [omI] at hc
   obtain ⟨x',hx,rfl⟩:=hc;have:=base_one hb rfl;subst this;exact go_same hcd hop h1 h2 hx hs H E
  ·rename_i e h1 h2
   split at hc
   ·rename_i he
    simp only [omI] at hc
    obtain ⟨x',hx,rfl⟩:=hc;have:=base_one hb rfl;subst this;exact go_text hcd hop h1 he h2 hx hs H E
   ·cases hc
  ·cases hc
 ·obtain ⟨k,hk,fs',hfs,cs',hcs,rfl⟩:=hc;have:=base_one hb rfl;subst this;exact go_fn hcd hop hk hfs hcs hs H E
 ·obtain ⟨fd,hf,s,hs',hc⟩:=hc
  split at hc
  ·cases hc
  ·rename_i h0
   simp only [omI] at hc
   obtain ⟨x',hx,rfl⟩:=hc;have:=base_one hb rfl;subst this;exact go_fieldAddr hcd hop hf hs' h0 hx hs H E
 ·obtain ⟨fd,hf,n,hn,x',hx,rfl⟩:=hc;have:=base_one hb rfl;subst this;exact go_field hcd hop hf hn hx hs H E
 ·split at hc
  ·rename_i e he
   simp only [obI] at hc
   obtain ⟨s,hs',hc⟩:=hc
   split at hc
   ·cases hc
   ·rename_i h0
    simp only [omI,obI] at hc
    obtain ⟨x',hx,i',hi,rfl⟩:=hc;have:=base_one hb rfl;subst this;exact go_indexAddr hcd hop he hs' h0 hx hi hs H E
  ·rename_i n e he
   simp only [omI,obI] at hc
   obtain ⟨s,hs',x',hx,i',hi,rfl⟩:=hc;have:=base_one hb rfl;subst this;exact go_indexArr hcd hop he hs' hx hi hs H E
  ·cases hc
 ·split at hc
  ·rename_i he
   simp only [omI,obI] at hc
   obtain ⟨x',hx,i',hi,rfl⟩:=hc;have:=base_one hb rfl;subst this;exact go_index hcd hop he hx hi hs H E
  ·rename_i n e he
   simp only [omI,obI] at hc
   obtain ⟨s,hs',q,hq,x',hx,i',hi,rfl⟩:=hc;have:=base_one hb rfl;subst this;exact go_indexV hcd hop he hs' hq hx hi hs H E
  ·cases hc
 ·split at hc
  ·rename_i e he
   simp only [obI] at hc
   obtain ⟨s,hs',hc⟩:=hc
   split at hc
   ·cases hc
   ·rename_i h0
    simp only [omI,obI] at hc
    obtain ⟨x',hx,lo',hlo,hi',hhi,mx',hmx,rfl⟩:=hc;have:=base_one hb rfl;subst this;exact go_slice hcd hop he hs' h0 hx hlo hhi hmx hs H E
  ·rename_i he
   split at hc
   ·cases hc
   ·rename_i hmx
    simp only [omI,obI] at hc
    obtain ⟨x',hx,lo',hlo,hi',hhi,rfl⟩:=hc
    have:=base_one hb rfl;subst this
    have hmn:=Option.not_isSome_iff_eq_none.1 hmx
    subst hmn
    exact go_slices hcd hop he hx hlo hhi hs H E
  ·cases hc
 ·obtain ⟨x',hx,rfl⟩:=hc;have:=base_one hb rfl;subst this;exact go_extract hcd hop hx hs H E
 ·rename_i t l c
  split at hc
  ·rename_i hlc
   subst hlc
   split at hc
   ·rename_i e he
    simp only [obI] at hc
    obtain ⟨i,hi,z,hz,hc⟩:=hc
    split at hc
    ·rename_i hcond
     injection hc with hc;subst hc
     have:=base_one hb rfl;subst this
     exact go_make hcd hop rfl he hi hz hcond.1 hcond.2.1 hcond.2.2 hs H E
    ·cases hc
   ·cases hc
  ·cases hc
 ·rename_i t l c
  split at hc
  ·rename_i hlc
   subst hlc
   split at hc
   ·rename_i e he
    simp only [obI] at hc
    obtain ⟨i,hi,z,hz,hc⟩:=hc
    split at hc
    ·rename_i hcond
     injection hc with hc;subst hc
     have:=base_one hb rfl;subst this
     exact go_make hcd hop rfl he hi hz hcond.1 hcond.2.1 hcond.2.2 hs H E
    ·cases hc
   ·cases hc
  ·cases hc
 ·rename_i t l c
  split at hc
  ·rename_i hlc
   subst hlc
   split at hc
   ·rename_i e he
    simp only [obI] at hc
    obtain ⟨i,hi,z,hz,hc⟩:=hc
    split at hc
    ·rename_i hcond
     injection hc with hc;subst hc
     have:=base_one hb rfl;subst this
     exact go_room hcd hop he hi hz hcond.1 hcond.2.1 hcond.2.2 hs H E
    ·cases hc
   ·cases hc
  ·cases hc
 ·injection hc with hc;subst hc;have:=base_one hb rfl;subst this;simp [astep] at hs
 ·injection hc with hc;subst hc;have:=base_one hb rfl;subst this;simp [astep] at hs
 ·split at hc
  ·rename_i hcc
   simp only [omI] at hc
   obtain ⟨x',hx,rfl⟩:=hc;have:=base_one hb rfl;subst this;exact go_iface hcd hop hcc hx hs H E
  ·cases hc
 ·split at hc
  ·rename_i hcc
   simp only [omI] at hc
   obtain ⟨x',hx,rfl⟩:=hc;have:=base_one hb rfl;subst this;exact go_assert hcd hop hcc hx hs H E
  ·cases hc
 ·exact call_op_ok hcd hop hc hb hs H E
 ·split at hc
  ·simp only [omI] at hc
   obtain ⟨kc,hk,rfl⟩:=hc;have:=base_one hb rfl;subst this;exact go_mkmap hop hs H
  ·cases hc
 ·split at hc
  ·rename_i kt et ht
   simp only [omI,obI] at hc
   obtain ⟨kc,hk,z,hz,x',hx,i',hi,rfl⟩:=hc
   cases so<;>simp only [SO.base,reduceCtorEq,SO.look.injEq,true_and] at hb
   obtain ⟨rfl,rfl,rfl,rfl,rfl⟩:=hb
   exact go_look hcd hop ht hk hz hx hi hs H E
  ·cases hc
 ·split at hc
  ·rename_i kt et ht
   simp only [omI,obI] at hc
   obtain ⟨kc,hk,x',hx,k',hk',v',hv,rfl⟩:=hc;have:=base_one hb rfl;subst this;exact go_upd hcd (.inl hop) ht hk hx hk' hv hs H E
  ·cases hc
 ·split at hc
  ·rename_i kt et ht
   simp only [omI,obI] at hc
   obtain ⟨kc,hk,x',hx,k',hk',v',hv,rfl⟩:=hc;have:=base_one hb rfl;subst this;exact go_upd hcd (.inr hop) ht hk hx hk' hv hs H E
  ·cases hc
 ·split at hc
  ·rename_i kt et ht
   simp only [omI,obI] at hc
   obtain ⟨kc,hk,x',hx,rfl⟩:=hc;have:=base_one hb rfl;subst this;exact go_rng hop ht hx hcd hs H E
  ·cases hc
 ·obtain ⟨x',hx,rfl⟩:=hc;have:=base_one hb rfl;subst this;simp [astep] at hs
 ·obtain ⟨x',hx,rfl⟩:=hc;have:=base_one hb rfl;subst this;exact go_entry hop hx hcd hs H E
 ·cases hc
end
end Go.Proofs.Ytfbfbennheeglaa
