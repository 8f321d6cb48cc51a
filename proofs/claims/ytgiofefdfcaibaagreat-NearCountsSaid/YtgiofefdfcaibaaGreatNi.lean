import Derived.Test.YtgiofefdfcaibaaGreatNd
import Derived.Test.YtgiofefdfcaibaaGreatHd
namespace Go.Proofs.YtgiofefdfcaibaaGreat
set_option linter.unusedSimpArgs false
set_option linter.unusedVariables false
open Go.Sort (SWO)
set_option maxHeartbeats 4000000
set_option maxRecDepth 100000
section
variable {α:Type} [Inhabited α] (lt:α→α→Bool)
def upO (o:List α) (x:α):Nat:=(o.takeWhile fun y=>!lt x y).length
def insO (o:List α) (x:α):List α:=o.take (upO lt o x)++x::o.drop (upO lt o x)
variable {lt}
theorem upO_le {β:Type} {lt:β→β→Bool} (o:List β) (x:β):upO lt o x≤o.length:=(List.takeWhile_prefix _).length_le
theorem upO_before:∀ {o:List α} {x:α} {i:Nat},i<upO lt o x→lt x (o.getD i default)=false
 | [],x,i,h=>by simp [upO] at h
 |y::o,x,i,h=>by
  unfold upO at h
  rw [List.takeWhile_cons] at h
  cases hy:lt x y with
  |false=>
   rw [hy] at h
   cases i with
   |zero=>exact hy
   |succ i=>exact upO_before (o:=o) (x:=x) (i:=i) (by simpa [upO] using h)
  |true=>rw [hy] at h;simp at h
theorem upO_at:∀ {o:List α} {x:α},upO lt o x<o.length→lt x (o.getD (upO lt o x) default)=true
 | [],x,h=>by simp [upO] at h
 |y::o,x,h=>by
  unfold upO at h ⊢
  rw [List.takeWhile_cons] at h ⊢
  cases hy:lt x y with
  |false=>
   rw [hy] at h
   have:=upO_at (o:=o) (x:=x) (by simpa [upO] using h)
   simpa [upO] using this
  |true=>simpa using hy
theorem insO_perm {β:Type} {lt:β→β→Bool} (o:List β) (x:β):(insO lt o x).Perm (x::o):=by
 unfold insO
 refine (List.perm_middle).trans ?_
 rw [List.take_append_drop]
theorem insO_srtd (O:Ordr lt) {o:List α} (h:srtd lt o) (x:α):srtd lt (insO lt o x):=by
 unfold insO srtd
 rw [List.pairwise_append,List.pairwise_cons]
 have hbef:∀ a∈o.take (upO lt o x),lt x a=false:=by
  intro a ha
  obtain ⟨i,hi,rfl⟩:=List.getElem_of_mem ha
  rw [List.length_take] at hi
  have:=upO_before (lt:=lt) (o:=o) (x:=x) (i:=i) (by omega)
  rw [List.getD_eq_getElem?_getD,List.getElem?_eq_getElem (by omega)] at this
  simpa using this
 have haft:∀ a∈o.drop (upO lt o x),lt a x=false:=by
  intro a ha
  by_cases hu:upO lt o x<o.length
  ·have h1:=upO_at hu
   have h2:o.drop (upO lt o x)=o.getD (upO lt o x) default::o.drop (upO lt o x+1):=by
    rw [List.drop_eq_getElem_cons hu,List.getD_eq_getElem?_getD,List.getElem?_eq_getElem hu];rfl
   have h3:srtd lt (o.drop (upO lt o x)):=List.Pairwise.sublist (List.drop_sublist _ _) h
   rw [h2] at ha h3
   rcases List.mem_cons.1 ha with rfl | ha
   ·exact O.asym h1
   ·have h4:=(List.pairwise_cons.1 h3).1 a ha
    exact O.swo.ntrans _ _ _ h4 (O.asym h1)
  ·rw [List.drop_eq_nil_of_le (by omega)] at ha;cases ha
 refine ⟨List.Pairwise.sublist (List.take_sublist _ _) h,⟨haft,List.Pairwise.sublist (List.drop_sublist _ _) h⟩,fun a ha b hb=>?_⟩
 rcases List.mem_cons.1 hb with rfl | hb
 ·exact hbef a ha
 ·exact O.swo.ntrans _ _ _ (haft b hb) (hbef a ha)
theorem insO_sorted (O:Ordr lt) (l:List α) (x:α):insO lt (sorted lt l) x=sorted lt (x::l):=
 srtd_uni O (insO_srtd O (sorted_srtd O l) x) (sorted_srtd O _) (((insO_perm _ x).trans (List.Perm.cons x (sorted_perm l))).trans (sorted_perm _).symm)
theorem sorted_cong {β:Type} {lt:β→β→Bool} (O:Ordr lt) {a b:List β} (h:a.Perm b):sorted lt a=sorted lt b:=
 srtd_uni O (sorted_srtd O a) (sorted_srtd O b) (((sorted_perm a).trans h).trans (sorted_perm b).symm)
end
theorem srtd_asc {α:Type} {lt:α→α→Bool} (O:Ordr lt) {l:List α} (h:srtd lt l) (n:l.Nodup):asc lt l:=by
 induction l with
 |nil=>exact .nil
 |cons x l ih=>
  have h1:=List.pairwise_cons.1 h
  have h2:=List.nodup_cons.1 n
  refine List.pairwise_cons.2 ⟨fun y hy=>?_,ih h1.2 h2.2⟩
  cases hxy:lt x y with
  |true=>rfl
  |false=>exact absurd (O.tri _ _ hxy (h1.1 y hy)) (fun e=>h2.1 (e ▸ hy))
def plcs (r:Rw) (l:List Int):List Int:=l.filter fun v=>decide (0≤v∧v<plc r)
noncomputable def hitF (nb:Int→List Int) (s rad:Int) (l:List Int):List Ed:=(l.filter fun v=>decide (0≤lev nb s v∧lev nb s v≤rad)).map fun v=>(v,lev nb s v)
noncomputable def hitsL (r:Rw) (P:List Po) (s:Int) (ws:List Txt) (rad:Int):List Ed:=sorted ltH (hitF (nbr r false) s rad (plcs r (allP P ws)))
theorem hitF_snoc (nb:Int→List Int) (s rad:Int) (l:List Int) (v:Int):hitF nb s rad (l++[v])=hitF nb s rad l++(if 0≤lev nb s v∧lev nb s v≤rad then [(v,lev nb s v)] else []):=by
 unfold hitF
 rw [List.filter_append,List.map_append]
 by_cases h:0≤lev nb s v∧lev nb s v≤rad
 ·rw [List.filter_cons_of_pos (by simpa using h),if_pos h];rfl
 ·rw [List.filter_cons_of_neg (by simpa using h),if_neg h];rfl
theorem hitF_mem {nb:Int→List Int} {s rad:Int} {l:List Int} {x:Ed}:x∈hitF nb s rad l↔x.1∈l∧x.2=lev nb s x.1∧0≤x.2∧x.2≤rad:=by
 unfold hitF
 simp only [List.mem_map,List.mem_filter,decide_eq_true_eq]
 constructor
 ·rintro ⟨v,⟨h1,h2,h3⟩,rfl⟩;exact ⟨h1,rfl,h2,h3⟩
 ·rintro ⟨h1,h2,h3,h4⟩;exact ⟨x.1,⟨h1,by omega,by omega⟩,Prod.ext rfl h2.symm⟩
theorem plcs_mem {r:Rw} {l:List Int} {v:Int}:v∈plcs r l↔v∈l∧0≤v∧v<plc r:=by
 unfold plcs;rw [List.mem_filter,decide_eq_true_eq]
theorem plcs_inc {r:Rw} {l:List Int} (h:l.Pairwise (·<·)):(plcs r l).Pairwise (·<·):=List.Pairwise.filter _ h
theorem hitF_nodup {nb:Int→List Int} {s rad:Int} {l:List Int} (h:l.Pairwise (·<·)):(hitF nb s rad l).Nodup:=by
 unfold hitF List.Nodup
 rw [List.pairwise_map]
 refine (List.Pairwise.filter _ h).imp fun {a b} hab e=>?_
 have:=congrArg Prod.fst e
 simp only at this
 omega
theorem hitsL_mem {r:Rw} {P:List Po} {s rad:Int} {ws:List Txt} {x:Ed}:x∈hitsL r P s ws rad↔(x.1∈allP P ws∧0≤x.1∧x.1<plc r)∧x.2=lev (nbr r false) s x.1∧0≤x.2∧x.2≤rad:=by
 unfold hitsL
 rw [(sorted_perm _).mem_iff,hitF_mem,plcs_mem]
theorem hitsL_asc (r:Rw) (P:List Po) (s:Int) (ws:List Txt) (rad:Int):asc ltH (hitsL r P s ws rad):=by
 unfold hitsL
 exact srtd_asc ordrH (sorted_srtd ordrH _) ((sorted_perm _).nodup_iff.2 (hitF_nodup (plcs_inc (allP_asc ws))))
theorem hitsL_len (r:Rw) (P:List Po) (s:Int) (ws:List Txt) (rad:Int):(hitsL r P s ws rad).length≤(allP P ws).length:=by
 unfold hitsL hitF plcs
 rw [sorted_len,List.length_map]
 exact Nat.le_trans (List.length_filter_le _ _) (List.length_filter_le _ _)
noncomputable def dput (r:Rw) (s rad:Int) (o:List Ed) (v:Int):List Ed:=if (0≤v∧v<plc r)∧0≤lev (nbr r false) s v∧lev (nbr r false) s v≤rad then insO ltH o (v,lev (nbr r false) s v) else o
theorem dput_all (r:Rw) (s rad:Int) (l:List Int):l.foldl (dput r s rad) []=sorted ltH (hitF (nbr r false) s rad (plcs r l)):=by
 refine snocInd (p:=fun l=>l.foldl (dput r s rad) []=sorted ltH (hitF (nbr r false) s rad (plcs r l))) ?_ (fun l v ih=>?_) l
 ·simp [plcs,hitF,sorted]
 ·rw [List.foldl_append,List.foldl_cons,List.foldl_nil,ih]
  unfold dput
  by_cases h1:0≤v∧v<plc r
  ·have e1:plcs r (l++[v])=plcs r l++[v]:=by
    unfold plcs;rw [List.filter_append,List.filter_cons_of_pos (by simpa using h1)];rfl
   rw [e1,hitF_snoc]
   by_cases h2:0≤lev (nbr r false) s v∧lev (nbr r false) s v≤rad
   ·rw [if_pos ⟨h1,h2⟩,if_pos h2,insO_sorted ordrH]
    exact sorted_cong ordrH (List.perm_append_comm (l₁:=[_]) (l₂:=hitF (nbr r false) s rad (plcs r l)))
   ·rw [if_neg (fun h=>h2 h.2),if_neg h2,List.append_nil]
  ·have e1:plcs r (l++[v])=plcs r l:=by
    unfold plcs;rw [List.filter_append,List.filter_cons_of_neg (by simpa using h1),List.filter_nil,List.append_nil]
   rw [e1,if_neg (fun h=>h1 h.1)]
open Go.Sort (size_swp)
abbrev htA (x:Ed):AV:=.agg [.int .i64 x.1,.int .i64 x.2]
theorem prs_snocA (l:List Ed) (x:Ed):prs l++[.int .i64 x.1,.int .i64 x.2]=prs (l++[x]):=by rw [←prs_app];rfl
def hrS_n (n k:Nat) (d:Array Ed) (acc:List Ed):St:=⟨[(0,.ifc 52 (.ref 0 0)),(3,.own 2 1),(7,.int .i64 (n:Int)),(8,.int .i64 (k:Int))],[.row false [.vec 2 (prs d.toList)],.row false (prs acc)],1,[(0,2,[0,3,7,8],[(3,1)]),(7,1,[0,3,7,8],[])]⟩
theorem hdr_loop_n {n:Nat} {Q:AX→St→Prop} (hn:n≤1000000):∀ (m k:Nat) (d:Array Ed) (acc:List Ed),d.size=m→k+m=n→acc.length=k →
  (∀ d':Array Ed,d'.size=0→Ev tab d1691_b0 (hrS_n n n d' (acc++hpAll ltH m d)) (fun x st=>x≠.normal∧Q x st))→Ev tab (.loop d1691_b0) (hrS_n n k d acc) Q
 |0,k,d,acc,hd,hk,ha,hq=>by
  obtain rfl:k=n:=by omega
  refine Ev_stop ?_
  have:=hq d hd
  rwa [hpAll,List.append_nil] at this
 |m+1,k,d,acc,hd,hk,ha,hq=>by
  refine Ev_step (st':=hrS_n n (k+1) (hpPop ltH d) (acc++[d[0]!])) ?_ (hdr_loop_n hn m (k+1) _ _ (by rw [hpPop_size];omega) (by omega) (by simp [ha]) (fun d' h0=>?_))
  ·have g:=hpopf_n (d:=d) (by omega) (by omega)
   generalize hpPop ltH d=d' at *
   have e:=prs_snocA acc d[0]!
   have hl:(prs acc).length=k*2:=by rw [prs_len,ha]
   simp (disch:=omega) only [go_sem,d1691_b0,hrS_n,g,e,ha,hl]
  ·have:=hq d' h0
   rw [hpAll] at this
   simpa using this
theorem drain_n {d:Array Ed} (hs:d.size≤1000000):runP tab 1691 [.ifc 52 (.ref 0 0)] [.row false [.vec 2 (prs d.toList)]]=some (.vec 2 (prs (sorted ltH d.toList)),[.row false [.vec 2 []]]):=by
 have hz:(hpInit ltH d.size (d.size / 2) d).size=d.size:=hpInit_size _ _ _
 have hall:=hpAll_sorted ordrH d
 have g:=hinit_n hs
 refine runP_fn t1691 rfl ?_
 simp (disch:=omega) only [go_sem,d1691,g,hlen_n,arr_len,hz]
 refine hdr_loop_n (n:=d.size) hs d.size 0 (hpInit ltH d.size (d.size / 2) d) [] hz (by omega) rfl (fun d' h0=>?_)
 rw [List.nil_append,hall]
 have e0:prs d'.toList=[]:=by
  have:d'.toList=[]:=by simpa using h0
  rw [this];rfl
 simp (disch:=omega) only [go_sem,d1691_b0,hrS_n,e0]
theorem init_first {d:Array Ed} (h:0<d.size):(hpInit ltH d.size (d.size / 2) d)[0]! = (sorted ltH d.toList).getD 0 default:=by
 have h1:=hpAll_sorted ordrH d
 rw [←h1]
 obtain ⟨m,hm⟩:∃ m,d.size=m+1:=⟨d.size - 1,by omega⟩
 generalize hpInit ltH d.size (d.size / 2) d=D
 rw [hm,hpAll]
 rfl
theorem aheadN_run {a b:Ed}:runP tab 1487 [htA a,htA b] []=some (.bool (ltH a b),[]):=by
 refine runP_fn t1487 rfl ?_
 unfold ltH
 by_cases h1:a.2<b.2
 ·rw [decide_eq_true (Or.inl h1)]
  simp (disch:=omega) only [go_sem,d1487,htA]
 ·by_cases h2:a.2=b.2
  ·by_cases h3:a.1<b.1
   ·rw [decide_eq_true (Or.inr ⟨h2,h3⟩)]
    simp (disch:=omega) only [go_sem,d1487,htA]
   ·rw [decide_eq_false (by omega)]
    simp (disch:=omega) only [go_sem,d1487,htA]
  ·rw [decide_eq_false (by omega)]
   simp (disch:=omega) only [go_sem,d1487,htA]
theorem many9 {r:Rw} (hr:okR r) (hc:chk r=true):(r.off.length:Int) - 1=(plc r:Int):=by
 have:=(chk_iff.1 hc).f.lo
 unfold plc
 omega
noncomputable def hvT (r:Rw) (P:List Po) (ws:List Txt) (rad:Int):AV:=
 if chk r=true then (if ws=[]∨rad<0 then .tup [.vec 1 [],.int .i64 1] else .tup [.vec 1 (ints (plcs r (allP P ws))),.int .i64 0]) else .tup [.vec 1 [],.int .i64 40]
theorem plcs_snoc_yes {r:Rw} {l:List Int} {v:Int} (h:0≤v∧v<plc r):plcs r (l++[v])=plcs r l++[v]:=by
 unfold plcs;rw [List.filter_append,List.filter_cons_of_pos (by simpa using h)];rfl
theorem plcs_snoc_no {r:Rw} {l:List Int} {v:Int} (h:¬ (0≤v∧v<plc r)):plcs r (l++[v])=plcs r l:=by
 unfold plcs;rw [List.filter_append,List.filter_cons_of_neg (by simpa using h),List.filter_nil,List.append_nil]
theorem plcs_len (r:Rw) (l:List Int):(plcs r l).length≤l.length:=List.length_filter_le _ _
theorem allP_len {P:List Po} (hP:okP P) (ws:List Txt):(allP P ws).length≤1000:=by
 cases ws with
 |nil=>exact Nat.zero_le _
 |cons w r=>exact allF_len hP r _ (nrm_findP hP w)
theorem having_run {r:Rw} {P:List Po} {ws:List Txt} {rad:Int} (hr:okR r) (hP:okP P) (hw:ws.length≤1000):runP tab 1693 [.agg (rwS r),.sl 2 (poS P),.sl 1 (strs ws),.int .i64 rad] []=some (hvT r P ws rad,[]):=by
 refine runP_fn t1693 rfl ?_
 have gc:=hr.check
 have ga:=all05_run hP (ws:=ws) (by omega)
 have hl:=allP_len hP ws
 simp only [rwS] at gc
 unfold hvT
 cases hc:chk r with
 |false=>
  rw [hc] at gc
  simp (disch:=omega) only [go_sem,d1693,rwS,gc,Bool.false_eq_true]
 |true=>
  rw [hc] at gc
  by_cases h0:ws=[]
  ·rw [if_pos h0] at ga
   rw [if_pos (Or.inl h0)]
   simp (disch:=omega) only [go_sem,d1693,rwS,gc,ga]
  rw [if_neg h0] at ga
  by_cases h1:rad<0
  ·rw [if_pos (Or.inr h1)]
   simp (disch:=omega) only [go_sem,d1693,rwS,gc,ga]
  rw [if_neg (show ¬ (ws=[]∨rad<0) from fun h=>h.elim h0 h1)]
  generalize allP P ws=A at *
  have La:=ints_length A
  simp (disch:=omega) only [go_sem,d1693,rwS,gc,ga,La]
  refine Ev_loop0 (fun i=>⟨[(4,.ref 0 0),(12,.own 1 2),(30,.own 1 1),(31,.int .i64 (A.length:Int)),(32,.int .i64 (i:Int))],[.row false (rwS r),.row false (ints A),.row false (ints (plcs r (A.take i)))],0,[(0,3,[4,12,30,31,32],[(4,0),(12,2),(30,1)])]⟩) A.length (by simp [rwS,plcs,ints]) (fun i hi=>?_) ?_
  ·have g:=phas_run (v:=A.getD i 0) hr
   have e1:=ints_rdc0 hi
   have et:A.take (i+1)=A.take i++[A.getD i 0]:=take_snoc 0 hi
   have hm:=many9 hr hc
   have lp:=plcs_len r (A.take i)
   rw [List.length_take] at lp
   have lpi:=ints_length (plcs r (A.take i))
   simp only [rwS] at g
   rw [hm] at g
   rw [et]
   by_cases h:0≤A.getD i 0∧A.getD i 0<plc r
   ·rw [plcs_snoc_yes h]
    rw [decide_eq_true h] at g
    simp (disch:=omega) only [go_sem,d1693_b0,rwS,La,e1,g,lpi]
   ·rw [plcs_snoc_no h]
    rw [decide_eq_false h] at g
    simp (disch:=omega) only [go_sem,d1693_b0,rwS,La,e1,g,lpi]
  ·rw [List.take_length]
   simp (disch:=omega) only [go_sem,d1693_b0,rwS,La]
noncomputable def ern (r:Rw) (s:Int) (ws:List Txt) (rad:Int):Int:=if chk r=true then (if ws=[]∨rad<0∨¬ (0≤s∧s<plc r) then 1 else 0) else 40
theorem ern_cases (r:Rw) (s:Int) (ws:List Txt) (rad:Int):(ern r s ws rad=40∧¬ chk r=true)∨(ern r s ws rad=1∧chk r=true∧(ws=[]∨rad<0∨¬ (0≤s∧s<plc r)))∨(ern r s ws rad=0∧chk r=true∧ws≠[]∧0≤rad∧(0≤s∧s<plc r)):=by
 unfold ern
 by_cases h1:chk r=true
 ·rw [if_pos h1]
  by_cases h2:ws=[]∨rad<0∨¬ (0≤s∧s<plc r)
  ·exact .inr (.inl ⟨if_pos h2,h1,h2⟩)
  ·refine .inr (.inr ⟨if_neg h2,h1,?_⟩)
   simp only [not_or] at h2
   exact ⟨h2.1,by omega,by omega⟩
 ·exact .inl ⟨if_neg h1,h1⟩
noncomputable def hit9 (r:Rw) (P:List Po) (s:Int) (ws:List Txt) (rad:Int):List Ed:=hitF (nbr r false) s rad (plcs r (allP P ws))
theorem hitF_len (nb:Int→List Int) (s rad:Int) (l:List Int):(hitF nb s rad l).length≤l.length:=by
 unfold hitF;rw [List.length_map];exact List.length_filter_le _ _
theorem hit9_len {P:List Po} (hP:okP P) (r:Rw) (s:Int) (ws:List Txt) (rad:Int):(hit9 r P s ws rad).length≤1000:=
 Nat.le_trans (hitF_len ..) (Nat.le_trans (plcs_len ..) (allP_len hP ws))
theorem plcs_at {r:Rw} {l:List Int} {i:Nat} (h:i<(plcs r l).length):0≤(plcs r l).getD i 0∧(plcs r l).getD i 0<plc r:=(plcs_mem.1 (getD_mem h)).2
theorem within_no {r:Rw} {P:List Po} {s:Int} {ws:List Txt} {rad:Int} (hr:okR r) (hP:okP P) (hw:ws.length≤1000) (he:ern r s ws rad≠0):runP tab 1690 [.agg (rwS r),.sl 2 (poS P),.int .i64 s,.sl 1 (strs ws),.int .i64 rad] []=some (.tup [.nilp,.int .i64 (ern r s ws rad)],[]):=by
 refine runP_fn t1690 rfl ?_
 have gh:=having_run (rad:=rad) hr hP hw
 have gl:=levels_run (s:=s) (b:=false) hr
 simp only [rwS] at gh gl
 rcases ern_cases r s ws rad with ⟨e,h1⟩ | ⟨e,h1,h2⟩ | ⟨e,_⟩
 ·rw [e]
  rw [hvT,if_neg h1] at gh
  simp (disch:=omega) only [go_sem,d1690,rwS,gh]
 ·rw [e]
  rw [hvT,if_pos h1] at gh
  by_cases h3:ws=[]∨rad<0
  ·rw [if_pos h3] at gh
   simp (disch:=omega) only [go_sem,d1690,rwS,gh]
  ·rw [if_neg h3] at gh
   rw [lvT_far h1 ((h2.resolve_left (fun h=>h3 (.inl h))).resolve_left (fun h=>h3 (.inr h)))] at gl
   simp (disch:=omega) only [go_sem,d1690,rwS,gh,gl]
 ·exact absurd e he
theorem within_yes {r:Rw} {P:List Po} {s:Int} {ws:List Txt} {rad:Int} (hr:okR r) (hP:okP P) (hw:ws.length≤1000) (he:ern r s ws rad=0):runP tab 1690 [.agg (rwS r),.sl 2 (poS P),.int .i64 s,.sl 1 (strs ws),.int .i64 rad] []=some (.tup [.box [.vec 2 (prs (hit9 r P s ws rad))],.int .i64 0],[]):=by
 refine runP_fn t1690 rfl ?_
 have gh:=having_run (rad:=rad) hr hP hw
 have gl:=levels_run (s:=s) (b:=false) hr
 simp only [rwS] at gh gl
 rcases ern_cases r s ws rad with ⟨e,h1⟩ | ⟨e,h1,h2⟩ | ⟨e,h1,h2,h3,h4⟩
 ·rw [e] at he;omega
 ·rw [e] at he;omega
 obtain ⟨s,rfl⟩:∃ n:Nat,s=n:=⟨s.toNat,by omega⟩
 rw [hvT,if_pos h1,if_neg (show ¬ (ws=[]∨rad<0) by simp only [not_or];exact ⟨h2,by omega⟩)] at gh
 rw [lvT_yes h1 h4] at gl
 unfold hit9
 have ha:∀ i,i<(plcs r (allP P ws)).length→_:=fun i hi=>plcs_at hi
 have hl:=Nat.le_trans (plcs_len r _) (allP_len hP ws)
 have ll:=levs_len (nbr r false) s (plc r)
 have hat:∀ i,i<(plcs r (allP P ws)).length→(levs (nbr r false) s (plc r)).getD ((plcs r (allP P ws)).getD i 0).toNat 0=lev (nbr r false) s ((plcs r (allP P ws)).getD i 0):=fun i hi=>levs_at (ha i hi).1 (ha i hi).2
 have hpl:=plc_small hr
 generalize plcs r (allP P ws)=A at *
 have La:=ints_length A
 generalize levs (nbr r false) s (plc r)=V at *
 have Lv:=ints_length V
 simp (disch:=omega) only [go_sem,d1690,rwS,gh,gl,La]
 refine Ev_loop0 (fun i=>⟨[(4,.int .i64 rad),(14,.own 1 2),(15,.ref 4 0),(41,.own 1 1),(42,.int .i64 (A.length:Int)),(43,.int .i64 (i:Int))],.row false (rwS r)::.row false (ints A)::.row false (ints V)::.dead::[.row false [.vec 2 (prs (hitF (nbr r false) s rad (A.take i)))]],0,[(0,5,[4,14,15,41,42,43],[(14,2),(15,4),(41,1)])]⟩) A.length (by simp [rwS,hitF,prs]) (fun i hi=>?_) ?_
 ·have e1:=ints_rdc0 hi
  have hp:=ha i hi
  have hv:=hat i hi
  have et:A.take (i+1)=A.take i++[A.getD i 0]:=take_snoc 0 hi
  have e2:=ints_rdc0 (l:=V) (i:=(A.getD i 0).toNat) (by omega)
  rw [hv] at e2
  have lh:=hitF_len (nbr r false) s rad (A.take i)
  rw [List.length_take] at lh
  have lhp:=prs_len (hitF (nbr r false) s rad (A.take i))
  have e0:∀ a b:Int,[AV.int .i64 a,.int .i64 b]=prs [(a,b)]:=fun a b=>rfl
  rw [et,hitF_snoc]
  by_cases c1:0≤lev (nbr r false) s (A.getD i 0)
  ·by_cases c2:lev (nbr r false) s (A.getD i 0)≤rad
   ·rw [if_pos ⟨c1,c2⟩]
    simp (disch:=omega) only [go_sem,d1690_b0,rwS,La,Lv,e1,e2,lhp,prs_snoc]
   ·rw [if_neg (fun h=>c2 h.2),List.append_nil]
    simp (disch:=omega) only [go_sem,d1690_b0,rwS,La,Lv,e1,e2,lhp]
  ·rw [if_neg (fun h=>c1 h.1),List.append_nil]
   simp (disch:=omega) only [go_sem,d1690_b0,rwS,La,Lv,e1,e2,lhp]
 ·rw [List.take_length]
  simp (disch:=omega) only [go_sem,d1690_b0,rwS,La]
noncomputable def htT (r:Rw) (P:List Po) (s:Int) (ws:List Txt) (rad:Int):AV:=.tup [.vec 2 (prs (if ern r s ws rad=0 then hitsL r P s ws rad else [])),.int .i64 (ern r s ws rad)]
theorem nhits_run {r:Rw} {P:List Po} {s:Int} {ws:List Txt} {rad:Int} (hr:okR r) (hP:okP P) (hw:ws.length≤1000):runP tab 1687 [.agg (rwS r),.sl 2 (poS P),.int .i64 s,.sl 1 (strs ws),.int .i64 rad] []=some (htT r P s ws rad,[]):=by
 refine runP_fn t1687 rfl ?_
 unfold htT
 by_cases he:ern r s ws rad=0
 ·have gw:=within_yes hr hP hw he
  have hl:=hit9_len hP r s ws rad
  have gd:=drain_n (d:=(hit9 r P s ws rad).toArray) (by simp;omega)
  rw [he,if_pos rfl,show hitsL r P s ws rad=sorted ltH (hit9 r P s ws rad) from rfl]
  simp only [rwS] at gw
  simp only [] at gd
  simp (disch:=omega) only [go_sem,d1687,rwS,gw,gd]
 ·have gw:=within_no hr hP hw he
  rw [if_neg he]
  simp only [rwS] at gw
  simp (disch:=omega) only [go_sem,d1687,rwS,gw,he]
  rfl
noncomputable def fsT (r:Rw) (P:List Po) (s:Int) (ws:List Txt):AV:=
 .tup [htA (if ern r s ws 200=0 then (hitsL r P s ws 200).getD 0 default else default),.bool (decide (ern r s ws 200=0∧hitsL r P s ws 200≠[])),.int .i64 (ern r s ws 200)]
theorem hitsL_nil {r:Rw} {P:List Po} {s:Int} {ws:List Txt} {rad:Int}:hitsL r P s ws rad=[]↔hit9 r P s ws rad=[]:=by
 rw [←List.length_eq_zero_iff,←List.length_eq_zero_iff,show hitsL r P s ws rad=sorted ltH (hit9 r P s ws rad) from rfl,sorted_len]
theorem nfirst_run {r:Rw} {P:List Po} {s:Int} {ws:List Txt} (hr:okR r) (hP:okP P) (hw:ws.length≤1000):runP tab 1689 [.agg (rwS r),.sl 2 (poS P),.int .i64 s,.sl 1 (strs ws)] []=some (fsT r P s ws,[]):=by
 refine runP_fn t1689 rfl ?_
 unfold fsT
 by_cases he:ern r s ws 200=0
 ·have gw:=within_yes hr hP hw he
  have hl:=hit9_len hP r s ws 200
  have hn:=hitsL_nil (r:=r) (P:=P) (s:=s) (ws:=ws) (rad:=200)
  have hs:hitsL r P s ws 200=sorted ltH (hit9 r P s ws 200):=rfl
  rw [he,if_pos rfl]
  simp only [rwS] at gw
  have L:=prs_len (hit9 r P s ws 200)
  by_cases h0:hit9 r P s ws 200=[]
  ·rw [hn.2 h0]
   rw [h0] at gw
   simp (disch:=omega) only [go_sem,d1689,rwS,gw,prs]
   rfl
  ·have hpos:0<(hit9 r P s ws 200).length:=by
    rcases Nat.eq_zero_or_pos (hit9 r P s ws 200).length with h | h
    ·exact absurd (List.length_eq_zero_iff.1 h) h0
    ·exact h
   rw [decide_eq_true (show (0:Int)=0∧hitsL r P s ws 200≠[] from ⟨rfl,fun h=>h0 (hn.1 h)⟩)]
   have gi:=hinit_n (d:=(hit9 r P s ws 200).toArray) (by simp;omega)
   have hf:=init_first (d:=(hit9 r P s ws 200).toArray) (by simpa using hpos)
   have hz:(hpInit ltH (hit9 r P s ws 200).toArray.size ((hit9 r P s ws 200).toArray.size / 2) (hit9 r P s ws 200).toArray).size=(hit9 r P s ws 200).toArray.size:=hpInit_size _ _ _
   rw [hs,←hf]
   generalize hpInit ltH (hit9 r P s ws 200).toArray.size ((hit9 r P s ws 200).toArray.size / 2) (hit9 r P s ws 200).toArray=D at *
   have hz:D.size=(hit9 r P s ws 200).length:=by simpa using hz
   have e:=at_e (d:=D) (i:=0) (by omega)
   rw [List.drop_zero] at e
   simp only [] at gi
   simp (disch:=omega) only [go_sem,d1689,rwS,gw,gi,L,e,arr_len]
 ·have gw:=within_no hr hP hw he
  rw [if_neg he]
  simp only [rwS] at gw
  simp (disch:=omega) only [go_sem,d1689,rwS,gw,he]
  rfl
def incF (L:List Int) (v:Int):List Int:=L.set v.toNat (gi L v.toNat+1)
theorem incF_len:∀ (l L:List Int),(l.foldl incF L).length=L.length
 | [],L=>rfl
 |v::l,L=>by rw [List.foldl_cons,incF_len l];unfold incF;rw [List.length_set]
theorem incF_at {n:Nat}:∀ {l L:List Int} {i:Nat},l.Nodup→L.length=n→(∀ v∈l,0≤v∧v<n)→i<n→gi (l.foldl incF L) i=gi L i+(if (i:Int)∈l then 1 else 0)
 | [],L,i,hd,hL,hv,hi=>by simp
 |v::l,L,i,hd,hL,hv,hi=>by
  have h1:=List.nodup_cons.1 hd
  have h2:=hv v (by simp)
  rw [List.foldl_cons,incF_at h1.2 (by unfold incF;rw [List.length_set];exact hL) (fun w hw=>hv w (by simp [hw])) hi]
  unfold incF
  rw [gi_set (by omega)]
  by_cases h:i=v.toNat
  ·have e:(i:Int)=v:=by omega
   rw [if_pos h,if_neg (by rw [e];exact h1.1),if_pos (by rw [e];simp),h]
   omega
  ·have e:¬ (i:Int)=v:=by omega
   rw [if_neg h]
   simp only [List.mem_cons,e,false_or]
noncomputable def cntL (r:Rw) (rad:Int) (l:List Int):List Int:=(List.range (plc r)).map fun v:Nat=>(((l.filter fun w=>decide (0≤lev (nbr r true) w v∧lev (nbr r true) w v≤rad)).length:Nat):Int)
theorem cntL_len (r:Rw) (rad:Int) (l:List Int):(cntL r rad l).length=plc r:=by simp [cntL]
theorem cntL_at {r:Rw} {rad:Int} {l:List Int} {i:Nat} (h:i<plc r):gi (cntL r rad l) i=(((l.filter fun w=>decide (0≤lev (nbr r true) w i∧lev (nbr r true) w i≤rad)).length:Nat):Int):=by
 simp [cntL,gi,List.getD_eq_getElem?_getD,h]
theorem cntL_nil (r:Rw) (rad:Int):cntL r rad []=List.replicate (plc r) 0:=by
 apply List.ext_getElem (by simp [cntL])
 intro i h1 h2
 simp [cntL]
theorem gi_ext9 {a b:List Int} (h:a.length=b.length) (hi:∀ i,i<a.length→gi a i=gi b i):a=b:=by
 apply List.ext_getElem h
 intro i h1 h2
 have:=hi i h1
 simpa [gi,List.getD_eq_getElem?_getD,List.getElem?_eq_getElem h1,List.getElem?_eq_getElem h2] using this
theorem cntL_snoc (r:Rw) (rad:Int) (l:List Int) (w:Int):(ballL (nbr r true) w (plc r) rad (plc r)).foldl incF (cntL r rad l)=cntL r rad (l++[w]):=by
 refine gi_ext9 (by rw [incF_len,cntL_len,cntL_len]) fun i hi=>?_
 rw [incF_len,cntL_len] at hi
 rw [incF_at (n:=plc r) (List.Pairwise.imp (fun h=>by omega) (ball_inc (nbr r true) w (plc r) rad (plc r))) (cntL_len ..) (fun v hv=>(ball_mem.1 hv).1) hi,cntL_at hi,cntL_at hi]
 have hb:=ball_mem (nb:=nbr r true) (s:=w) (n:=plc r) (rad:=rad) (x:=(i:Int))
 rw [List.filter_append,List.length_append]
 by_cases h:0≤lev (nbr r true) w i∧lev (nbr r true) w i≤rad
 ·rw [if_pos (hb.2 ⟨⟨by omega,by omega⟩,h⟩),List.filter_cons_of_pos (by simpa using h)]
  simp
 ·rw [if_neg (fun q=>h (hb.1 q).2),List.filter_cons_of_neg (by simpa using h)]
  simp
theorem cntL_le (r:Rw) (rad:Int) (l:List Int) {i:Nat}:gi (cntL r rad l) i≤l.length:=by
 by_cases h:i<plc r
 ·rw [cntL_at h]
  have:=List.length_filter_le (fun w=>decide (0≤lev (nbr r true) w i∧lev (nbr r true) w i≤rad)) l
  omega
 ·rw [gi_out (by rw [cntL_len];omega)]
  omega
theorem cntL_ge (r:Rw) (rad:Int) (l:List Int) {i:Nat}:0≤gi (cntL r rad l) i:=by
 by_cases h:i<plc r
 ·rw [cntL_at h];omega
 ·rw [gi_out (by rw [cntL_len];omega)]
  omega
noncomputable def ctT (r:Rw) (P:List Po) (ws:List Txt) (rad:Int):AV:=
 if chk r=true then (if ws=[]∨rad<0 then .tup [.vec 1 [],.int .i64 1] else .tup [.vec 1 (ints (cntL r rad (plcs r (allP P ws)))),.int .i64 0]) else .tup [.vec 1 [],.int .i64 40]
theorem fold_at {B:List Int} {j:Nat} (h:j<B.length) (L:List Int):(B.take (j+1)).foldl incF L=incF ((B.take j).foldl incF L) (B.getD j 0):=foldl_snoc incF 0 h L
theorem fold_gi {B L:List Int} {M:Int} (hM:∀ i,0≤gi L i∧gi L i≤M):∀ i,0≤gi (B.foldl incF L) i∧gi (B.foldl incF L) i≤M+B.length:=by
 induction B generalizing L M with
 |nil=>intro i;have:=hM i;simp;omega
 |cons v B ih=>
  intro i
  rw [List.foldl_cons,List.length_cons]
  have:=ih (L:=incF L v) (M:=M+1) (fun k=>by
   unfold incF
   have h1:=hM k
   have h2:=hM v.toNat
   rw [gi_set']
   split<;>omega) i
  push_cast
  omega
theorem ncount_run {r:Rw} {P:List Po} {ws:List Txt} {rad:Int} (hr:okR r) (hP:okP P) (hw:ws.length≤1000):runP tab 1692 [.agg (rwS r),.sl 2 (poS P),.sl 1 (strs ws),.int .i64 rad] []=some (ctT r P ws rad,[]):=by
 refine runP_fn t1692 rfl ?_
 have gh:=having_run (rad:=rad) hr hP hw
 simp only [rwS] at gh
 unfold ctT
 by_cases h1:chk r=true
 case neg=>
  rw [hvT,if_neg h1] at gh
  rw [if_neg h1]
  simp (disch:=omega) only [go_sem,d1692,rwS,gh]
 rw [if_pos h1]
 rw [hvT,if_pos h1] at gh
 by_cases h2:ws=[]∨rad<0
 ·rw [if_pos h2] at gh ⊢
  simp (disch:=omega) only [go_sem,d1692,rwS,gh]
 rw [if_neg h2] at gh ⊢
 have hrad:0≤rad:=by
  rcases Int.lt_or_le rad 0 with h | h
  ·exact absurd (.inr h) h2
  ·exact h
 have ha:∀ i,i<(plcs r (allP P ws)).length→_:=fun i hi=>plcs_at hi
 have hl:=Nat.le_trans (plcs_len r _) (allP_len hP ws)
 have hpl:=plc_small hr
 have gm:=many_run hr
 rw [many9 hr h1] at gm
 simp only [rwS] at gm
 generalize plcs r (allP P ws)=A at *
 have La:=ints_length A
 have z:=tile_ints 0 (plc r)
 simp (disch:=omega) only [go_sem,d1692,rwS,gh,gm,La,z]
 refine Ev_loop0 (fun i=>⟨[(3,.int .i64 rad),(4,.ref 0 0),(12,.own 1 2),(33,.own 1 1),(34,.int .i64 (A.length:Int)),(35,.int .i64 (i:Int))],[.row false (rwS r),.row false (ints A),.row false (ints (cntL r rad (A.take i)))],0,[(0,3,[3,4,12,33,34,35],[(4,0),(12,2),(33,1)])]⟩) A.length (by simp [rwS,cntL_nil]) (fun i hi=>?_) ?_
 ·have e1:=ints_rdc0 hi
  have hp:=ha i hi
  have et:A.take (i+1)=A.take i++[A.getD i 0]:=take_snoc 0 hi
  have g:=ball_run (s:=A.getD i 0) (rad:=rad) (b:=true) hr
  rw [blT,if_pos h1,if_pos hp,if_neg (by omega)] at g
  have hbl:=ballL_len (nbr r true) (A.getD i 0) (plc r) rad (plc r)
  have hbm:∀ j,j<(ballL (nbr r true) (A.getD i 0) (plc r) rad (plc r)).length→_:=fun j hj=>(ball_mem.1 (getD_mem (d:=0) hj)).1
  have lc:=cntL_len r rad (A.take i)
  have hc:∀ k,0≤gi (cntL r rad (A.take i)) k∧gi (cntL r rad (A.take i)) k≤1000:=fun k=>by
   have q1:=cntL_ge r rad (A.take i) (i:=k)
   have q2:=cntL_le r rad (A.take i) (i:=k)
   rw [List.length_take] at q2
   omega
  rw [et,←cntL_snoc]
  simp only [rwS] at g
  generalize ballL (nbr r true) (A.getD i 0) (plc r) rad (plc r)=B at *
  generalize cntL r rad (A.take i)=C at *
  have Lb:=ints_length B
  simp (disch:=omega) only [go_sem,d1692_b0,rwS,La,e1,g,Lb]
  refine Ev_loop0 (fun j=>⟨[(3,.int .i64 rad),(4,.ref 0 0),(12,.own 1 2),(33,.own 1 1),(34,.int .i64 (A.length:Int)),(35,.int .i64 (i:Int)),(46,.own 1 3),(47,.int .i64 (B.length:Int)),(48,.int .i64 (j:Int))],[.row false (rwS r),.row false (ints A),.row false (ints ((B.take j).foldl incF C)),.row false (ints B)],0,[(1,4,[3,4,12,33,34,35,46,47,48],[(4,0),(12,2),(33,1),(46,3)]),(0,3,[3,4,12,33,34,35],[(4,0),(12,2),(33,1)])]⟩) B.length (by simp [rwS]) (fun j hj=>?_) ?_
  ·have e2:=ints_rdc0 hj
   have hq:=hbm j hj
   have hg:=fold_gi (B:=B.take j) hc (B.getD j 0).toNat
   have lf:=incF_len (B.take j) C
   rw [List.length_take] at hg
   rw [fold_at hj]
   generalize (B.take j).foldl incF C=D at *
   have e3:=ints_rdc0 (l:=D) (i:=(B.getD j 0).toNat) (by omega)
   have Ld:=ints_length D
   have e4:D.getD (B.getD j 0).toNat 0=gi D (B.getD j 0).toNat:=rfl
   rw [e4] at e3
   unfold incF
   simp (disch:=omega) only [go_sem,d1692_b1,rwS,Lb,Ld,e2,e3,ints_set]
  ·rw [List.take_length]
   simp (disch:=omega) only [go_sem,d1692_b1,rwS,Lb]
 ·rw [List.take_length]
  simp (disch:=omega) only [go_sem,d1692_b0,rwS,La]
end Go.Proofs.YtgiofefdfcaibaaGreat
