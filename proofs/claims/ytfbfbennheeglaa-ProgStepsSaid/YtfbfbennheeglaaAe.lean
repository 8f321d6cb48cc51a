import Derived.Test.YtfbfbennheeglaaMl
import Derived.Test.YtfbfbennheeglaaCf
import Derived.Test.YtfbfbennheeglaaAs
import Derived.Test.YtfbfbennheeglaaKz
import Derived.Test.YtfbfbennheeglaaHx
namespace Go.Proofs.Ytfbfbennheeglaa
set_option linter.unusedSimpArgs false
set_option linter.unusedVariables false
set_option maxHeartbeats 4000000
set_option maxRecDepth 100000
def mn:Option Int→Int→Option Int
  |none,s=>some s
  |some a,s=>if s<a then some s else some a
def mnL (L:List Int):Option Int:=L.foldl mn none
theorem mnL_snoc (L:List Int) (s:Int):mnL (L++[s])=mn (mnL L) s:=by unfold mnL;rw [List.foldl_append];rfl
def IsMn (L:List Int):Option Int→Prop
  |none=>L=[]
  |some m=>m∈L∧∀ s∈L,m≤s
theorem mnL_is (L:List Int):IsMn L (mnL L):=by
  refine snocInd (p:=fun L=>IsMn L (mnL L)) rfl (fun L s ih=>?_) L
  rw [mnL_snoc]
  cases h:mnL L with
  |none=>
    rw [h] at ih
    have e:L=[]:=ih
    subst e
    exact ⟨by simp,fun t ht=>by simp at ht;omega⟩
  |some m=>
    rw [h] at ih
    obtain ⟨h1,h2⟩:=ih
    show IsMn (L++[s]) (if s<m then some s else some m)
    by_cases hc:s<m
    · rw [if_pos hc]
      refine ⟨by simp,fun t ht=>?_⟩
      rcases List.mem_append.1 ht with q | q
      · have:=h2 t q;omega
      · simp at q;omega
    · rw [if_neg hc]
      refine ⟨by simp [h1],fun t ht=>?_⟩
      rcases List.mem_append.1 ht with q | q
      · exact h2 t q
      · simp at q;omega
theorem mn_uni {L M:List Int} {a b:Option Int} (ha:IsMn L a) (hb:IsMn M b) (h1:∀ s∈L,∃ t∈M,t≤s) (h2:∀ s∈M,∃ t∈L,t≤s):a=b:=by
  cases a with
  |none=>
    cases b with
    |none=>rfl
    |some b=>
      have e:L=[]:=ha
      obtain ⟨t,ht,_⟩:=h2 b hb.1
      rw [e] at ht;cases ht
  |some a=>
    cases b with
    |none=>
      have e:M=[]:=hb
      obtain ⟨t,ht,_⟩:=h1 a ha.1
      rw [e] at ht;cases ht
    |some b=>
      obtain ⟨t,ht,q1⟩:=h1 a ha.1
      obtain ⟨u,hu,q2⟩:=h2 b hb.1
      have:=hb.2 t ht
      have:=ha.2 u hu
      congr 1
      omega
structure En where
  t0:Bool
  t1:Bool
  d0:Int
  d1:Int
def enC (e:En):List AV:=[.bool e.t0,.bool e.t1,.int .i64 e.d0,.int .i64 e.d1]
def en0:En:=⟨false,false,0,0⟩
def isD (x:Ml):Bool:=decide (x.b=0∨x.b=1)
def enU (e:En) (x:Ml):En:=if x.b=0 then (if e.t0=false∨x.d<e.d0 then { e with t0:=true,d0:=x.d } else e) else (if e.t1=false∨x.d<e.d1 then { e with t1:=true,d1:=x.d } else e)
def enF (l:List Ml) (v:Int):En:=l.foldl (fun e x=>if isD x=true∧x.v=v then enU e x else e) en0
theorem enF_snoc (l:List Ml) (x:Ml) (v:Int):enF (l++[x]) v=if isD x=true∧x.v=v then enU (enF l v) x else enF l v:=by unfold enF;rw [List.foldl_append];rfl
def kyE (l:List Ml):List Int:=ddI ((l.filter isD).map (·.v))
theorem kyE_snoc (l:List Ml) (x:Ml):kyE (l++[x])=if isD x=true then (if x.v∈kyE l then kyE l else kyE l++[x.v]) else kyE l:=by
  unfold kyE
  rw [List.filter_append]
  cases h:isD x with
  |true=>rw [List.filter_cons_of_pos h,List.filter_nil,List.map_append,if_pos rfl];exact ddI_snoc _ _
  |false=>rw [List.filter_cons_of_neg (by rw [h];decide),List.filter_nil,List.append_nil,if_neg (by decide)]
theorem kyE_mem {l:List Ml} {v:Int}:v∈kyE l↔∃ x∈l,isD x=true∧x.v=v:=by
  unfold kyE;rw [ddI_mem,List.mem_map]
  constructor
  · rintro ⟨x,hx,e⟩;rw [List.mem_filter] at hx;exact ⟨x,hx.1,hx.2,e⟩
  · rintro ⟨x,h1,h2,e⟩;exact ⟨x,List.mem_filter.2 ⟨h1,h2⟩,e⟩
theorem ddI_nodup18 (l:List Int):(ddI l).Nodup:=by
  refine snocInd (p:=fun l=>(ddI l).Nodup) (by simp [ddI]) (fun l y ih=>?_) l
  rw [ddI_snoc]
  split
  · exact ih
  · rename_i h
    rw [List.nodup_append]
    refine ⟨ih,by simp,fun a ha b hb=>?_⟩
    rw [List.mem_singleton] at hb
    subst hb
    exact fun e=>h (e ▸ ha)
theorem kyE_nodup (l:List Ml):(kyE l).Nodup:=ddI_nodup18 _
theorem kyE_len (l:List Ml):(kyE l).length≤l.length:=by
  unfold kyE
  refine Nat.le_trans (ddI_len _) ?_
  rw [List.length_map]
  exact List.length_filter_le _ _
theorem enF_out {l:List Ml} {v:Int} (h:v ∉ kyE l):enF l v=en0:=by
  revert h
  refine snocInd (p:=fun l=>v ∉ kyE l→enF l v=en0) (fun _=>rfl) (fun l x ih h=>?_) l
  rw [enF_snoc]
  have h2:¬ (isD x=true∧x.v=v):=fun q=>h (kyE_mem.2 ⟨x,by simp,q.1,q.2⟩)
  rw [if_neg h2]
  exact ih fun q=>by
    obtain ⟨y,a,b,c⟩:=kyE_mem.1 q
    exact h (kyE_mem.2 ⟨y,by simp [a],b,c⟩)
def vcE (l:List Ml):List AV:=(kyE l).map fun v=>.agg (enC (enF l v))
theorem vcE_len (l:List Ml):(vcE l).length=(kyE l).length:=by simp [vcE]
theorem vcE_at {l:List Ml} {j:Nat} (h:j<(kyE l).length):(vcE l)[j]? = some (.agg (enC (enF l ((kyE l).getD j 0)))):=by
  simp [vcE,List.getD_eq_getElem?_getD,List.getElem?_eq_getElem h]
theorem kyE_inj {l:List Ml} {i j:Nat} (hi:i<(kyE l).length) (hj:j<(kyE l).length) (e:(kyE l).getD i 0=(kyE l).getD j 0):i=j:=by
  have hn:=kyE_nodup l
  rw [List.getD_eq_getElem?_getD,List.getD_eq_getElem?_getD,List.getElem?_eq_getElem hi,List.getElem?_eq_getElem hj] at e
  exact (List.getElem_inj hn).1 e
theorem vcE_set {l:List Ml} {x:Ml} (hx:isD x=true) {j:Nat} (hj:j<(kyE l).length) (e:(kyE l).getD j 0=x.v):(vcE l).set j (.agg (enC (enU (enF l x.v) x)))=vcE (l++[x]):=by
  have hm:x.v∈kyE l:=by rw [←e];exact getD_mem hj
  unfold vcE
  rw [kyE_snoc,if_pos hx,if_pos hm]
  apply List.ext_getElem (by simp)
  intro i h1 h2
  have hi:i<(kyE l).length:=by simpa using h2
  rw [List.getElem_set]
  simp only [List.getElem_map]
  by_cases q:j=i
  · subst q
    have e2:(kyE l)[j]=x.v:=by rw [←e,List.getD_eq_getElem?_getD,List.getElem?_eq_getElem hj];rfl
    rw [if_pos rfl,e2,enF_snoc,if_pos ⟨hx,rfl⟩]
  · rw [if_neg q,enF_snoc,if_neg]
    rintro ⟨_,q2⟩
    refine q (kyE_inj hj hi ?_)
    rw [e,q2,List.getD_eq_getElem?_getD,List.getElem?_eq_getElem hi];rfl
theorem vcE_new {l:List Ml} {x:Ml} (hx:isD x=true) (h:x.v ∉ kyE l):vcE l++[.agg (enC (enU en0 x))]=vcE (l++[x]):=by
  unfold vcE
  rw [kyE_snoc,if_pos hx,if_neg h,List.map_append,List.map_cons,List.map_nil,enF_snoc,if_pos ⟨hx,rfl⟩,enF_out h]
  congr 1
  refine List.map_congr_left fun v hv=>?_
  rw [enF_snoc,if_neg]
  rintro ⟨_,q⟩
  exact h (q ▸ hv)
theorem vcE_no {l:List Ml} {x:Ml} (hx:isD x=false):vcE (l++[x])=vcE l∧kyE (l++[x])=kyE l:=by
  have hk:kyE (l++[x])=kyE l:=by rw [kyE_snoc,if_neg (by rw [hx];decide)]
  refine ⟨?_,hk⟩
  unfold vcE
  rw [hk]
  refine List.map_congr_left fun v hv=>?_
  rw [enF_snoc,if_neg (by rw [hx];simp)]
structure EnOk (l:List Ml) (v:Int) (e:En):Prop where
  a0:e.t0=true→(∃ x∈l,x.b=0∧x.v=v∧x.d=e.d0)
  b0:∀ x∈l,x.b=0→x.v=v→e.t0=true∧e.d0≤x.d
  a1:e.t1=true→(∃ x∈l,x.b=1∧x.v=v∧x.d=e.d1)
  b1:∀ x∈l,x.b=1→x.v=v→e.t1=true∧e.d1≤x.d
theorem enF_ok (l:List Ml) (v:Int):EnOk l v (enF l v):=by
  refine snocInd (p:=fun l=>EnOk l v (enF l v)) ⟨(by intro h;cases h),(by intro x hx;cases hx),(by intro h;cases h),(by intro x hx;cases hx)⟩ (fun l x ih=>?_) l
  rw [enF_snoc]
  obtain ⟨a0,b0,a1,b1⟩:=ih
  generalize enF l v=e at *
  have up0:(∃ y∈l,y.b=0∧y.v=v∧y.d=e.d0)→∃ y∈l++[x],y.b=0∧y.v=v∧y.d=e.d0:=fun ⟨y,h,q⟩=>⟨y,by simp [h],q⟩
  have up1:(∃ y∈l,y.b=1∧y.v=v∧y.d=e.d1)→∃ y∈l++[x],y.b=1∧y.v=v∧y.d=e.d1:=fun ⟨y,h,q⟩=>⟨y,by simp [h],q⟩
  by_cases hx:isD x=true∧x.v=v
  · rw [if_pos hx]
    obtain ⟨hx1,hx2⟩:=hx
    simp only [isD,decide_eq_true_eq] at hx1
    unfold enU
    by_cases h0:x.b=0
    · rw [if_pos h0]
      have k1:∀ y∈l++[x],y.b=1→y.v=v→e.t1=true∧e.d1≤y.d:=fun y hy q1 q2=>by
        rcases List.mem_append.1 hy with q | q
        · exact b1 y q q1 q2
        · rw [List.mem_singleton] at q;subst q;omega
      by_cases hc:e.t0=false∨x.d<e.d0
      · rw [if_pos hc]
        refine ⟨fun _=>⟨x,by simp,h0,hx2,rfl⟩,fun y hy q1 q2=>⟨rfl,?_⟩,fun h=>up1 (a1 h),k1⟩
        rcases List.mem_append.1 hy with q | q
        · obtain ⟨c1,c2⟩:=b0 y q q1 q2
          rcases hc with hc | hc
          · rw [hc] at c1;cases c1
          · show x.d≤y.d;omega
        · rw [List.mem_singleton] at q;subst q;exact Int.le_refl _
      · rw [if_neg hc]
        have hc1:e.t0=true:=by cases h:e.t0 with | true=>rfl | false=>exact absurd (.inl h) hc
        have hc2:¬ x.d<e.d0:=fun h=>hc (.inr h)
        refine ⟨fun h=>up0 (a0 h),fun y hy q1 q2=>⟨hc1,?_⟩,fun h=>up1 (a1 h),k1⟩
        rcases List.mem_append.1 hy with q | q
        · exact (b0 y q q1 q2).2
        · rw [List.mem_singleton] at q;subst q;omega
    · rw [if_neg h0]
      have k0:∀ y∈l++[x],y.b=0→y.v=v→e.t0=true∧e.d0≤y.d:=fun y hy q1 q2=>by
        rcases List.mem_append.1 hy with q | q
        · exact b0 y q q1 q2
        · rw [List.mem_singleton] at q;subst q;omega
      by_cases hc:e.t1=false∨x.d<e.d1
      · rw [if_pos hc]
        refine ⟨fun h=>up0 (a0 h),k0,fun _=>⟨x,by simp,by omega,hx2,rfl⟩,fun y hy q1 q2=>⟨rfl,?_⟩⟩
        rcases List.mem_append.1 hy with q | q
        · obtain ⟨c1,c2⟩:=b1 y q q1 q2
          rcases hc with hc | hc
          · rw [hc] at c1;cases c1
          · show x.d≤y.d;omega
        · rw [List.mem_singleton] at q;subst q;exact Int.le_refl _
      · rw [if_neg hc]
        have hc1:e.t1=true:=by cases h:e.t1 with | true=>rfl | false=>exact absurd (.inl h) hc
        have hc2:¬ x.d<e.d1:=fun h=>hc (.inr h)
        refine ⟨fun h=>up0 (a0 h),k0,fun h=>up1 (a1 h),fun y hy q1 q2=>⟨hc1,?_⟩⟩
        rcases List.mem_append.1 hy with q | q
        · exact (b1 y q q1 q2).2
        · rw [List.mem_singleton] at q;subst q;omega
  · rw [if_neg hx]
    have hx0:∀ y∈l++[x],(y.b=0∨y.b=1)→y.v=v→y∈l:=fun y hy q1 q2=>by
      rcases List.mem_append.1 hy with q | q
      · exact q
      · rw [List.mem_singleton] at q;subst q
        exact absurd ⟨by simpa [isD] using q1,q2⟩ hx
    exact ⟨fun h=>up0 (a0 h),fun y hy q1 q2=>b0 y (hx0 y hy (.inl q1) q2) q1 q2,fun h=>up1 (a1 h),fun y hy q1 q2=>b1 y (hx0 y hy (.inr q1) q2) q1 q2⟩
def bothE (e:En):Bool:=e.t0 && e.t1
def plE (l:List Ml) (ks:List Int):List Int:=(ks.filter fun v=>bothE (enF l v)).map fun v=>(enF l v).d0+(enF l v).d1
def smR (l:List Ml) (x:Ml):List Int:=(l.filter fun y=>decide (x.b=0∧y.b=1∧x.v=y.v)).map fun y=>x.d+y.d
def smL (l:List Ml):List Int:=l.flatMap (smR l)
theorem smL_mem {l:List Ml} {s:Int}:s∈smL l↔∃ x∈l,∃ y∈l,(x.b=0∧y.b=1∧x.v=y.v)∧x.d+y.d=s:=by
  simp only [smL,smR,List.mem_flatMap,List.mem_map,List.mem_filter,decide_eq_true_eq,and_assoc]
theorem plE_mem {l:List Ml} {ks:List Int} {s:Int}:s∈plE l ks↔∃ v∈ks,bothE (enF l v)=true∧(enF l v).d0+(enF l v).d1=s:=by
  simp only [plE,List.mem_map,List.mem_filter,and_assoc]
theorem least_eq {l:List Ml} {ks:List Int} (h:ks.Perm (kyE l)):mnL (plE l ks)=mnL (smL l):=by
  refine mn_uni (mnL_is _) (mnL_is _) (fun s hs=>?_) (fun s hs=>?_)
  · obtain ⟨v,_,hb,e⟩:=plE_mem.1 hs
    unfold bothE at hb
    rw [Bool.and_eq_true] at hb
    have ok:=enF_ok l v
    obtain ⟨x,hx,x1,x2,x3⟩:=ok.a0 hb.1
    obtain ⟨y,hy,y1,y2,y3⟩:=ok.a1 hb.2
    exact ⟨_,smL_mem.2 ⟨x,hx,y,hy,⟨x1,y1,by omega⟩,rfl⟩,by omega⟩
  · obtain ⟨x,hx,y,hy,⟨h1,h2,h3⟩,e⟩:=smL_mem.1 hs
    have ok:=enF_ok l x.v
    obtain ⟨c1,c2⟩:=ok.b0 x hx h1 rfl
    obtain ⟨c3,c4⟩:=ok.b1 y hy h2 h3.symm
    have hk:x.v∈kyE l:=kyE_mem.2 ⟨x,hx,by simp [isD,h1],rfl⟩
    exact ⟨_,plE_mem.2 ⟨x.v,h.mem_iff.2 hk,by unfold bothE;rw [c1,c3];rfl,rfl⟩,by omega⟩
theorem mls_at2 (a b:List Ml) (hl:a.length=b.length):(∀ i,i<a.length→a.getD i default=b.getD i default)∧a=b∨∃ n,n<a.length∧(∀ i,i<n→a.getD i default=b.getD i default)∧a.getD n default≠b.getD n default∧a≠b:=by
  rcases first_ix (fun i=>a.getD i default=b.getD i default) a.length with h | ⟨m,h1,h2,h3⟩
  · refine .inl ⟨h,List.ext_getElem hl fun i x y=>?_⟩
    have:=h i x
    rwa [List.getD_eq_getElem?_getD,List.getD_eq_getElem?_getD,List.getElem?_eq_getElem x,List.getElem?_eq_getElem y] at this
  · exact .inr ⟨m,h1,h2,h3,by rintro rfl;exact h3 rfl⟩
theorem ml_enc (a b c d:Int):encA [.int .i64 a,.int .i64 b,.int .i64 c,.int .i64 d]=40:=rfl
theorem ml_eq (x y:Ml):aeqL [.int .i64 x.s,.int .i64 x.b,.int .i64 x.v,.int .i64 x.d] [.int .i64 y.s,.int .i64 y.b,.int .i64 y.v,.int .i64 y.d]=some (decide (x=y)):=by
  obtain ⟨a,b,c,d⟩:=x
  obtain ⟨e,f,g,h⟩:=y
  simp only [aeqL,aeq,if_true,Option.bind_some,Option.map_some,Bool.and_true,Option.some.injEq]
  rw [Bool.eq_iff_iff]
  simp only [Bool.and_eq_true,beq_iff_eq,decide_eq_true_eq,Ml.mk.injEq]
theorem same16_run {a b:List Ml} (ha:a.length≤1000000) (hb:b.length≤1000000):runP tab 1120 [.sl 4 (mls a),.sl 4 (mls b)] []=some (.bool (decide (a=b)),[]):=by
  refine runP_fn t1120 rfl ?_
  by_cases hl:a.length=b.length
  · simp (disch:=omega) only [go_sem,d1120]
    rcases mls_at2 a b hl with ⟨h1,h2⟩ | ⟨k,h0,h1,h2,h3⟩
    · rw [decide_eq_true h2]
      refine Ev_loop0 (fun i=>⟨[(0,.sl 4 (mls a)),(1,.sl 4 (mls b)),(5,.int .i64 (i:Int))],[],0,[(0,0,[0,1,5],[])]⟩) a.length rfl (fun i hi=>?_) ?_
      · have e:=h1 i (by omega)
        have q1:=mls_at (l:=a) hi
        have q2:=mls_at (l:=b) (show i<b.length by omega)
        rw [e] at q1
        simp only [mlC] at q1 q2
        have qe:=ml_eq (b.getD i default) (b.getD i default)
        rw [decide_eq_true rfl] at qe
        simp (disch:=omega) only [go_sem,d1120_b0,q1,q2,ml_enc,qe]
      · simp (disch:=omega) only [go_sem,d1120_b0]
    · rw [decide_eq_false h3]
      refine Ev_loop0 (fun i=>⟨[(0,.sl 4 (mls a)),(1,.sl 4 (mls b)),(5,.int .i64 (i:Int))],[],0,[(0,0,[0,1,5],[])]⟩) k rfl (fun i hi=>?_) ?_
      · have e:=h1 i (by omega)
        have q1:=mls_at (l:=a) (show i<a.length by omega)
        have q2:=mls_at (l:=b) (show i<b.length by omega)
        rw [e] at q1
        simp only [mlC] at q1 q2
        have qe:=ml_eq (b.getD i default) (b.getD i default)
        rw [decide_eq_true rfl] at qe
        simp (disch:=omega) only [go_sem,d1120_b0,q1,q2,ml_enc,qe]
      · have q1:=mls_at (l:=a) h0
        have q2:=mls_at (l:=b) (show k<b.length by omega)
        simp only [mlC] at q1 q2
        generalize a.getD k default=x at *
        generalize b.getD k default=y at *
        have qe:=ml_eq x y
        rw [decide_eq_false h2] at qe
        simp (disch:=omega) only [go_sem,d1120_b0,q1,q2,ml_enc,qe]
  · have h:decide (a=b)=false:=decide_eq_false (by rintro rfl;exact hl rfl)
    simp (disch:=omega) only [go_sem,d1120,h]
def letter (b:UInt8):Bool:=decide (97≤b.toNat∧b.toNat≤122)
def wordB (s:Txt):Bool:=decide (1≤s.length∧s.length≤12) && s.all letter
theorem txt_at {s:Txt} {i:Nat} (h:i<s.length):s[i]? = some (s.getD i 0):=by
  rw [List.getD_eq_getElem?_getD,List.getElem?_eq_getElem h];rfl
theorem letters_at (s:Txt):(∀ i,i<s.length→97≤(s.getD i 0).toNat∧(s.getD i 0).toNat≤122)∧s.all letter=true∨∃ m,m<s.length∧(∀ i,i<m→97≤(s.getD i 0).toNat∧(s.getD i 0).toNat≤122)∧¬ (97≤(s.getD m 0).toNat∧(s.getD m 0).toNat≤122)∧s.all letter=false:=by
  rcases first_ix (fun i=>97≤(s.getD i 0).toNat∧(s.getD i 0).toNat≤122) s.length with h | ⟨m,h1,h2,h3⟩
  · refine .inl ⟨h,?_⟩
    rw [List.all_eq_true]
    intro x hx
    obtain ⟨i,hi,rfl⟩:=mem_getD (d:=0) hx
    simpa [letter] using h i hi
  · refine .inr ⟨m,h1,h2,h3,?_⟩
    rw [List.all_eq_false]
    exact ⟨_,getD_mem (d:=0) h1,by simpa [letter] using h3⟩
theorem word_run {s:Txt} (hs:s.length≤1000000):runP tab 1222 [.str s] []=some (.bool (wordB s),[]):=by
  refine runP_fn t1222 rfl ?_
  unfold wordB
  by_cases h1:1≤s.length
  case neg=>
    rw [decide_eq_false (by omega),Bool.false_and]
    simp (disch:=omega) only [go_sem,d1222]
  by_cases h2:s.length≤12
  case neg=>
    rw [decide_eq_false (by omega),Bool.false_and]
    simp (disch:=omega) only [go_sem,d1222]
  rw [decide_eq_true ⟨h1,h2⟩,Bool.true_and]
  simp (disch:=omega) only [go_sem,d1222]
  rcases letters_at s with ⟨h,e⟩ | ⟨m,m1,m2,m3,e⟩
  · rw [e]
    refine Ev_loop0 (fun i=>⟨[(0,.str s),(13,.int .i64 s.length),(14,.int .i64 (i:Int))],[],0,[(0,0,[0,13,14],[])]⟩) s.length rfl (fun i hi=>?_) ?_
    · have q:=h i hi
      have e:=txt_at hi
      simp (disch:=omega) only [go_sem,d1222_b0,e]
    · simp (disch:=omega) only [go_sem,d1222_b0]
  · rw [e]
    refine Ev_loop0 (fun i=>⟨[(0,.str s),(13,.int .i64 s.length),(14,.int .i64 (i:Int))],[],0,[(0,0,[0,13,14],[])]⟩) m rfl (fun i hi=>?_) ?_
    · have q:=m2 i hi
      have e:=txt_at (s:=s) (i:=i) (by omega)
      simp (disch:=omega) only [go_sem,d1222_b0,e]
    · have e:=txt_at m1
      by_cases h0:97≤(s.getD m 0).toNat
      · have h3:¬ (s.getD m 0).toNat≤122:=fun h=>m3 ⟨h0,h⟩
        simp (disch:=omega) only [go_sem,d1222_b0,e]
      · simp (disch:=omega) only [go_sem,d1222_b0,e]
theorem word2_run {s:Txt} (hs:s.length≤1000000):runP tab 1270 [.str s] []=some (.bool (wordB s),[]):=by
  refine runP_fn t1270 rfl ?_
  simp (disch:=omega) only [go_sem,d1270]
  unfold wordB
  have hst:=fun (i:Nat) (hi:i<s.length) (q:97≤(s.getD i 0).toNat∧(s.getD i 0).toNat≤122)=>(show Ev tab d1270_b0 ⟨[(0,.str s),(3,.int .i64 (i:Int))],[],0,[(0,0,[0,3],[])]⟩ (fun x st=>x=.normal∧st=⟨[(0,.str s),(3,.int .i64 ((i+1:Nat):Int))],[],0,[(0,0,[0,3],[])]⟩) from by
    have e:=txt_at hi
    obtain ⟨q1,q2⟩:=q
    simp (disch:=omega) only [go_sem,d1270_b0,e])
  rcases letters_at s with ⟨h,e⟩ | ⟨m,m1,m2,m3,e⟩
  · rw [e,Bool.and_true]
    refine Ev_loop0 (fun i=>⟨[(0,.str s),(3,.int .i64 (i:Int))],[],0,[(0,0,[0,3],[])]⟩) s.length rfl (fun i hi=>hst i hi (h i hi)) ?_
    by_cases c1:1≤s.length
    · by_cases c2:s.length≤12
      · rw [decide_eq_true ⟨c1,c2⟩]
        simp (disch:=omega) only [go_sem,d1270_b0]
      · rw [decide_eq_false (by omega)]
        simp (disch:=omega) only [go_sem,d1270_b0]
    · rw [decide_eq_false (by omega)]
      simp (disch:=omega) only [go_sem,d1270_b0]
  · rw [e,Bool.and_false]
    refine Ev_loop0 (fun i=>⟨[(0,.str s),(3,.int .i64 (i:Int))],[],0,[(0,0,[0,3],[])]⟩) m rfl (fun i hi=>hst i (by omega) (m2 i hi)) ?_
    have e:=txt_at m1
    by_cases h0:97≤(s.getD m 0).toNat
    · have h3:¬ (s.getD m 0).toNat≤122:=fun h=>m3 ⟨h0,h⟩
      simp (disch:=omega) only [go_sem,d1270_b0,e]
    · simp (disch:=omega) only [go_sem,d1270_b0,e]
def qryS (r:Req):List AV:=[.int .i64 r.qk,.int .i64 r.frm,.int .i64 r.to,.sl 1 (strs r.words),.int .i64 r.radius,.int .i64 r.most]
def okWs (l:List Txt):Prop:=l.length≤1000000∧∀ w∈l,w.length≤1000000
theorem word_ix (l:List Txt):(l.all wordB=true∧∀ i,i<l.length→wordB (l.getD i [])=true)∨∃ m,m<l.length∧(∀ i,i<m→wordB (l.getD i [])=true)∧wordB (l.getD m [])=false∧l.all wordB=false:=by
  rcases first_ix (fun i=>wordB (l.getD i [])=true) l.length with h | ⟨m,h1,h2,h3⟩
  · refine .inl ⟨?_,h⟩
    rw [List.all_eq_true]
    intro x hx
    obtain ⟨i,hi,rfl⟩:=mem_getD (d:=[]) hx
    exact h i hi
  · have h3:wordB (l.getD m [])=false:=by simpa using h3
    refine .inr ⟨m,h1,h2,h3,?_⟩
    rw [List.all_eq_false]
    exact ⟨_,getD_mem (d:=[]) h1,by rw [h3];simp⟩
def wordsB (l:List Txt):Bool:=l.all wordB && decide (1≤l.length∧l.length≤8)
theorem words_run {l:List Txt} (h:okWs l):runP tab 1653 [.sl 1 (strs l)] []=some (.bool (wordsB l),[]):=by
  obtain ⟨hl,ht⟩:=h
  refine runP_fn t1653 rfl ?_
  unfold wordsB
  have stp:∀ i,i<l.length→wordB (l.getD i [])=true→Ev tab d1653_b0 ⟨[(0,.sl 1 (strs l)),(5,.sl 1 (strs l)),(6,.int .i64 l.length),(7,.int .i64 (i:Int))],[],0,[(0,0,[0,5,6,7],[])]⟩ (fun x st=>x=.normal∧st=⟨[(0,.sl 1 (strs l)),(5,.sl 1 (strs l)),(6,.int .i64 l.length),(7,.int .i64 ((i+1:Nat):Int))],[],0,[(0,0,[0,5,6,7],[])]⟩):=by
    intro i hi hw
    have g:=word_run (s:=l.getD i []) (ht _ (getD_mem (d:=[]) hi))
    rw [hw] at g
    simp (disch:=omega) only [go_sem,d1653_b0,strs_rdc,g]
  simp (disch:=omega) only [go_sem,d1653]
  rcases word_ix l with ⟨h1,h2⟩ | ⟨m,h1,h2,h3,h4⟩
  · rw [h1,Bool.true_and]
    refine Ev_loop0 (fun i=>⟨[(0,.sl 1 (strs l)),(5,.sl 1 (strs l)),(6,.int .i64 l.length),(7,.int .i64 (i:Int))],[],0,[(0,0,[0,5,6,7],[])]⟩) l.length rfl (fun i hi=>stp i hi (h2 i hi)) ?_
    by_cases c1:1≤l.length
    · by_cases c2:l.length≤8
      · rw [decide_eq_true ⟨c1,c2⟩];simp (disch:=omega) only [go_sem,d1653_b0]
      · rw [decide_eq_false (by omega)];simp (disch:=omega) only [go_sem,d1653_b0]
    · rw [decide_eq_false (by omega)];simp (disch:=omega) only [go_sem,d1653_b0]
  · rw [h4,Bool.false_and]
    refine Ev_loop0 (fun i=>⟨[(0,.sl 1 (strs l)),(5,.sl 1 (strs l)),(6,.int .i64 l.length),(7,.int .i64 (i:Int))],[],0,[(0,0,[0,5,6,7],[])]⟩) m rfl (fun i hi=>stp i (by omega) (h2 i hi)) ?_
    have g:=word_run (s:=l.getD m []) (ht _ (getD_mem (d:=[]) h1))
    rw [h3] at g
    simp (disch:=omega) only [go_sem,d1653_b0,strs_rdc,g]
theorem place_run (v n:Int):runP tab 1652 [.int .i64 v,.int .i64 n] []=some (.bool (decide (0≤v∧v<n)),[]):=by
  refine runP_fn t1652 rfl ?_
  by_cases h1:0≤v<;>by_cases h2:v<n<;>simp (disch:=omega) only [go_sem,d1652,h1,h2,and_self,and_true,true_and,and_false,false_and,decide_true,decide_false]
theorem rplace_run (v n:Int):runP tab 1654 [.int .i64 v,.int .i64 n] []=some (.bool (decide (0≤v∧v<n)),[]):=by
  refine runP_fn t1654 rfl ?_
  by_cases h1:0≤v<;>by_cases h2:v<n<;>simp (disch:=omega) only [go_sem,d1654,h1,h2,and_self,and_true,true_and,and_false,false_and,decide_true,decide_false]
def Q1 (n:Int) (r:Req):Prop:=(r.qk=1∨r.qk=2)∧(0≤r.frm∧r.frm<n)∧(0≤r.to∧r.to<n)
def Q3 (n:Int) (r:Req):Prop:=r.qk=3∧(0≤r.frm∧r.frm<n)∧wordsB r.words=true∧(0≤r.radius∧r.radius≤200)∧(1≤r.most∧r.most≤100)
instance (n:Int) (r:Req):Decidable (Q1 n r∨Q3 n r):=by unfold Q1 Q3;infer_instance
def chkB (n:Int) (r:Req):Bool:=decide (Q1 n r∨Q3 n r)
def chkI (b:Bool):Int:=if b then 0 else 180
theorem chkP_no {n:Int} {r:Req} (h:Q1 n r∨Q3 n r→False):chkI (chkB n r)=180:=by rw [chkB,decide_eq_false h];rfl
theorem chkP_yes {n:Int} {r:Req} (h:Q1 n r∨Q3 n r):chkI (chkB n r)=0:=by rw [chkB,decide_eq_true h];rfl
theorem pchk_run18 {n:Int} {r:Req} (hw:okWs r.words):runP tab 1646 [.agg (qryS r),.int .i64 n] []=some (.int .i64 (chkI (chkB n r)),[]):=by
  refine runP_fn t1646 rfl ?_
  have g1:=place_run r.frm n
  have g2:=place_run r.to n
  have g3:=words_run hw
  have hl:=hw.1
  by_cases c0:0≤r.frm∧r.frm<n
  case neg=>
    rw [decide_eq_false c0] at g1
    rw [chkP_no (fun h=>h.elim (fun h=>c0 h.2.1) (fun h=>c0 h.2.1))]
    by_cases k1:r.qk=1
    · simp (disch:=omega) only [go_sem,d1646,qryS,g1]
    by_cases k2:r.qk=2
    · simp (disch:=omega) only [go_sem,d1646,qryS,g1]
    by_cases k3:r.qk=3
    · simp (disch:=omega) only [go_sem,d1646,qryS,g1]
    · simp (disch:=omega) only [go_sem,d1646,qryS,g1]
  rw [decide_eq_true c0] at g1
  by_cases k3:r.qk=3
  · cases hb:wordsB r.words with
    |false=>
      rw [hb] at g3
      rw [chkP_no (fun h=>h.elim (fun h=>by have:=h.1;omega) (fun h=>by rw [h.2.2.1] at hb;cases hb))]
      simp (disch:=omega) only [go_sem,d1646,qryS,g1,g3]
    |true=>
    rw [hb] at g3
    have q1:¬ Q1 n r:=fun h=>by have:=h.1;omega
    by_cases c1:0≤r.radius
    case neg=>
      rw [chkP_no (fun h=>h.elim q1 (fun h=>c1 h.2.2.2.1.1))]
      simp (disch:=omega) only [go_sem,d1646,qryS,g1,g3]
    by_cases c2:r.radius≤200
    case neg=>
      rw [chkP_no (fun h=>h.elim q1 (fun h=>c2 h.2.2.2.1.2))]
      simp (disch:=omega) only [go_sem,d1646,qryS,g1,g3]
    by_cases c3:1≤r.most
    case neg=>
      rw [chkP_no (fun h=>h.elim q1 (fun h=>c3 h.2.2.2.2.1))]
      simp (disch:=omega) only [go_sem,d1646,qryS,g1,g3]
    by_cases c4:r.most≤100
    case neg=>
      rw [chkP_no (fun h=>h.elim q1 (fun h=>c4 h.2.2.2.2.2))]
      simp (disch:=omega) only [go_sem,d1646,qryS,g1,g3]
    rw [chkP_yes (.inr ⟨k3,c0,hb,⟨c1,c2⟩,c3,c4⟩)]
    simp (disch:=omega) only [go_sem,d1646,qryS,g1,g3]
  by_cases k12:r.qk=1∨r.qk=2
  case neg=>
    rw [chkP_no (fun h=>h.elim (fun h=>k12 h.1) (fun h=>k3 h.1))]
    simp (disch:=omega) only [go_sem,d1646,qryS,g1]
  by_cases c1:0≤r.to∧r.to<n
  · rw [decide_eq_true c1] at g2
    rw [chkP_yes (.inl ⟨k12,c0,c1⟩)]
    rcases k12 with k | k
    · simp (disch:=omega) only [go_sem,d1646,qryS,g1,g2]
    · simp (disch:=omega) only [go_sem,d1646,qryS,g1,g2]
  · rw [decide_eq_false c1] at g2
    rw [chkP_no (fun h=>h.elim (fun h=>c1 h.2.2) (fun h=>k3 h.1))]
    rcases k12 with k | k
    · simp (disch:=omega) only [go_sem,d1646,qryS,g1,g2]
    · simp (disch:=omega) only [go_sem,d1646,qryS,g1,g2]
def rkQ (r:Req) (i:Nat):St:=⟨[(2,.ref 0 0),(5,.int .i64 (i:Int))],[.row false (qryS r)],0,[(0,1,[2,5],[(2,0)])]⟩
theorem rkQ_step {r:Req} (hw:okWs r.words) {i:Nat} (hi:i<r.words.length) (h:wordB (r.words.getD i [])=true):Ev tab d1648_b0 (rkQ r i) (fun x st=>x=.normal∧st=rkQ r (i+1)):=by
  have g:=word2_run (s:=r.words.getD i []) (hw.2 _ (getD_mem (d:=[]) hi))
  rw [h] at g
  have hl:=hw.1
  unfold rkQ qryS
  simp (disch:=omega) only [go_sem,d1648_b0,strs_rdc,g]
theorem rpchk_run18 {n:Int} {r:Req} (hw:okWs r.words):runP tab 1648 [.agg (qryS r),.int .i64 n] []=some (.int .i64 (chkI (chkB n r)),[]):=by
  refine runP_fn t1648 rfl ?_
  have g1:=rplace_run r.frm n
  have g2:=rplace_run r.to n
  have hl:=hw.1
  by_cases k1:1≤r.qk
  case neg=>
    rw [chkP_no (fun h=>h.elim (fun h=>by have:=h.1;omega) (fun h=>by have:=h.1;omega))]
    simp (disch:=omega) only [go_sem,d1648,qryS]
  by_cases k2:r.qk≤3
  case neg=>
    rw [chkP_no (fun h=>h.elim (fun h=>by have:=h.1;omega) (fun h=>by have:=h.1;omega))]
    simp (disch:=omega) only [go_sem,d1648,qryS]
  by_cases c0:0≤r.frm∧r.frm<n
  case neg=>
    rw [decide_eq_false c0] at g1
    rw [chkP_no (fun h=>h.elim (fun h=>c0 h.2.1) (fun h=>c0 h.2.1))]
    simp (disch:=omega) only [go_sem,d1648,qryS,g1]
  rw [decide_eq_true c0] at g1
  by_cases k3:r.qk<3
  · by_cases c1:0≤r.to∧r.to<n
    · rw [decide_eq_true c1] at g2
      rw [chkP_yes (.inl ⟨by omega,c0,c1⟩)]
      simp (disch:=omega) only [go_sem,d1648,qryS,g1,g2]
    · rw [decide_eq_false c1] at g2
      rw [chkP_no (fun h=>h.elim (fun h=>c1 h.2.2) (fun h=>by have:=h.1;omega))]
      simp (disch:=omega) only [go_sem,d1648,qryS,g1,g2]
  have q1:¬ Q1 n r:=fun h=>by have:=h.1;omega
  have wl:wordsB r.words=true→1≤r.words.length∧r.words.length≤8:=fun h=>by simp only [wordsB,Bool.and_eq_true,decide_eq_true_eq] at h;exact h.2
  by_cases c5:1≤r.words.length
  case neg=>
    rw [chkP_no (fun h=>h.elim q1 (fun h=>c5 (wl h.2.2.1).1))]
    simp (disch:=omega) only [go_sem,d1648,qryS,g1]
  by_cases c6:r.words.length≤8
  case neg=>
    rw [chkP_no (fun h=>h.elim q1 (fun h=>c6 (wl h.2.2.1).2))]
    simp (disch:=omega) only [go_sem,d1648,qryS,g1]
  by_cases c1:0≤r.radius
  case neg=>
    rw [chkP_no (fun h=>h.elim q1 (fun h=>c1 h.2.2.2.1.1))]
    simp (disch:=omega) only [go_sem,d1648,qryS,g1]
  by_cases c2:r.radius≤200
  case neg=>
    rw [chkP_no (fun h=>h.elim q1 (fun h=>c2 h.2.2.2.1.2))]
    simp (disch:=omega) only [go_sem,d1648,qryS,g1]
  by_cases c3:1≤r.most
  case neg=>
    rw [chkP_no (fun h=>h.elim q1 (fun h=>c3 h.2.2.2.2.1))]
    simp (disch:=omega) only [go_sem,d1648,qryS,g1]
  by_cases c4:r.most≤100
  case neg=>
    rw [chkP_no (fun h=>h.elim q1 (fun h=>c4 h.2.2.2.2.2))]
    simp (disch:=omega) only [go_sem,d1648,qryS,g1]
  simp (disch:=omega) only [go_sem,d1648,qryS,g1]
  rcases word_ix r.words with ⟨h1,h2⟩ | ⟨m,h1,h2,h3,h4⟩
  · rw [chkP_yes (.inr ⟨by omega,c0,by simp only [wordsB,h1,Bool.true_and,decide_eq_true_eq];omega,⟨c1,c2⟩,c3,c4⟩)]
    refine Ev_loop0 (rkQ r) r.words.length rfl (fun i hi=>rkQ_step hw hi (h2 i hi)) ?_
    unfold rkQ qryS
    simp (disch:=omega) only [go_sem,d1648_b0]
  · rw [chkP_no (fun h=>h.elim q1 (fun h=>by have:=h.2.2.1;simp only [wordsB,h4,Bool.false_and] at this;cases this))]
    refine Ev_loop0 (rkQ r) m rfl (fun i hi=>rkQ_step hw (by omega) (h2 i hi)) ?_
    have g:=word2_run (s:=r.words.getD m []) (hw.2 _ (getD_mem (d:=[]) h1))
    rw [h3] at g
    unfold rkQ qryS
    simp (disch:=omega) only [go_sem,d1648_b0,strs_rdc,g]
def stQ (r:Req) (slot:Int):List Ml:=if r.qk=1 then [⟨slot,0,r.frm,0⟩,⟨slot,1,r.to,0⟩] else if r.qk=2∨r.qk=3 then [⟨slot,0,r.frm,0⟩] else []
theorem start_run {r:Req} {slot:Int}:runP tab 1714 [.agg (qryS r),.int .i64 slot] []=some (.vec 4 (mls (stQ r slot)),[]):=by
  refine runP_fn t1714 rfl ?_
  unfold stQ
  by_cases h1:r.qk=1
  · simp (disch:=omega) only [go_sem,d1714,qryS,h1]
    rfl
  by_cases h2:r.qk=2
  · simp (disch:=omega) only [go_sem,d1714,qryS,h2,true_or]
    rfl
  by_cases h3:r.qk=3
  · simp (disch:=omega) only [go_sem,d1714,qryS,h3,or_true]
    rfl
  · rw [if_neg h1,if_neg (by omega)]
    simp (disch:=omega) only [go_sem,d1714,qryS,h1,h2,h3]
    rfl
theorem rstart_run {r:Req} {slot:Int}:runP tab 1715 [.agg (qryS r),.int .i64 slot] []=some (.vec 4 (mls (stQ r slot)),[]):=by
  refine runP_fn t1715 rfl ?_
  unfold stQ
  by_cases h1:r.qk=1
  · simp (disch:=omega) only [go_sem,d1715,qryS,h1]
    rfl
  by_cases h2:r.qk=2
  · simp (disch:=omega) only [go_sem,d1715,qryS,h2,true_or]
    rfl
  by_cases h3:r.qk=3
  · simp (disch:=omega) only [go_sem,d1715,qryS,h3,or_true]
    rfl
  · rw [if_neg h1,if_neg (by omega)]
    by_cases h4:r.qk<1
    · simp (disch:=omega) only [go_sem,d1715,qryS]
      rfl
    · simp (disch:=omega) only [go_sem,d1715,qryS]
      rfl
theorem stL_len (r:Req) (slot:Int):(stQ r slot).length≤2:=by
  unfold stQ
  split
  · simp
  · split<;>simp
structure K3 where
  s:Int
  d:Int
  v:Int
def k3C (k:K3):List AV:=[.int .i64 k.s,.int .i64 k.d,.int .i64 k.v]
def k3M (m:Ml):K3:=⟨m.s,m.b,m.v⟩
def okK3 (k:K3):Bool:=decide (0≤k.s∧k.s≤1000) && (decide (0≤k.d∧k.d≤1) && decide (0≤k.v∧k.v≤199))
def okM (m:Ml):Bool:=okK3 (k3M m) && decide (0≤m.d∧m.d≤200)
theorem rmay14_run {k:K3}:runP tab 1049 [.agg (k3C k)] []=some (.bool (okK3 k),[]):=by
  refine runP_fn t1049 rfl ?_
  by_cases h1:0≤k.s
  case neg=>simp (disch:=omega) only [go_sem,d1049,k3C,okK3,h1,false_and,decide_false,Bool.false_and]
  by_cases h2:k.s≤1000
  case neg=>simp (disch:=omega) only [go_sem,d1049,k3C,okK3,h2,and_false,decide_false,Bool.false_and]
  by_cases h3:0≤k.v
  case neg=>
    have e:okK3 k=false:=by simp [okK3];omega
    rw [e]
    by_cases h4:k.d=0
    · simp (disch:=omega) only [go_sem,d1049,k3C]
    · by_cases h5:k.d=1
      · simp (disch:=omega) only [go_sem,d1049,k3C]
      · simp (disch:=omega) only [go_sem,d1049,k3C]
  by_cases h4:k.d=0
  · by_cases h6:k.v<200
    · have e:okK3 k=true:=by simp [okK3];omega
      rw [e];simp (disch:=omega) only [go_sem,d1049,k3C]
    · have e:okK3 k=false:=by simp [okK3];omega
      rw [e];simp (disch:=omega) only [go_sem,d1049,k3C]
  · by_cases h5:k.d=1
    · by_cases h6:k.v<200
      · have e:okK3 k=true:=by simp [okK3];omega
        rw [e];simp (disch:=omega) only [go_sem,d1049,k3C]
      · have e:okK3 k=false:=by simp [okK3];omega
        rw [e];simp (disch:=omega) only [go_sem,d1049,k3C]
    · have e:okK3 k=false:=by simp [okK3];omega
      rw [e];simp (disch:=omega) only [go_sem,d1049,k3C]
theorem rmay_run {m:Ml}:runP tab 1622 [.agg (mlC m)] []=some (.bool (okM m),[]):=by
  refine runP_fn t1622 rfl ?_
  have g1:=rmay14_run (k:=k3M m)
  unfold okM
  simp only [k3C,k3M] at g1 ⊢
  cases h1:okK3 ⟨m.s,m.b,m.v⟩<;>rw [h1] at g1
  · simp (disch:=omega) only [go_sem,d1622,mlC,g1,Bool.false_and]
  · by_cases h2:0≤m.d
    · by_cases h3:m.d≤200
      · rw [decide_eq_true (show 0≤m.d∧m.d≤200 from ⟨h2,h3⟩)]
        simp (disch:=omega) only [go_sem,d1622,mlC,g1,Bool.true_and]
      · rw [decide_eq_false (show ¬ (0≤m.d∧m.d≤200) by omega)]
        simp (disch:=omega) only [go_sem,d1622,mlC,g1,Bool.true_and]
    · rw [decide_eq_false (show ¬ (0≤m.d∧m.d≤200) by omega)]
      simp (disch:=omega) only [go_sem,d1622,mlC,g1,Bool.true_and]
def okMs (l:List Ml):Bool:=l.all okM
theorem okMs_cases (l:List Ml):(okMs l=true∧∀ i,i<l.length→okM (l.getD i default)=true)∨(okMs l=false∧∃ n,n<l.length∧(∀ i,i<n→okM (l.getD i default)=true)∧okM (l.getD n default)=false):=by
  rcases first_ix (fun i=>okM (l.getD i default)=true) l.length with h | ⟨n,h1,h2,h3⟩
  · refine .inl ⟨List.all_eq_true.2 fun x hx=>?_,h⟩
    obtain ⟨i,hi,rfl⟩:=List.getElem_of_mem hx
    have:=h i hi
    rwa [List.getD_eq_getElem?_getD,List.getElem?_eq_getElem hi] at this
  · have h3:okM (l.getD n default)=false:=by simpa using h3
    refine .inr ⟨?_,n,h1,h2,h3⟩
    refine Bool.eq_false_iff.2 fun h=>?_
    have:=List.all_eq_true.1 h (l.getD n default) (by rw [List.getD_eq_getElem?_getD,List.getElem?_eq_getElem h1];exact List.getElem_mem h1)
    rw [this] at h3;cases h3
theorem rmails_run {l:List Ml} (hl:l.length≤1000000):runP tab 1616 [.sl 4 (mls l)] []=some (.bool (okMs l),[]):=by
  refine runP_fn t1616 rfl ?_
  have L:=mls_len l
  have Ld:l.length*4 / 4=l.length:=by omega
  simp (disch:=omega) only [go_sem,d1616,L,Ld]
  have st:∀ i,i<l.length→rdc (mls (l.drop i)) (some 4)=some (.agg (mlC (l.getD i default)))∧runP tab 1622 [.agg (mlC (l.getD i default))] []=some (.bool (okM (l.getD i default)),[]):=fun i hi=>⟨mls_at hi,rmay_run⟩
  rcases okMs_cases l with ⟨h,ha⟩ | ⟨h,n,hn,ha,hb⟩
  · rw [h]
    refine Ev_loop0 (fun i=>⟨[(0,.sl 4 (mls l)),(3,.int .i64 (i:Int))],[],0,[(0,0,[0,3],[])]⟩) l.length rfl (fun i hi=>?_) ?_
    · obtain ⟨q,g⟩:=st i hi
      rw [ha i hi] at g
      generalize l.getD i default=m at *
      simp only [mlC] at q g
      simp (disch:=omega) only [go_sem,d1616_b0,q,g,L,Ld]
    · simp (disch:=omega) only [go_sem,d1616_b0,L,Ld]
  · rw [h]
    refine Ev_loop0 (fun i=>⟨[(0,.sl 4 (mls l)),(3,.int .i64 (i:Int))],[],0,[(0,0,[0,3],[])]⟩) n rfl (fun i hi=>?_) ?_
    · obtain ⟨q,g⟩:=st i (by omega)
      rw [ha i hi] at g
      generalize l.getD i default=m at *
      simp only [mlC] at q g
      simp (disch:=omega) only [go_sem,d1616_b0,q,g,L,Ld]
    · obtain ⟨q,g⟩:=st n hn
      rw [hb] at g
      generalize l.getD n default=m at *
      simp only [mlC] at q g
      simp (disch:=omega) only [go_sem,d1616_b0,q,g,L,Ld]
theorem mls_b {l:List Ml} {i:Nat} (h:i<l.length):rdc ((mls (l.drop i)).drop 1) none=some (.int .i64 (l.getD i default).b):=by
  rw [List.drop_eq_getElem_cons h,mls_cons,List.getD_eq_getElem?_getD,List.getElem?_eq_getElem h];rfl
theorem mls_v {l:List Ml} {i:Nat} (h:i<l.length):rdc ((mls (l.drop i)).drop 2) none=some (.int .i64 (l.getD i default).v):=by
  rw [List.drop_eq_getElem_cons h,mls_cons,List.getD_eq_getElem?_getD,List.getElem?_eq_getElem h];rfl
theorem mls_d {l:List Ml} {i:Nat} (h:i<l.length):rdc ((mls (l.drop i)).drop 3) none=some (.int .i64 (l.getD i default).d):=by
  rw [List.drop_eq_getElem_cons h,mls_cons,List.getD_eq_getElem?_getD,List.getElem?_eq_getElem h];rfl
theorem mls_k {l:List Ml} {i:Nat} (h:i<l.length):rdc (mls (l.drop i)) (some 3)=some (.agg [.int .i64 (l.getD i default).s,.int .i64 (l.getD i default).b,.int .i64 (l.getD i default).v]):=by
  rw [List.drop_eq_getElem_cons h,mls_cons,List.getD_eq_getElem?_getD,List.getElem?_eq_getElem h];rfl
theorem any_ix {p:Ml→Bool} (l:List Ml):(l.any p=false∧∀ i,i<l.length→p (l.getD i default)=false)∨(l.any p=true∧∃ m,m<l.length∧(∀ i,i<m→p (l.getD i default)=false)∧p (l.getD m default)=true):=by
  rcases first_ix (fun i=>p (l.getD i default)=false) l.length with h | ⟨m,h1,h2,h3⟩
  · refine .inl ⟨?_,h⟩
    rw [List.any_eq_false]
    intro x hx
    obtain ⟨i,hi,rfl⟩:=mem_getD (d:=default) hx
    rw [h i hi];decide
  · have h3:p (l.getD m default)=true:=by simpa using h3
    refine .inr ⟨?_,m,h1,h2,h3⟩
    rw [List.any_eq_true]
    exact ⟨_,getD_mem (d:=default) h1,h3⟩
def hasB (l:List Ml) (d:Int):Bool:=l.any fun x=>decide (x.b=d)
theorem sent_run {l:List Ml} {d:Int} (hl:l.length≤1000000):runP tab 1726 [.sl 4 (mls l),.int .i64 d] []=some (.bool (hasB l d),[]):=by
  refine runP_fn t1726 rfl ?_
  have L:=mls_len l
  have Ld:l.length*4 / 4=l.length:=by omega
  have hst:∀ i,i<l.length→decide ((l.getD i default).b=d)=false→Ev tab d1726_b0 ⟨[(1,.int .i64 d),(7,.sl 4 (mls l)),(8,.int .i64 (l.length:Int)),(9,.int .i64 (i:Int))],[],0,[(0,0,[1,7,8,9],[])]⟩ (fun x st=>x=.normal∧st=⟨[(1,.int .i64 d),(7,.sl 4 (mls l)),(8,.int .i64 (l.length:Int)),(9,.int .i64 ((i+1:Nat):Int))],[],0,[(0,0,[1,7,8,9],[])]⟩):=by
    intro i hi q
    have q:¬ (l.getD i default).b=d:=of_decide_eq_false q
    have e:=mls_at hi
    simp only [mlC] at e
    simp (disch:=omega) only [go_sem,d1726_b0,L,Ld,e,q]
  simp (disch:=omega) only [go_sem,d1726,L,Ld]
  unfold hasB
  rcases any_ix (p:=fun x=>decide (x.b=d)) l with ⟨h,ha⟩ | ⟨h,m,m1,m2,m3⟩
  · rw [h]
    refine Ev_loop0 (fun i=>⟨[(1,.int .i64 d),(7,.sl 4 (mls l)),(8,.int .i64 (l.length:Int)),(9,.int .i64 (i:Int))],[],0,[(0,0,[1,7,8,9],[])]⟩) l.length rfl (fun i hi=>hst i hi (ha i hi)) ?_
    simp (disch:=omega) only [go_sem,d1726_b0,L,Ld]
  · rw [h]
    refine Ev_loop0 (fun i=>⟨[(1,.int .i64 d),(7,.sl 4 (mls l)),(8,.int .i64 (l.length:Int)),(9,.int .i64 (i:Int))],[],0,[(0,0,[1,7,8,9],[])]⟩) m rfl (fun i hi=>hst i (by omega) (m2 i hi)) ?_
    have q:(l.getD m default).b=d:=of_decide_eq_true m3
    have e:=mls_at m1
    simp only [mlC] at e
    simp (disch:=omega) only [go_sem,d1726_b0,L,Ld,e,q]
theorem has_run18 {l:List Ml} {d:Int} (hl:l.length≤1000000):runP tab 1727 [.sl 4 (mls l),.int .i64 d] []=some (.bool (hasB l d),[]):=by
  refine runP_fn t1727 rfl ?_
  have L:=mls_len l
  have Ld:l.length*4 / 4=l.length:=by omega
  have hst:∀ i,i<l.length→decide ((l.getD i default).b=d)=false→Ev tab d1727_b0 ⟨[(0,.sl 4 (mls l)),(1,.int .i64 d),(5,.int .i64 (i:Int))],[],0,[(0,0,[0,1,5],[])]⟩ (fun x st=>x=.normal∧st=⟨[(0,.sl 4 (mls l)),(1,.int .i64 d),(5,.int .i64 ((i+1:Nat):Int))],[],0,[(0,0,[0,1,5],[])]⟩):=by
    intro i hi q
    have q:¬ (l.getD i default).b=d:=of_decide_eq_false q
    have e:=mls_b hi
    simp (disch:=omega) only [go_sem,d1727_b0,L,Ld,e,q]
  simp (disch:=omega) only [go_sem,d1727,L,Ld]
  unfold hasB
  rcases any_ix (p:=fun x=>decide (x.b=d)) l with ⟨h,ha⟩ | ⟨h,m,m1,m2,m3⟩
  · rw [h]
    refine Ev_loop0 (fun i=>⟨[(0,.sl 4 (mls l)),(1,.int .i64 d),(5,.int .i64 (i:Int))],[],0,[(0,0,[0,1,5],[])]⟩) l.length rfl (fun i hi=>hst i hi (ha i hi)) ?_
    simp (disch:=omega) only [go_sem,d1727_b0,L,Ld]
  · rw [h]
    refine Ev_loop0 (fun i=>⟨[(0,.sl 4 (mls l)),(1,.int .i64 d),(5,.int .i64 (i:Int))],[],0,[(0,0,[0,1,5],[])]⟩) m rfl (fun i hi=>hst i (by omega) (m2 i hi)) ?_
    have q:(l.getD m default).b=d:=of_decide_eq_true m3
    have e:=mls_b m1
    simp (disch:=omega) only [go_sem,d1727_b0,L,Ld,e,q]
def ansA (f:Bool) (d:Int) (h:List Ed):AV:=.agg [.bool f,.int .i64 d,.vec 2 (prs h)]
def atB (l:List Ml) (to:Int):Bool:=l.any fun x=>decide (x.b=0∧x.v=to)
def rcT (to:Int) (xs ms:List Ml):AV:=if atB xs to=true then .tup [ansA true 0 [],.bool true] else .tup [ansA false 0 [],.bool (decide (ms=[]))]
theorem prs_nil18:prs []=[]:=rfl
theorem reached_run {to:Int} {xs ms:List Ml} (hl:xs.length≤1000000) (hm:ms.length≤1000000):runP tab 1721 [.int .i64 to,.sl 4 (mls xs),.sl 4 (mls ms)] []=some (rcT to xs ms,[]):=by
  refine runP_fn t1721 rfl ?_
  have L:=mls_len xs
  have Ld:xs.length*4 / 4=xs.length:=by omega
  have M:=mls_len ms
  have Md:ms.length*4 / 4=ms.length:=by omega
  simp (disch:=omega) only [go_sem,d1721,L,Ld]
  have hst:∀ i,i<xs.length→decide ((xs.getD i default).b=0∧(xs.getD i default).v=to)=false→Ev tab d1721_b0 ⟨[(0,.int .i64 to),(2,.sl 4 (mls ms)),(6,.ref 0 0),(10,.sl 4 (mls xs)),(11,.int .i64 (xs.length:Int)),(12,.int .i64 (i:Int))],[.row false [.bool false,.int .i64 0,.nils]],0,[(0,1,[0,2,6,10,11,12],[(6,0)])]⟩ (fun x st=>x=.normal∧st=⟨[(0,.int .i64 to),(2,.sl 4 (mls ms)),(6,.ref 0 0),(10,.sl 4 (mls xs)),(11,.int .i64 (xs.length:Int)),(12,.int .i64 ((i+1:Nat):Int))],[.row false [.bool false,.int .i64 0,.nils]],0,[(0,1,[0,2,6,10,11,12],[(6,0)])]⟩):=by
    intro i hi q
    have q:¬ ((xs.getD i default).b=0∧(xs.getD i default).v=to):=of_decide_eq_false q
    have e:=mls_at hi
    simp only [mlC] at e
    by_cases c:(xs.getD i default).b=0
    · have c2:¬ (xs.getD i default).v=to:=fun h=>q ⟨c,h⟩
      simp (disch:=omega) only [go_sem,d1721_b0,L,Ld,e,c,c2]
    · simp (disch:=omega) only [go_sem,d1721_b0,L,Ld,e,c]
  unfold rcT atB
  rcases any_ix (p:=fun x=>decide (x.b=0∧x.v=to)) xs with ⟨h,ha⟩ | ⟨h,m,m1,m2,m3⟩
  · rw [h]
    refine Ev_loop0 (fun i=>⟨[(0,.int .i64 to),(2,.sl 4 (mls ms)),(6,.ref 0 0),(10,.sl 4 (mls xs)),(11,.int .i64 (xs.length:Int)),(12,.int .i64 (i:Int))],[.row false [.bool false,.int .i64 0,.nils]],0,[(0,1,[0,2,6,10,11,12],[(6,0)])]⟩) xs.length rfl (fun i hi=>hst i hi (ha i hi)) ?_
    by_cases hm0:ms=[]
    · subst hm0
      simp (disch:=omega) only [go_sem,d1721_b0,L,Ld,mls_nil,ansA,prs_nil18,Bool.false_eq_true]
    · have:0<ms.length:=List.length_pos_iff.2 hm0
      rw [decide_eq_false hm0]
      simp (disch:=omega) only [go_sem,d1721_b0,L,Ld,M,Md,ansA,prs_nil18,Bool.false_eq_true]
  · rw [h]
    refine Ev_loop0 (fun i=>⟨[(0,.int .i64 to),(2,.sl 4 (mls ms)),(6,.ref 0 0),(10,.sl 4 (mls xs)),(11,.int .i64 (xs.length:Int)),(12,.int .i64 (i:Int))],[.row false [.bool false,.int .i64 0,.nils]],0,[(0,1,[0,2,6,10,11,12],[(6,0)])]⟩) m rfl (fun i hi=>hst i (by omega) (m2 i hi)) ?_
    have q:(xs.getD m default).b=0∧(xs.getD m default).v=to:=of_decide_eq_true m3
    obtain ⟨q1,q2⟩:=q
    have e:=mls_at m1
    simp only [mlC] at e
    simp (disch:=omega) only [go_sem,d1721_b0,L,Ld,e,q1,q2,ansA,prs_nil18]
def clB (l:List Ml):Bool:=l.all fun x=>decide (-1000000≤x.d∧x.d≤1000000)
theorem clB_mem {l:List Ml} (h:clB l=true):∀ x∈l,-1000000≤x.d∧x.d≤1000000:=fun x hx=>by
  have:=List.all_eq_true.1 h x hx
  simpa using this
def aC:Option Int→List AV
  |none=>[.bool false,.int .i64 0,.nils]
  |some d=>[.bool true,.int .i64 d,.nils]
theorem smR_succ {l:List Ml} {x:Ml} {k:Nat} (h:k<l.length):smR (l.take (k+1)) x=smR (l.take k) x++(if x.b=0∧(l.getD k default).b=1∧x.v=(l.getD k default).v then [x.d+(l.getD k default).d] else []):=by
  unfold smR
  rw [take_snoc default h,List.filter_append,List.map_append]
  by_cases c:x.b=0∧(l.getD k default).b=1∧x.v=(l.getD k default).v
  · rw [if_pos c,List.filter_cons_of_pos (by simpa using c)];rfl
  · rw [if_neg c,List.filter_cons_of_neg (by simpa using c)];rfl
theorem mnL_some {L:List Int} {m:Int} (h:mnL L=some m):m∈L:=by
  have:=mnL_is L
  rw [h] at this
  exact this.1
def dsT18 (xs ms:List Ml):AV:=match mnL (smL xs) with
  |some d=>.tup [ansA true d [],.bool true]
  |none=>.tup [ansA false 0 [],.bool (!hasB ms 0 || !hasB ms 1)]
def dS (xs ms:List Ml) (L:List Int) (i:Nat):St:=⟨[(0,.sl 4 (mls xs)),(1,.sl 4 (mls ms)),(4,.ref 0 0),(6,.ref 1 0),(7,.int .i64 (i:Int))],[.row false [.bool false,.int .i64 0,.nils],.row false (aC (mnL L))],0,[(0,2,[0,1,4,6,7],[(4,0),(6,1)])]⟩
theorem ddist_run {xs ms:List Ml} (hl:xs.length≤100000) (hm:ms.length≤100000) (hc:clB xs=true):runP tab 1723 [.sl 4 (mls xs),.sl 4 (mls ms)] []=some (dsT18 xs ms,[]):=by
  refine runP_fn t1723 rfl ?_
  have L:=mls_len xs
  have Ld:xs.length*4 / 4=xs.length:=by omega
  have cl:=clB_mem hc
  have hbd:∀ K M:List Ml,(∀ x∈K,x∈xs)→(∀ x∈M,x∈xs)→∀ z,z∈xs→∀ s∈K.flatMap (smR xs)++smR M z,-2000000≤s∧s≤2000000:=by
    intro K M hK hM z hz s hs
    rw [List.mem_append] at hs
    rcases hs with hs | hs
    · simp only [smR,List.mem_flatMap,List.mem_map,List.mem_filter] at hs
      obtain ⟨x,hx,y,⟨hy,_⟩,rfl⟩:=hs
      have:=cl x (hK x hx);have:=cl y hy;omega
    · simp only [smR,List.mem_map,List.mem_filter] at hs
      obtain ⟨y,⟨hy,_⟩,rfl⟩:=hs
      have:=cl z hz;have:=cl y (hM y hy);omega
  simp (disch:=omega) only [go_sem,d1723]
  refine Ev_loop0 (fun i=>dS xs ms ((xs.take i).flatMap (smR xs)) i) xs.length rfl (fun i hi=>?_) ?_
  · have hx:=getD_mem (d:=default) hi
    have e1:=mls_at hi
    have et:(xs.take (i+1)).flatMap (smR xs)=(xs.take i).flatMap (smR xs)++smR (xs.take xs.length) (xs.getD i default):=by
      rw [take_snoc default hi,List.flatMap_append,List.take_length];simp
    rw [et]
    have hb:=fun k=>hbd (xs.take i) (xs.take k) (fun x hx=>List.mem_of_mem_take hx) (fun x hx=>List.mem_of_mem_take hx) _ hx
    have cx:=cl _ hx
    generalize (xs.take i).flatMap (smR xs)=P at *
    generalize xs.getD i default=x at *
    simp only [mlC] at e1
    unfold dS
    simp (disch:=omega) only [go_sem,d1723_b0,L,Ld]
    refine Ev_loop0 (fun k=>⟨[(0,.sl 4 (mls xs)),(1,.sl 4 (mls ms)),(4,.ref 0 0),(6,.ref 1 0),(7,.int .i64 (i:Int)),(8,.int .i64 (k:Int))],[.row false [.bool false,.int .i64 0,.nils],.row false (aC (mnL (P++smR (xs.take k) x)))],0,[(1,2,[0,1,4,6,7,8],[(4,0),(6,1)]),(0,2,[0,1,4,6,7],[(4,0),(6,1)])]⟩) xs.length (by simp [smR]) (fun k hk=>?_) ?_
    · have e2:=mls_at hk
      have cy:=cl _ (getD_mem (d:=default) hk)
      have hbk:=hb k
      rw [smR_succ hk]
      generalize xs.getD k default=y at *
      simp only [mlC] at e2
      generalize smR (xs.take k) x=S at *
      have hmb:∀ m,mnL (P++S)=some m→-2000000≤m∧m≤2000000:=fun m h=>hbk m (mnL_some h)
      by_cases c:x.b=0∧y.b=1∧x.v=y.v
      · rw [if_pos c,←List.append_assoc,mnL_snoc]
        obtain ⟨c1,c2,c3⟩:=c
        cases hmn:mnL (P++S) with
        |none=>
          simp only [mn,aC]
          simp (disch:=omega) only [go_sem,d1723_b1,L,Ld,e1,e2,c1,c2,c3]
        |some m=>
          have:=hmb m hmn
          by_cases c4:x.d+y.d<m
          · simp only [mn,aC,if_pos c4]
            simp (disch:=omega) only [go_sem,d1723_b1,L,Ld,e1,e2,c1,c2,c3]
          · simp only [mn,aC,if_neg c4]
            simp (disch:=omega) only [go_sem,d1723_b1,L,Ld,e1,e2,c1,c2,c3]
      · rw [if_neg c,List.append_nil]
        cases hmn:mnL (P++S)<;>simp only [aC] <;>
        (by_cases c1:x.b=0
         · by_cases c2:y.b=1
           · have c3:¬ x.v=y.v:=fun h=>c ⟨c1,c2,h⟩
             simp (disch:=omega) only [go_sem,d1723_b1,L,Ld,e1,e2,c1,c2,c3]
           · simp (disch:=omega) only [go_sem,d1723_b1,L,Ld,e1,e2,c1,c2]
         · simp (disch:=omega) only [go_sem,d1723_b1,L,Ld,e1,e2,c1])
    · generalize mnL (P++smR (xs.take xs.length) x)=m at *
      cases m<;>simp only [aC]<;>simp (disch:=omega) only [go_sem,d1723_b1,L,Ld]
  · have g0:=has_run18 (l:=ms) (d:=0) (by omega)
    have g1:=has_run18 (l:=ms) (d:=1) (by omega)
    have es:(xs.take xs.length).flatMap (smR xs)=smL xs:=by rw [List.take_length];rfl
    rw [es]
    unfold dsT18 dS
    cases mnL (smL xs) with
    |some d=>
      simp only [aC]
      simp (disch:=omega) only [go_sem,d1723_b0,L,Ld,ansA,prs_nil18]
    |none=>
      simp only [aC]
      cases h0:hasB ms 0<;>rw [h0] at g0
      · simp (disch:=omega) only [go_sem,d1723_b0,L,Ld,ansA,prs_nil18,g0,Bool.not_false,Bool.true_or]
      · cases h1:hasB ms 1<;>rw [h1] at g1<;>simp (disch:=omega) only [go_sem,d1723_b0,L,Ld,ansA,prs_nil18,g0,g1,Bool.not_true,Bool.not_false,Bool.false_or]
end Go.Proofs.Ytfbfbennheeglaa
