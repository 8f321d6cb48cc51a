import Derived.Test.YtgdfncnpcdafmaaKz
namespace Go.Proofs.Ytgdfncnpcdafmaa
set_option linter.unusedSimpArgs false
set_option linter.unusedVariables false
set_option maxRecDepth 100000
def encN (n:Nat):List UInt8:=if h:n<128 then [UInt8.ofNat n] else UInt8.ofNat (n % 128+128)::encN (n / 128)
termination_by n
decreasing_by omega
theorem encN_small {n:Nat} (h:n<128):encN n=[UInt8.ofNat n]:=by rw [encN,dif_pos h]
theorem encN_big {n:Nat} (h:128≤n):encN n=UInt8.ofNat (n % 128+128)::encN (n / 128):=by rw [encN,dif_neg (by omega)]
theorem u8_toNat {n:Nat} (h:n<256):(UInt8.ofNat n).toNat=n:=by
 rw [UInt8.toNat_ofNat'];exact Nat.mod_eq_of_lt h
theorem u8_ext {a b:UInt8} (h:a.toNat=b.toNat):a=b:=UInt8.toNat_inj.1 h
def pN:Nat→List UInt8→Option (Nat × Nat)
 | 0,_=>none
 | _+1,[]=>none
 | k+1,b::bs=>if b.toNat<128 then some (b.toNat,1) else match pN k bs with
  | some (n,c)=>if n=0 then none else some (b.toNat - 128+128*n,c+1)
  | none=>none
theorem pow128 (k:Nat):128 ^ (k+1)=128*128 ^ k:=by rw [Nat.pow_succ,Nat.mul_comm]
theorem pN_enc:∀ (k n:Nat) (r:List UInt8),n<128 ^ (k+1)→pN (k+1) (encN n++r)=some (n,(encN n).length)
 | k,n,r,h=>by
  by_cases hs:n<128
  ·rw [encN_small hs]
   simp only [List.cons_append,List.nil_append,pN]
   rw [u8_toNat (by omega),if_pos hs];rfl
  ·cases k with
   | zero=>simp at h;omega
   | succ k=>
    rw [encN_big (by omega)]
    simp only [List.cons_append,pN]
    rw [u8_toNat (by omega),if_neg (by omega),pN_enc k (n / 128) r (by rw [pow128] at h;omega)]
    simp only [List.length_cons]
    rw [if_neg (by omega)]
    congr 2;omega
theorem pN_sound:∀ {k:Nat} {bs:List UInt8} {n c:Nat},pN k bs=some (n,c)→bs.take c=encN n∧0<c∧c≤k∧c≤bs.length∧n<128 ^ k∧(encN n).length=c
 | 0,_,_,_,h=>by cases h
 | _+1,[],_,_,h=>by cases h
 | k+1,b::bs,n,c,h=>by
  simp only [pN] at h
  split at h
  ·rename_i hb
   injection h with h
   simp only [Prod.mk.injEq] at h
   obtain ⟨rfl,rfl⟩:=h
   have:128 ^ (k+1)=128*128 ^ k:=pow128 k
   have:=Nat.pow_pos (n:=k) (show 0<128 by omega)
   refine ⟨?_,by omega,by omega,by simp,by omega,?_⟩
   ·rw [encN_small hb];simp
   ·rw [encN_small hb];rfl
  ·rename_i hb
   split at h
   ·rename_i n' c' hp
    split at h
    ·cases h
    ·rename_i hn
     injection h with h
     simp only [Prod.mk.injEq] at h
     obtain ⟨rfl,rfl⟩:=h
     obtain ⟨h1,h2,h3,h4,h5,h6⟩:=pN_sound hp
     have hlt:=b.toNat_lt
     have e1:(b.toNat - 128+128*n') % 128=b.toNat - 128:=by omega
     have e2:(b.toNat - 128+128*n') / 128=n':=by omega
     have e:encN (b.toNat - 128+128*n')=b::encN n':=by
      rw [encN_big (by omega),e1,e2]
      congr 1
      apply u8_ext
      rw [u8_toNat (by omega)];omega
     refine ⟨by rw [e,List.take_succ_cons,h1],by omega,by omega,by simp;omega,by rw [pow128];omega,by rw [e];simp [h6]⟩
   ·cases h
def vN:List UInt8→Nat→Nat
 | _,0=>0
 | [],_+1=>0
 | b::bs,i+1=>b.toNat % 128+128*vN bs i
theorem vN_succ:∀ {bs:List UInt8} {i:Nat},i<bs.length→vN bs (i+1)=vN bs i+(bs.getD i 0).toNat % 128*128 ^ i
 | [],_,h=>by simp at h
 | b::bs,0,_=>by simp [vN]
 | b::bs,i+1,h=>by
  rw [vN,vN_succ (by simpa using h),vN,pow128]
  simp only [List.getD_cons_succ]
  rw [Nat.mul_add,←Nat.add_assoc,←Nat.mul_assoc,←Nat.mul_assoc,Nat.mul_comm 128 (_ % 128)]
theorem vN_lt:∀ (bs:List UInt8) (i:Nat),vN bs i<128 ^ i
 | _,0=>by simp [vN]
 | [],i+1=>by simp [vN];exact Nat.pow_pos (by omega)
 | b::bs,i+1=>by
  have:=vN_lt bs i
  rw [vN,pow128];omega
theorem vN_pos:∀ {bs:List UInt8} {i:Nat},i<bs.length→0<(bs.getD i 0).toNat→(bs.getD i 0).toNat<128→0<vN bs (i+1):=by
 intro bs i h h1 h2
 rw [vN_succ h,Nat.mod_eq_of_lt h2]
 have:=Nat.pow_pos (n:=i) (show 0<128 by omega)
 have:0<(bs.getD i 0).toNat*128 ^ i:=Nat.mul_pos h1 this
 omega
theorem pN_at:∀ {k:Nat} {bs:List UInt8} {n:Nat},n<k→n<bs.length→(bs.getD n 0).toNat<128→(∀ j,j<n→128≤(bs.getD j 0).toNat)→pN k bs=if 0<(bs.getD n 0).toNat∨n=0 then some (vN bs (n+1),n+1) else none
 | 0,_,_,h,_,_,_=>absurd h (Nat.not_lt_zero _)
 | _+1,[],_,_,h,_,_=>by simp at h
 | k+1,b::bs,0,_,_,h,_=>by
  simp only [List.getD_cons_zero] at h
  simp [pN,h,vN,Nat.mod_eq_of_lt h]
 | k+1,b::bs,n+1,hk,hl,h,hj=>by
  have h0:=hj 0 (by omega)
  simp only [List.getD_cons_zero] at h0
  simp only [List.getD_cons_succ] at h ⊢
  have ih:=pN_at (k:=k) (bs:=bs) (n:=n) (by omega) (by simpa using hl) h (fun j hjn=>by have:=hj (j+1) (by omega);simpa using this)
  simp only [pN]
  rw [if_neg (by omega),ih]
  have hlt:=b.toNat_lt
  by_cases hp:0<(bs.getD n 0).toNat
  ·have hv:=vN_pos (bs:=bs) (i:=n) (by simpa using hl) hp h
   rw [if_pos (.inl hp),if_pos (.inl hp)]
   simp only
   rw [if_neg (by omega),vN]
   congr 2;omega
  ·rw [if_neg (show ¬ (0<(bs.getD n 0).toNat∨n+1=0) by omega)]
   by_cases hn:n=0
   ·subst hn
    rw [if_pos (.inr rfl)]
    have:vN bs (0+1)=0:=by
     rw [vN_succ (by simpa using hl)]
     have:(bs.getD 0 0).toNat=0:=by omega
     rw [this];simp [vN]
    simp [this]
   ·rw [if_neg (show ¬ (0<(bs.getD n 0).toNat∨n=0) by omega)]
theorem pN_no:∀ {k:Nat} {bs:List UInt8},(∀ j,j<k→j<bs.length→128≤(bs.getD j 0).toNat)→pN k bs=none
 | 0,_,_=>rfl
 | _+1,[],_=>rfl
 | k+1,b::bs,h=>by
  have h0:=h 0 (by omega) (by simp)
  simp only [List.getD_cons_zero] at h0
  have ih:=pN_no (k:=k) (bs:=bs) (fun j h1 h2=>by have:=h (j+1) (by omega) (by simpa using h2);simpa using this)
  simp only [pN]
  rw [if_neg (by omega),ih]
theorem end_or (k:Nat) (bs:List UInt8):(∃ n,n<k∧n<bs.length∧(bs.getD n 0).toNat<128∧∀ j,j<n→128≤(bs.getD j 0).toNat)∨(∀ j,j<k→j<bs.length→128≤(bs.getD j 0).toNat):=by
 induction k with
 | zero=>exact .inr fun j h=>absurd h (Nat.not_lt_zero _)
 | succ k ih=>
  rcases ih with ⟨n,h1,h2,h3,h4⟩ | h
  ·exact .inl ⟨n,by omega,h2,h3,h4⟩
  ·by_cases hk:k<bs.length
   ·by_cases hb:(bs.getD k 0).toNat<128
    ·exact .inl ⟨k,by omega,hk,hb,fun j hj=>h j hj (by omega)⟩
    ·refine .inr fun j h1 h2=>?_
     by_cases hjk:j=k
     ·subst hjk;omega
     ·exact h j (by omega) h2
   ·exact .inr fun j h1 h2=>h j (by omega) h2
theorem enc_iff {bs:List UInt8} {n:Nat} (hn:n<5) (hl:n<bs.length) (h:(bs.getD n 0).toNat<128) (hj:∀ j,j<n→128≤(bs.getD j 0).toNat):encN (vN bs (n+1))=bs.take (n+1)↔(0<(bs.getD n 0).toNat∨n=0):=by
 have hp:=pN_at (k:=5) hn hl h hj
 constructor
 ·intro he
  have hv:=vN_lt bs (n+1)
  have h5:128 ^ (n+1)≤128 ^ (4+1):=Nat.pow_le_pow_right (by omega) (by omega)
  have:=pN_enc 4 (vN bs (n+1)) (bs.drop (n+1)) (by omega)
  rw [he,List.take_append_drop,hp] at this
  by_cases hc:0<(bs.getD n 0).toNat∨n=0
  ·exact hc
  ·rw [if_neg hc] at this;cases this
 ·intro hc
  rw [if_pos hc] at hp
  exact (pN_sound hp).1.symm
theorem encN_len {n:Nat} (h:n≤2147483647):(encN n).length≤5:=by
 have:=pN_enc 4 n [] (by omega)
 exact (pN_sound this).2.2.1 |> fun h2=>by simpa using h2
theorem encN_pos (n:Nat):0<(encN n).length:=by
 by_cases h:n<128
 ·rw [encN_small h];simp
 ·rw [encN_big (by omega)];simp
def rdN (s:List UInt8) (i:Nat):Option (Nat × Nat):=if i≤s.length then match pN 5 (s.drop i) with
 | some (n,c)=>if n≤2147483647 then some (n,i+c) else none
 | none=>none else none
theorem rdN_enc {a r:List UInt8} {n:Nat} (h:n≤2147483647):rdN (a++(encN n++r)) a.length=some (n,a.length+(encN n).length):=by
 unfold rdN
 rw [if_pos (by simp),List.drop_left,pN_enc 4 n r (by omega)]
 simp only
 rw [if_pos h]
theorem rdN_sound {s:List UInt8} {i n j:Nat} (h:rdN s i=some (n,j)):i<j∧j≤s.length∧n≤2147483647∧s.take j=s.take i++encN n:=by
 unfold rdN at h
 split at h
 ·rename_i hi
  split at h
  ·rename_i n' c hp
   split at h
   ·rename_i hn
    injection h with h
    simp only [Prod.mk.injEq] at h
    obtain ⟨rfl,rfl⟩:=h
    obtain ⟨h1,h2,h3,h4,_⟩:=pN_sound hp
    rw [List.length_drop] at h4
    exact ⟨by omega,by omega,hn,by rw [←h1,List.take_add]⟩
   ·cases h
  ·cases h
 ·cases h
def u8c (l:List UInt8):List AV:=l.map fun b=>.int .u8 (b.toNat:Int)
theorem u8c_flat (l:List UInt8):(u8c l).all flat=true:=by simp [u8c,flat]
theorem u8c_len (l:List UInt8):(u8c l).length=l.length:=by simp [u8c]
theorem u8c_okc (l:List UInt8):(u8c l).all AV.okc=true:=flat_okc (u8c_flat l)
theorem u8c_noid (l:List UInt8):noidL (u8c l)=true:=flat_noidL (u8c_flat l)
theorem u8c_noid' (l:List UInt8):allL pnoid (u8c l)=true:=flat_noidL (u8c_flat l)
theorem u8c_noinl (l:List UInt8):noinlL (u8c l)=true:=flat_noinlL (u8c_flat l)
theorem u8c_noinl' (l:List UInt8):allL pnoinl (u8c l)=true:=flat_noinlL (u8c_flat l)
theorem u8c_noimm (l:List UInt8):allL pnoimm (u8c l)=true:=flat_noimmL (u8c_flat l)
theorem u8c_ids (l:List UInt8):idsL (u8c l)=[]:=flat_idsL (u8c_flat l)
theorem u8c_idlt (n:Nat) (l:List UInt8):idltL n (u8c l)=true:=flat_idltL (u8c_flat l)
theorem u8c_idlt' (n:Nat) (l:List UInt8):allL (pidlt n) (u8c l)=true:=flat_idltL (u8c_flat l)
theorem u8c_ren (f:Nat→Nat) (l:List UInt8):renL f (u8c l)=u8c l:=flat_renL (u8c_flat l)
theorem u8c_ren' (f:Nat→Nat) (l:List UInt8):mapL (ren1 f) (u8c l)=u8c l:=flat_renL (u8c_flat l)
theorem u8c_frz (l:List UInt8):frzL (u8c l)=u8c l:=flat_frzL (u8c_flat l)
theorem u8c_frz' (l:List UInt8):mapL frz1 (u8c l)=u8c l:=flat_frzL (u8c_flat l)
theorem u8c_fz (hp:List Blk) (l:List UInt8):fzL hp (u8c l)=some (u8c l):=flat_fzL (u8c_flat l)
theorem u8c_pk (n:Nat) (hp:List Blk) (l:List UInt8):pkL n hp (u8c l)=some (u8c l,hp):=flat_pkL (u8c_flat l)
theorem u8c_pks (hp:List Blk) (l:List UInt8):pksL hp (u8c l)=some (u8c l,hp):=flat_pksL (u8c_flat l)
theorem u8c_thaw (hp:List Blk) (l:List UInt8):thawL hp (u8c l)=(u8c l,hp):=flat_thawL (u8c_flat l)
theorem u8c_app (a b:List UInt8):u8c a++u8c b=u8c (a++b):=by simp [u8c]
theorem u8c_snoc (a:List UInt8) (b:UInt8):u8c a++[.int .u8 (b.toNat:Int)]=u8c (a++[b]):=by simp [u8c]
theorem byteL_u8c:∀ l:List UInt8,byteL (u8c l)=some l
 | []=>rfl
 | b::l=>by
  show byteL (.int .u8 (b.toNat:Int)::u8c l)=_
  simp only [byteL,byteL_u8c l,Option.map_some]
  simp
theorem dd00:(if ([0]:List Nat).contains 0=true then [0] else [0,0]).reverse=[0]:=rfl
attribute [go_sem] dd00 u8c_len u8c_okc u8c_noid u8c_noid' u8c_noinl u8c_noinl' u8c_noimm u8c_ids u8c_idlt u8c_idlt' u8c_ren u8c_ren' u8c_frz u8c_frz' u8c_fz u8c_pk u8c_pks u8c_thaw u8c_app u8c_snoc byteL_u8c
set_option maxHeartbeats 4000000
inductive Rd (α:Type) where
 | ret (a:α)
 | num (most:Nat) (k:Nat→Rd α)
 | txt (k:List UInt8→Rd α)
def rdL (most:Nat) (s:List UInt8) (j:Nat):Option (Nat × Nat):=match rdN s j with
 | some (n,e)=>if n≤most then some (n,e) else none
 | none=>none
def rdT (s:List UInt8) (j:Nat):Option (List UInt8 × Nat):=match rdN s j with
 | some (n,e)=>if n≤4000∧n≤s.length - e then some ((s.drop e).take n,e+n) else none
 | none=>none
def encT (t:List UInt8):List UInt8:=encN t.length++t
def Rd.run {α:Type}:Rd α→List UInt8→Nat→Option (α × Nat)
 | .ret a,_,j=>some (a,j)
 | .num m k,s,j=>match rdL m s j with
  | some (n,e)=>(k n).run s e
  | none=>none
 | .txt k,s,j=>match rdT s j with
  | some (t,e)=>(k t).run s e
  | none=>none
inductive Gen {α:Type}:Rd α→α→List UInt8→Prop
 | ret (a:α):Gen (.ret a) a []
 | num {m:Nat} {k:Nat→Rd α} {n:Nat} {a:α} {b:List UInt8}:n≤m→n≤2147483647→Gen (k n) a b→Gen (.num m k) a (encN n++b)
 | txt {k:List UInt8→Rd α} {t:List UInt8} {a:α} {b:List UInt8}:t.length≤4000→Gen (k t) a b→Gen (.txt k) a (encT t++b)
theorem rdL_sound {m:Nat} {s:List UInt8} {j n e:Nat} (h:rdL m s j=some (n,e)):rdN s j=some (n,e)∧n≤m:=by
 unfold rdL at h
 split at h
 ·split at h
  ·injection h with h
   injection h with h1 h2
   subst h1;subst h2
   exact ⟨by assumption,by assumption⟩
  ·cases h
 ·cases h
theorem rdL_none {m:Nat} {s:List UInt8} {j:Nat} (h:rdL m s j=none):∀ n e,rdN s j=some (n,e)→m<n:=by
 intro n e hn
 unfold rdL at h
 rw [hn] at h
 simp only at h
 split at h
 ·cases h
 ·omega
theorem rdT_sound {s:List UInt8} {j:Nat} {t:List UInt8} {e:Nat} (h:rdT s j=some (t,e)):t.length≤4000∧j<e∧e≤s.length∧s.take e=s.take j++encT t:=by
 unfold rdT at h
 split at h
 ·rename_i n e' hn
  split at h
  ·rename_i hc
   injection h with h
   injection h with h1 h2
   subst h1;subst h2
   obtain ⟨g1,g2,g3,g4⟩:=rdN_sound hn
   have hl:((s.drop e').take n).length=n:=by rw [List.length_take,List.length_drop];omega
   refine ⟨by omega,by omega,by omega,?_⟩
   rw [List.take_add,g4,encT,hl,List.append_assoc]
  ·cases h
 ·cases h
theorem rdT_enc {a r t:List UInt8} (h:t.length≤4000):rdT (a++(encT t++r)) a.length=some (t,a.length+(encT t).length):=by
 unfold rdT encT
 rw [List.append_assoc,rdN_enc (by omega)]
 simp only
 have e1:(a++(encN t.length++(t++r))).drop (a.length+(encN t.length).length)=t++r:=by
  rw [←List.append_assoc,List.drop_append_of_le_length (by simp),List.drop_of_length_le (by simp)];rfl
 rw [if_pos ⟨h,by simp;omega⟩,e1,List.take_left,List.length_append,Nat.add_assoc]
theorem gen_run {α:Type} {t:Rd α} {x:α} {b:List UInt8} (h:Gen t x b):∀ p r:List UInt8,t.run (p++(b++r)) p.length=some (x,p.length+b.length):=by
 induction h with
 | ret a=>intro p r;rfl
 | @num m k n a b h1 h2 _ ih=>
  intro p r
  simp only [Rd.run]
  have e:rdL m (p++(encN n++b++r)) p.length=some (n,p.length+(encN n).length):=by
   unfold rdL
   rw [List.append_assoc,rdN_enc h2]
   simp only
   rw [if_pos h1]
  rw [e]
  simp only
  have:=ih (p++encN n) r
  rw [List.length_append] at this
  rw [show p++(encN n++b++r)=p++encN n++(b++r) by simp,this,List.length_append,Nat.add_assoc]
 | @txt k t a b h1 _ ih=>
  intro p r
  simp only [Rd.run]
  rw [List.append_assoc,rdT_enc h1]
  simp only
  have:=ih (p++encT t) r
  rw [List.length_append] at this
  rw [show p++(encT t++(b++r))=p++encT t++(b++r) by simp,this,List.length_append,Nat.add_assoc]
structure Form {α:Type} (t:Rd α) (ok:α→Bool) (enc:α→List UInt8):Prop where
 say:∀ x b,Gen t x b→b=enc x
 all:∀ x,ok x=true→Gen t x (enc x)
section
variable {α:Type} {t:Rd α} {ok:α→Bool} {enc:α→List UInt8}
theorem Form.run_enc (F:Form t ok enc) {x:α} (h:ok x=true) (r:List UInt8):t.run (enc x++r) 0=some (x,(enc x).length):=by
 have:=gen_run (F.all x h) [] r
 simpa using this
theorem Form.pre (F:Form t ok enc) {x y:α} (hx:ok x=true) (hy:ok y=true) {r:List UInt8} (h:enc y=enc x++r):y=x:=by
 have h1:=F.run_enc hx r
 have h2:=F.run_enc hy []
 rw [List.append_nil,h,h1] at h2
 injection h2 with h2
 injection h2 with h2 _
 exact h2.symm
end
end Go.Proofs.Ytgdfncnpcdafmaa
