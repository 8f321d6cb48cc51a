import Derived.Test.YtgdfncnpcdafmaaXb
import Derived.Test.YtgdfncnpcdafmaaT03
import Derived.Test.YtgdfncnpcdafmaaKh
namespace Go.Proofs.Ytgdfncnpcdafmaa
set_option linter.unusedSimpArgs false
set_option linter.unusedVariables false
set_option maxHeartbeats 4000000
set_option maxRecDepth 100000
theorem wmay_run (n:Int):runP tab 1441 [.int .i64 n] []=some (.bool (decide (0≤n∧n≤2147483647)),[]):=by
 refine runP_fn t1441 rfl ?_
 by_cases h1:0≤n<;>by_cases h2:n≤2147483647<;>simp (disch:=omega) only [go_sem,d1441,h1,h2,and_self,and_true,true_and,and_false,false_and,decide_true,decide_false]
theorem digits_run (n:Int):runP tab 1458 [.int .i64 n] []=some (.clo 1466 [] [.box [.int .i64 n]],[]):=by
 refine runP_fn t1458 rfl ?_
 simp (disch:=omega) only [go_sem,d1458]
theorem lay_run {n:Nat} (hn:n≤2147483647):runP tab 1442 [.nils,.int .i64 n] []=some (.vec 1 (u8c (encN n)),[]):=by
 refine runP_fn t1442 rfl ?_
 have gd:=digits_run n
 simp (disch:=omega) only [go_sem,d1442,gd]
 refine Ev_rangef rfl ?_
 refine EvC_fn t1466 rfl ?_
 simp (disch:=omega) only [go_sem,d1466]
 refine Ev_inv (fun k st=>∃ (pre:List UInt8) (left:Nat),k=left∧pre++encN left=encN n∧left≤n∧st=⟨[(0,.yld 2),(3,.int .i64 left)],[.row false [.vec 1 (u8c pre)],.row false [.int .i64 n],.lp 0 [(2,.ref 0 0),(4,.nils),(7,.clo 1466 [] [.ref 1 0])] [8] d1442_r0a d1442_r0 .normal],3,[(0,3,[0,3],[(0,2)])]⟩) ?_ (i:=n) ⟨[],n,rfl,rfl,Nat.le_refl _,rfl⟩
 rintro k st ⟨pre,left,rfl,he,hl,rfl⟩
 have L:=u8c_len pre
 have h5:=encN_len hn
 have hl5:pre.length≤5:=by rw [←he,List.length_append] at h5;omega
 by_cases hb:128≤k
 ·rw [encN_big hb] at he
  have et:((k:Int).tmod 128)=((k % 128:Nat):Int):=by rw [Int.tmod_eq_emod_of_nonneg (by omega)];omega
  have eq:((k:Int).tdiv 128)=((k / 128:Nat):Int):=by rw [Int.tdiv_eq_ediv_of_nonneg (by omega)];omega
  have e1:(IntKind.u8.wrap (((k % 128:Nat):Int)+128))=((UInt8.ofNat (k % 128+128)).toNat:Int):=by
   rw [u8_toNat (by omega),IntKind.wrap_u8];omega
  simp (disch:=omega) only [go_sem,d1466_b0,et,e1]
  refine EvR_eq rfl rfl ?_
  simp (disch:=omega) only [go_sem,d1442_r0a,d1442_r0,L,eq]
  exact ⟨k / 128,by omega,pre++[UInt8.ofNat (k % 128+128)],k / 128,rfl,by rw [List.append_assoc];exact he,by omega,rfl⟩
 ·rw [encN_small (by omega)] at he
  have e1:(IntKind.u8.wrap (k:Int))=((UInt8.ofNat k).toNat:Int):=by
   rw [u8_toNat (by omega),IntKind.wrap_u8];omega
  simp (disch:=omega) only [go_sem,d1466_b0,e1]
  refine EvR_eq rfl rfl ?_
  simp (disch:=omega) only [go_sem,d1442_r0a,d1442_r0,L,he]
theorem number_run {n:Int} (h0:0≤n) (h1:n≤2147483647):runP tab 1432 [.int .i64 n] []=some (.tup [.str (encN n.toNat),.int .i64 0],[]):=by
 refine runP_fn t1432 rfl ?_
 have gm:=wmay_run n
 rw [decide_eq_true (show 0≤n∧n≤2147483647 from ⟨h0,h1⟩)] at gm
 have gl:=lay_run (n:=n.toNat) (by omega)
 rw [show ((n.toNat:Nat):Int)=n by omega] at gl
 have h5:=encN_len (n:=n.toNat) (by omega)
 simp (disch:=omega) only [go_sem,d1432,gm,gl,u8c_len]
theorem rnumber_run {n:Int} (h0:0≤n) (h1:n≤2147483647):runP tab 1464 [.int .i64 n] []=some (.tup [.str (encN n.toNat),.int .i64 0],[]):=by
 refine runP_fn t1464 rfl ?_
 obtain ⟨k,rfl⟩:∃ k:Nat,n=k:=⟨n.toNat,by omega⟩
 rw [Int.toNat_natCast]
 have h5:=encN_len (n:=k) (by omega)
 simp (disch:=omega) only [go_sem,d1464]
 refine Ev_inv (fun i st=>∃ (pre:List UInt8) (left:Nat),i=left∧pre++encN left=encN k∧left≤k∧st=⟨[(0,.int .i64 left),(4,.own 1 0)],[.row false (u8c pre)],0,[(0,1,[0,4],[(4,0)])]⟩) ?_ (i:=k) ⟨[],k,rfl,rfl,Nat.le_refl _,rfl⟩
 rintro i st ⟨pre,left,rfl,he,hl,rfl⟩
 have L:=u8c_len pre
 have hl5:pre.length≤5:=by rw [←he,List.length_append] at h5;omega
 by_cases hb:128≤i
 ·rw [encN_big hb] at he
  have et:((i:Int).tmod 128)=((i % 128:Nat):Int):=by rw [Int.tmod_eq_emod_of_nonneg (by omega)];omega
  have eq:((i:Int).tdiv 128)=((i / 128:Nat):Int):=by rw [Int.tdiv_eq_ediv_of_nonneg (by omega)];omega
  have e1:(IntKind.u8.wrap (128+((i % 128:Nat):Int)))=((UInt8.ofNat (i % 128+128)).toNat:Int):=by
   rw [u8_toNat (by omega),IntKind.wrap_u8];omega
  simp (disch:=omega) only [go_sem,d1464_b0,et,e1,eq,L]
  exact ⟨i / 128,by omega,pre++[UInt8.ofNat (i % 128+128)],i / 128,rfl,by rw [List.append_assoc];exact he,by omega,rfl⟩
 ·rw [encN_small (by omega)] at he
  have e1:(IntKind.u8.wrap (i:Int))=((UInt8.ofNat i).toNat:Int):=by
   rw [u8_toNat (by omega),IntKind.wrap_u8];omega
  simp (disch:=omega) only [go_sem,d1464_b0,e1,L,he]
theorem rnumber_bad {n:Int} (h:¬ (0≤n∧n≤2147483647)):runP tab 1464 [.int .i64 n] []=some (.tup [.str [],.int .i64 1],[]):=by
 refine runP_fn t1464 rfl ?_
 by_cases h0:0≤n
 ·simp (disch:=omega) only [go_sem,d1464]
 ·simp (disch:=omega) only [go_sem,d1464]
def encL (l:List Int):List UInt8:=l.flatMap fun x=>encN x.toNat
theorem encL_snoc (l:List Int) (x:Int):encL (l++[x])=encL l++encN x.toNat:=by simp [encL]
theorem encL_len {l:List Int} (h:∀ x∈l,0≤x∧x≤2147483647):(encL l).length≤5*l.length:=by
 induction l with
 | nil=>simp [encL]
 | cons x l ih=>
  have h1:=encN_len (n:=x.toNat) (by have:=h x (by simp);omega)
  have h2:=ih (fun y hy=>h y (by simp [hy]))
  simp only [encL,List.flatMap_cons,List.length_append,List.length_cons] at h2 ⊢
  omega
theorem lays_run {l:List Int} (hl:l.length≤1000000) (h:∀ x∈l,0≤x∧x≤2147483647):runP tab 1421 [.sl 1 (ints l)] []=some (.str (encL l),[]):=by
 refine runP_fn t1421 rfl ?_
 have L:=ints_length l
 simp (disch:=omega) only [go_sem,d1421,L]
 refine Ev_loop0 (fun i=>⟨[(3,.str (encL (l.take i))),(8,.sl 1 (ints l)),(9,.int .i64 l.length),(10,.int .i64 (i:Int))],[],0,[(0,0,[3,8,9,10],[])]⟩) l.length rfl (fun i hi=>?_) ?_
 ·have e1:=ints_rdc0 hi
  obtain ⟨h0,h1⟩:=h (l.getD i 0) (by rw [List.getD_eq_getElem?_getD,List.getElem?_eq_getElem hi];exact List.getElem_mem hi)
  have gn:=number_run h0 h1
  have k1:=encL_len (l:=l.take i) (fun x hx=>h x (List.mem_of_mem_take hx))
  rw [List.length_take] at k1
  have k2:=encN_len (n:=(l.getD i 0).toNat) (by omega)
  rw [take_snoc 0 hi,encL_snoc]
  simp (disch:=omega) only [go_sem,d1421_b0,L,e1,gn]
 ·rw [List.take_length]
  simp (disch:=omega) only [go_sem,d1421_b0,L]
def rdA:Option (Nat × Nat)→List AV
 | some (n,j)=>[.int .i64 n,.int .i64 j,.bool true]
 | none=>[.int .i64 0,.int .i64 0,.bool false]
theorem drop_getD {s:List UInt8} {i j:Nat}:(s.drop i).getD j 0=s.getD (i+j) 0:=by
 rw [List.getD_eq_getElem?_getD,List.getD_eq_getElem?_getD,List.getElem?_drop]
def nbS (s:List UInt8) (at_:Nat) (i:Nat):St:=⟨[(0,.ref 0 0),(4,.int .i64 (vN (s.drop at_) i:Nat)),(5,.int .i64 ((128 ^ i:Nat):Int))],[.row false [.str s,.int .i64 ((at_+i:Nat):Int)]],1,[(0,1,[0,4,5],[(0,0)])]⟩
theorem nb_step {s:List UInt8} (hs:s.length≤1000000) {at_ i:Nat} (hi:i<5) (hl:at_+i<s.length) (hb:128≤((s.drop at_).getD i 0).toNat):Ev tab d1468_b0 (nbS s at_ i) (fun x st=>x=.normal∧st=nbS s at_ (i+1)):=by
 have hv:=vN_lt (s.drop at_) i
 have e1:=vN_succ (bs:=s.drop at_) (i:=i) (by simp;omega)
 rw [drop_getD] at hb e1
 have hb2:=(s.getD (at_+i) 0).toNat_lt
 generalize hB:(s.getD (at_+i) 0)=b at *
 have e2:(128 ^ (i+1):Nat)=128 ^ i*128:=Nat.pow_succ 128 i
 have ei:s[((at_:Int)+(i:Int)).toNat]? = some b:=by
  rw [show ((at_:Int)+(i:Int)).toNat=at_+i by omega,List.getElem?_eq_getElem hl,←hB,List.getD_eq_getElem?_getD,List.getElem?_eq_getElem hl];rfl
 unfold nbS
 rw [e1,e2]
 have hp:128 ^ i≤128 ^ 4:=Nat.pow_le_pow_right (by omega) (by omega)
 generalize vN (s.drop at_) i=v at *
 generalize 128 ^ i=p at *
 have hm:b.toNat % 128*p≤127*p:=Nat.mul_le_mul_right p (by omega)
 have et:((b.toNat:Int).tmod 128)=((b.toNat % 128:Nat):Int):=by rw [Int.tmod_eq_emod_of_nonneg (by omega)];omega
 have em:IntKind.i64.wrap (((b.toNat % 128:Nat):Int)*(p:Int))=((b.toNat % 128*p:Nat):Int):=by
  rw [←Int.natCast_mul]
  rw [IntKind.wrap_i64];omega
 have ec:IntKind.i64.wrap (b.toNat:Int)=(b.toNat:Int):=by rw [IntKind.wrap_i64];omega
 simp (disch:=omega) only [go_sem,d1468_b0,et,ei,em,ec]
 rw [show ((at_:Int)+(i:Int)+1)=(at_:Int)+((i:Int)+1) by omega,show ((p*128:Nat):Int)=(p:Int)*128 by omega]
theorem drop_at {s:List UInt8} {i:Nat} (h:i<s.length):s[((i:Nat):Int).toNat]? = some (s.getD i 0):=by
 rw [Int.toNat_natCast,List.getElem?_eq_getElem h,List.getD_eq_getElem?_getD,List.getElem?_eq_getElem h];rfl
theorem num_at {s:List UInt8} (hs:s.length≤1000000) {at_ n:Nat} (hn:n<5) (hl:at_+n<s.length) (hb:((s.drop at_).getD n 0).toNat<128) (hj:∀ j,j<n→128≤((s.drop at_).getD j 0).toNat) {ok:Bool} (hok:ok=true↔(vN (s.drop at_) (n+1)≤2147483647∧(0<((s.drop at_).getD n 0).toNat∨n=0))):
  runP tab 1468 [.ref 0 0] [.row false [.str s,.int .i64 at_]]=some (.tup [.int .i64 (vN (s.drop at_) (n+1):Nat),.bool ok],[.row false [.str s,.int .i64 ((at_+n+1:Nat):Int)]]):=by
 refine runP_fn t1468 rfl ?_
 simp (disch:=omega) only [go_sem,d1468]
 refine Ev_loop0 (nbS s at_) n (by simp [nbS,vN]) (fun i hi=>nb_step hs (by omega) (by omega) (hj i hi)) ?_
 have hv:=vN_lt (s.drop at_) n
 have e1:=vN_succ (bs:=s.drop at_) (i:=n) (by simp;omega)
 rw [drop_getD] at hb e1 hok
 have hp:128 ^ n≤128 ^ 4:=Nat.pow_le_pow_right (by omega) (by omega)
 have hp1:0<128 ^ n:=Nat.pow_pos (by omega)
 have hpn:128 ^ n=1↔n=0:=by
  constructor
  ·intro h
   cases n with
   | zero=>rfl
   | succ n=>rw [pow128] at h;omega
  ·rintro rfl;rfl
 have ei:=drop_at hl
 rw [show (((at_+n:Nat):Int))=(at_:Int)+(n:Int) by omega] at ei
 generalize (s.getD (at_+n) 0)=b at *
 unfold nbS
 rw [e1] at hok ⊢
 have hlt:vN (s.drop at_) n+b.toNat % 128*128 ^ n≤127*268435456+268435456:=by
  have:b.toNat % 128*128 ^ n≤127*128 ^ 4:=Nat.mul_le_mul (by omega) hp
  omega
 rw [←hpn] at hok
 generalize vN (s.drop at_) n=v at *
 generalize 128 ^ n=p at *
 have hm:b.toNat % 128*p≤127*p:=Nat.mul_le_mul_right p (by omega)
 have et:((b.toNat:Int).tmod 128)=((b.toNat % 128:Nat):Int):=by rw [Int.tmod_eq_emod_of_nonneg (by omega)];omega
 have em:IntKind.i64.wrap (((b.toNat % 128:Nat):Int)*(p:Int))=((b.toNat % 128*p:Nat):Int):=by
  rw [←Int.natCast_mul]
  rw [IntKind.wrap_i64];omega
 have ec:IntKind.i64.wrap (b.toNat:Int)=(b.toNat:Int):=by rw [IntKind.wrap_i64];omega
 have gm:=wmay_run (((v+b.toNat % 128*p:Nat):Int))
 rw [show (((v+b.toNat % 128*p:Nat):Int))=(v:Int)+((b.toNat % 128*p:Nat):Int) by omega] at gm
 generalize b.toNat % 128*p=q at *
 by_cases c1:v+q≤2147483647
 ·rw [decide_eq_true (by omega)] at gm
  by_cases c2:0<b.toNat
  ·have:=hok.2 ⟨c1,.inl c2⟩
   subst this
   simp (disch:=omega) only [go_sem,d1468_b0,et,ei,em,ec,gm]
  ·by_cases c3:p=1
   ·have:=hok.2 ⟨c1,.inr c3⟩
    subst this
    simp (disch:=omega) only [go_sem,d1468_b0,et,ei,em,ec,gm]
   ·have:ok=false:=by
     cases ok
     ·rfl
     ·have:=hok.1 rfl;omega
    subst this
    simp (disch:=omega) only [go_sem,d1468_b0,et,ei,em,ec,gm]
 ·rw [decide_eq_false (by omega)] at gm
  have:ok=false:=by
   cases ok
   ·rfl
   ·have:=hok.1 rfl;omega
  subst this
  simp (disch:=omega) only [go_sem,d1468_b0,et,ei,em,ec,gm]
theorem num_no {s:List UInt8} (hs:s.length≤1000000) {at_:Nat} (ha:at_≤s.length) (hj:∀ j,j<5→j<(s.drop at_).length→128≤((s.drop at_).getD j 0).toNat):
  ∃ j:Nat,runP tab 1468 [.ref 0 0] [.row false [.str s,.int .i64 at_]]=some (.tup [.int .i64 0,.bool false],[.row false [.str s,.int .i64 (j:Int)]]):=by
 rw [List.length_drop] at hj
 obtain ⟨n,hn5,hnl,hn⟩:∃ n,n≤5∧at_+n≤s.length∧(n=5∨at_+n=s.length):=by
  by_cases h:at_+5≤s.length
  ·exact ⟨5,by omega,h,.inl rfl⟩
  ·exact ⟨s.length - at_,by omega,by omega,.inr (by omega)⟩
 refine ⟨at_+n,runP_fn t1468 rfl ?_⟩
 simp (disch:=omega) only [go_sem,d1468]
 refine Ev_loop0 (nbS s at_) n (by simp [nbS,vN]) (fun i hi=>nb_step hs (by omega) (by omega) (hj i (by omega) (by omega))) ?_
 unfold nbS
 generalize vN (s.drop at_) n=v at *
 by_cases h:at_+n=s.length
 ·simp (disch:=omega) only [go_sem,d1468_b0]
 ·have h5:n=5:=by omega
  subst h5
  simp (disch:=omega) only [go_sem,d1468_b0]
theorem rd_cases (s:List UInt8) {i:Nat} (hi:i≤s.length):(∃ n,n<5∧i+n<s.length∧((s.drop i).getD n 0).toNat<128∧(∀ j,j<n→128≤((s.drop i).getD j 0).toNat)∧rdN s i=if vN (s.drop i) (n+1)≤2147483647∧(0<((s.drop i).getD n 0).toNat∨n=0) then some (vN (s.drop i) (n+1),i+(n+1)) else none) ∨
  ((∀ j,j<5→j<(s.drop i).length→128≤((s.drop i).getD j 0).toNat)∧rdN s i=none):=by
 rcases end_or 5 (s.drop i) with ⟨n,h1,h2,h3,h4⟩ | h
 ·refine .inl ⟨n,h1,by rw [List.length_drop] at h2;omega,h3,h4,?_⟩
  unfold rdN
  rw [if_pos hi,pN_at h1 h2 h3 h4]
  by_cases c:0<((s.drop i).getD n 0).toNat∨n=0
  ·rw [if_pos c]
   simp only
   by_cases c2:vN (s.drop i) (n+1)≤2147483647
   ·rw [if_pos c2,if_pos ⟨c2,c⟩]
   ·rw [if_neg c2,if_neg (fun h=>c2 h.1)]
  ·rw [if_neg c,if_neg (fun h=>c h.2)]
 ·refine .inr ⟨h,?_⟩
  unfold rdN
  rw [if_pos hi,pN_no h]
theorem rdw_run {s:List UInt8} (hs:s.length≤1000000) {i:Nat} (hi:i≤s.length):∃ j:Nat,runP tab 1467 [.ref 0 0,.clo 1468 [.ref 0 0] []] [.row false [.str s,.int .i64 i]]=some (.tup (rdA (rdN s i)),[.row false [.str s,.int .i64 j]]):=by
 rcases rd_cases s hi with ⟨n,h1,h2,h3,h4,h5⟩ | ⟨h,h5⟩
 ·by_cases c:vN (s.drop i) (n+1)≤2147483647∧(0<((s.drop i).getD n 0).toNat∨n=0)
  ·have g:=num_at hs h1 h2 h3 h4 (ok:=true) (by simp only [true_iff];exact c)
   rw [h5,if_pos c]
   refine ⟨i+n+1,runP_fn t1467 rfl ?_⟩
   simp (disch:=omega) only [go_sem,d1467,g,rdA]
   rw [show ((i:Int)+((n:Int)+1))=(i:Int)+(n:Int)+1 by omega]
  ·have g:=num_at hs h1 h2 h3 h4 (ok:=false) ⟨fun h=>by (cases h),fun h=>absurd h c⟩
   rw [h5,if_neg c]
   refine ⟨i+n+1,runP_fn t1467 rfl ?_⟩
   simp (disch:=omega) only [go_sem,d1467,g,rdA]
 ·obtain ⟨j,g⟩:=num_no hs hi h
  rw [h5]
  refine ⟨j,runP_fn t1467 rfl ?_⟩
  simp (disch:=omega) only [go_sem,d1467,g,rdA]
theorem rdnum_run {s:List UInt8} (hs:s.length≤1000000) {i:Nat} (hi:i≤s.length):runP tab 1459 [.str s,.int .i64 i] []=some (.tup (rdA (rdN s i)),[]):=by
 obtain ⟨j,g⟩:=rdw_run hs hi
 refine runP_fn t1459 rfl ?_
 cases h:rdN s i with
 | none=>
  rw [h] at g
  simp only [rdA] at g ⊢
  simp (disch:=omega) only [go_sem,d1459,g]
 | some r=>
  rw [h] at g
  simp only [rdA] at g ⊢
  simp (disch:=omega) only [go_sem,d1459,g]
def nrS (s:List UInt8) (at_ i:Nat):St:=⟨[(0,.str s),(1,.int .i64 at_),(7,.int .i64 (vN (s.drop at_) i:Nat)),(8,.int .i64 ((128 ^ i:Nat):Int)),(9,.int .i64 ((at_+i:Nat):Int))],[],0,[(0,0,[0,1,7,8,9],[])]⟩
theorem rrd_run {s:List UInt8} (hs:s.length≤1000000) {at_:Nat} (hi:at_≤s.length):runP tab 1455 [.str s,.int .i64 at_] []=some (.tup (rdA (rdN s at_)),[]):=by
 refine runP_fn t1455 rfl ?_
 have stp:∀ i,i<5→at_+i<s.length→128≤((s.drop at_).getD i 0).toNat→Ev tab d1455_b0 (nrS s at_ i) (fun x st=>x=.normal∧st=nrS s at_ (i+1)):=by
  intro i hi hl hb
  have hv:=vN_lt (s.drop at_) i
  have e1:=vN_succ (bs:=s.drop at_) (i:=i) (by simp;omega)
  rw [drop_getD] at hb e1
  have hb2:=(s.getD (at_+i) 0).toNat_lt
  have ei:=drop_at hl
  rw [show (((at_+i:Nat):Int))=(at_:Int)+(i:Int) by omega] at ei
  generalize (s.getD (at_+i) 0)=b at *
  have e2:(128 ^ (i+1):Nat)=128 ^ i*128:=Nat.pow_succ 128 i
  unfold nrS
  rw [e1,e2]
  have hp:128 ^ i≤128 ^ 4:=Nat.pow_le_pow_right (by omega) (by omega)
  generalize vN (s.drop at_) i=v at *
  generalize 128 ^ i=p at *
  have hm:b.toNat % 128*p≤127*p:=Nat.mul_le_mul_right p (by omega)
  have et:((b.toNat:Int).tmod 128)=((b.toNat % 128:Nat):Int):=by rw [Int.tmod_eq_emod_of_nonneg (by omega)];omega
  have em:IntKind.i64.wrap ((p:Int)*((b.toNat % 128:Nat):Int))=((b.toNat % 128*p:Nat):Int):=by
   rw [←Int.natCast_mul,Nat.mul_comm,IntKind.wrap_i64];omega
  have ec:IntKind.i64.wrap (b.toNat:Int)=(b.toNat:Int):=by rw [IntKind.wrap_i64];omega
  simp (disch:=omega) only [go_sem,d1455_b0,et,ei,em,ec]
  rw [show ((at_:Int)+(i:Int)+1)=(at_:Int)+((i:Int)+1) by omega,show ((p*128:Nat):Int)=128*(p:Int) by omega]
 simp (disch:=omega) only [go_sem,d1455]
 rcases rd_cases s hi with ⟨n,h1,h2,h3,h4,h5⟩ | ⟨h,h5⟩
 ·refine Ev_loop0 (nrS s at_) n (by simp [nrS,vN]) (fun i hi=>stp i (by omega) (by omega) (h4 i hi)) ?_
  have hiff:=enc_iff h1 (by simp;omega) h3 h4
  have hv:=vN_lt (s.drop at_) n
  have e1:=vN_succ (bs:=s.drop at_) (i:=n) (by simp;omega)
  have hp:128 ^ n≤128 ^ 4:=Nat.pow_le_pow_right (by omega) (by omega)
  rw [drop_getD] at h3 e1 hiff
  rw [drop_getD] at h5
  have ei:=drop_at h2
  rw [show (((at_+n:Nat):Int))=(at_:Int)+(n:Int) by omega] at ei
  have hsl:((at_:Int)+(n:Int)+1).toNat - at_=n+1:=by omega
  generalize (s.getD (at_+n) 0)=b at *
  have hb2:=b.toNat_lt
  generalize hV:vN (s.drop at_) (n+1)=V at *
  unfold nrS
  generalize vN (s.drop at_) n=v at *
  generalize 128 ^ n=p at *
  have hm:b.toNat % 128*p≤127*p:=Nat.mul_le_mul_right p (by omega)
  have et:((b.toNat:Int).tmod 128)=((b.toNat % 128:Nat):Int):=by rw [Int.tmod_eq_emod_of_nonneg (by omega)];omega
  have em:IntKind.i64.wrap ((p:Int)*((b.toNat % 128:Nat):Int))=((b.toNat % 128*p:Nat):Int):=by
   rw [←Int.natCast_mul,Nat.mul_comm,IntKind.wrap_i64];omega
  have ec:IntKind.i64.wrap (b.toNat:Int)=(b.toNat:Int):=by rw [IntKind.wrap_i64];omega
  have eV:(v:Int)+((b.toNat % 128*p:Nat):Int)=(V:Int):=by omega
  by_cases c1:V≤2147483647
  ·have gr:=rnumber_run (n:=(V:Int)) (by omega) (by omega)
   rw [Int.toNat_natCast] at gr
   by_cases c2:encN V=(s.drop at_).take (n+1)
   ·rw [h5,if_pos ⟨c1,hiff.1 c2⟩,rdA]
    have hc:(encN V == List.take (((at_:Int)+(n:Int)+1).toNat - at_) (List.drop at_ s))=true:=by rw [hsl,c2];exact beq_self_eq_true _
    simp (disch:=omega) only [go_sem,d1455_b0,et,ei,em,ec,eV,gr,hc,Bool.not_true]
    rw [show ((at_:Int)+((n:Int)+1))=(at_:Int)+(n:Int)+1 by omega]
   ·rw [h5,if_neg (fun h=>c2 (hiff.2 h.2)),rdA]
    have hc:(encN V == List.take (((at_:Int)+(n:Int)+1).toNat - at_) (List.drop at_ s))=false:=by rw [hsl];exact beq_false_of_ne c2
    simp (disch:=omega) only [go_sem,d1455_b0,et,ei,em,ec,eV,gr,hc,Bool.not_false]
  ·have gr:=rnumber_bad (n:=(V:Int)) (by omega)
   rw [h5,if_neg (fun h=>c1 h.1),rdA]
   simp (disch:=omega) only [go_sem,d1455_b0,et,ei,em,ec,eV,gr]
 ·rw [List.length_drop] at h
  obtain ⟨n,hn5,hnl,hn⟩:∃ n,n≤5∧at_+n≤s.length∧(n=5∨at_+n=s.length):=by
   by_cases h:at_+5≤s.length
   ·exact ⟨5,by omega,h,.inl rfl⟩
   ·exact ⟨s.length - at_,by omega,by omega,.inr (by omega)⟩
  refine Ev_loop0 (nrS s at_) n (by simp [nrS,vN]) (fun i hi=>stp i (by omega) (by omega) (h i (by omega) (by omega))) ?_
  unfold nrS
  rw [h5]
  generalize vN (s.drop at_) n=v at *
  by_cases h:at_+n=s.length
  ·simp (disch:=omega) only [go_sem,d1455_b0,rdA]
  ·have h5:n=5:=by omega
   subst h5
   simp (disch:=omega) only [go_sem,d1455_b0,rdA]
end Go.Proofs.Ytgdfncnpcdafmaa
