import Derived.Test.YtfbfbennheeglaaSi
import Derived.Test.YtfbfbennheeglaaSk
namespace Go.Proofs.Ytfbfbennheeglaa
set_option linter.unusedSimpArgs false
set_option linter.unusedVariables false
set_option maxHeartbeats 4000000
set_option maxRecDepth 100000
open Go.Sort (insInner insOuter insertionSort siftDown heapBuild heapPop heapSort scanUp scanDown partLoop partition partEqLoop partitionEqual scanSorted shiftDown shiftUp partialIns partialInsertionSort reverseLoop reverseRange size_swp)
attribute [local go_sem] swp_i gl_i size_swp arr_len Int.add_sub_cancel Int.natCast_mul tn1 tnA tnB tnC tnD tnE
def iinsI (a b i j:Nat) (d:Array Int):St:=⟨[(0,.own 1 0),(1,.int .i64 (a:Int)),(2,.int .i64 (b:Int)),(6,.int .i64 (i:Int)),(7,.int .i64 (j:Int))],[.row false (ints d.toList)],1,[(1,1,[0,1,2,6,7],[(0,0)]),(0,1,[0,1,2,6],[(0,0)])]⟩
def iinsO (a b i:Nat) (d:Array Int):St:=⟨[(0,.own 1 0),(1,.int .i64 (a:Int)),(2,.int .i64 (b:Int)),(6,.int .i64 (i:Int))],[.row false (ints d.toList)],1,[(0,1,[0,1,2,6],[(0,0)])]⟩
theorem iins_rd {a b i j:Nat} {d:Array Int} (ha:a≤j) (hj:j+1<d.size) (hs:d.size≤1000000) (hl:ltI d[j+1]! d[j]! = true):
  Ev tab d1379_b1 (iinsI a b i (j+1) d) (fun x st=>x=.normal∧st=iinsI a b i j (Go.Sort.swp d (j+1) j)):=by
 simp (disch:=omega) only [go_sem,at_i,d1379_b1,iinsI,hl]
theorem iins_inner {a b i:Nat}:∀ (j:Nat) (d:Array Int) (Q:AX→St→Prop),a≤j→j<d.size→d.size≤1000000 →
  (∀ k,a≤k→k≤j→(k=a∨∃ m,k=m+1∧ltI (insInner ltI a j d)[m+1]! (insInner ltI a j d)[m]! = false)→Ev tab d1379_b1 (iinsI a b i k (insInner ltI a j d)) (fun x st=>x≠.normal∧Q x st))→Ev tab (.loop d1379_b1) (iinsI a b i j d) Q
 |0,d,Q,ha,hj,hs,hq=>by
  refine Ev_stop ?_
  have:=hq 0 ha (Nat.le_refl _) (.inl (by omega))
  simpa [insInner] using this
 |j+1,d,Q,ha,hj,hs,hq=>by
  by_cases h:(decide (j+1 > a) && ltI d[j+1]! d[j]!)=true
  ·have h2:=h
   simp only [Bool.and_eq_true,decide_eq_true_eq] at h2
   have e:insInner ltI a (j+1) d=insInner ltI a j (Go.Sort.swp d (j+1) j):=by rw [insInner,if_pos h]
   rw [e] at hq
   refine Ev_step (iins_rd (by omega) (by omega) hs h2.2) (iins_inner j _ Q (by omega) (by rw [size_swp];omega) (by rw [size_swp];exact hs) fun k h1 h2 h3=>hq k h1 (by omega) h3)
  ·have e:insInner ltI a (j+1) d=d:=by rw [insInner,if_neg h]
   rw [e] at hq
   refine Ev_stop (hq (j+1) ha (Nat.le_refl _) ?_)
   by_cases hc:j+1=a
   ·exact .inl hc
   ·refine .inr ⟨j,rfl,?_⟩
    cases hl:ltI d[j+1]! d[j]! with
    |false=>rfl
    |true=>exact absurd (by rw [hl];simp;omega) h
theorem iinsInner_sz (a:Nat):∀ (j:Nat) (d:Array Int),(insInner ltI a j d).size=d.size
 |0,d=>rfl
 |j+1,d=>by
  rw [insInner];split
  ·rw [iinsInner_sz,size_swp]
  ·rfl
theorem iins_out {a b i:Nat} {d:Array Int} (ha:a+1≤i) (hi:i<b) (hb:b≤d.size) (hs:d.size≤1000000):
  Ev tab d1379_b0 (iinsO a b i d) (fun x st=>x=.normal∧st=iinsO a b (i+1) (insInner ltI a i d)):=by
 simp (disch:=omega) only [go_sem,at_i,d1379_b0,iinsO]
 have sz:=iinsInner_sz a i d
 refine iins_inner (b:=b) i d _ (by omega) (by omega) hs (fun k h1 h2 h3=>?_)
 generalize insInner ltI a i d=d' at *
 rcases h3 with rfl | ⟨m,rfl,h3⟩
 ·simp (disch:=omega) only [go_sem,at_i,d1379_b1,iinsI]
 ·by_cases hk:a<m+1
  ·simp (disch:=omega) only [go_sem,at_i,d1379_b1,iinsI,h3]
  ·simp (disch:=omega) only [go_sem,at_i,d1379_b1,iinsI]
theorem iins_loop {a b:Nat} {Q:AX→St→Prop}:∀ (n i:Nat) (d:Array Int),b - i=n→a+1≤i→b≤d.size→d.size≤1000000 →
  (∀ k,b≤k→k≤d.size+1→Ev tab d1379_b0 (iinsO a b k (insOuter ltI a b i d)) (fun x st=>x≠.normal∧Q x st))→i≤d.size+1→Ev tab (.loop d1379_b0) (iinsO a b i d) Q
 |0,i,d,hn,ha,hb,hs,hq,hi=>by
  refine Ev_stop ?_
  have:=hq i (by omega) hi
  rwa [insOuter,if_neg (by omega)] at this
 |n+1,i,d,hn,ha,hb,hs,hq,hi=>by
  rw [insOuter,if_pos (by omega)] at hq
  have sz:=iinsInner_sz a i d
  exact Ev_step (iins_out ha (by omega) hb hs) (iins_loop n (i+1) _ (by omega) (by omega) (by omega) (by omega) (by rw [sz];exact hq) (by omega))
theorem iinsOuter_sz {a b:Nat}:∀ (n i:Nat) (d:Array Int),b - i=n→(insOuter ltI a b i d).size=d.size
 |0,i,d,h=>by rw [insOuter,if_neg (by omega)]
 |n+1,i,d,h=>by rw [insOuter,if_pos (by omega),iinsOuter_sz n (i+1) _ (by omega),iinsInner_sz]
theorem iins_run {a b:Nat} {d:Array Int} (hab:a≤b) (hb:b≤d.size) (hs:d.size≤1000000):runP tab 1379 [.own 1 0,.int .i64 (a:Int),.int .i64 (b:Int)] [.row false (ints d.toList)]=some (.tup [],[.row false (ints (insertionSort ltI d a b).toList)]):=by
 refine runP_fn t1379 rfl ?_
 simp (disch:=omega) only [go_sem,at_i,d1379]
 refine iins_loop (a:=a) (b:=b) _ (a+1) d rfl (by omega) hb hs (fun k hk1 hk2=>?_) (by omega)
 have sz:=iinsOuter_sz (a:=a) (b:=b) _ (a+1) d rfl
 rw [insertionSort]
 generalize insOuter ltI a b (a+1) d=d' at *
 simp (disch:=omega) only [go_sem,at_i,d1379_b0,iinsO]
def isifS (a hi first root:Nat) (d:Array Int):St:=⟨[(0,.own 1 0),(2,.int .i64 (hi:Int)),(3,.int .i64 (first:Int)),(8,.int .i64 (root:Int))],[.row false (ints d.toList)],1,[(0,1,[0,2,3,8],[(0,0)])]⟩
theorem isift_sz (hi first:Nat):∀ (n root:Nat) (d:Array Int),hi - root=n→(siftDown ltI hi first root d).size=d.size:=by
 intro n
 induction n using Nat.strongRecOn with
 |_ n ih=>
  intro root d hn
  rw [siftDown]
  split
  ·rfl
  ·split
   ·split
    ·rfl
    ·split
     ·rw [ih (hi - (2*root+2)) (by omega) _ _ rfl,size_swp]
     ·rfl
   ·split
    ·rfl
    ·rw [ih (hi - (2*root+1)) (by omega) _ _ rfl,size_swp]
theorem isift_loop {a hi first:Nat} {Q:AX→St→Prop}:∀ (n root:Nat) (d:Array Int),hi - root=n→first+hi≤d.size→d.size≤1000000→root≤1000000 →
  (∀ x env,(x=.exit 0∨x=.ret)→Q x ⟨env,[.row false (ints (siftDown ltI hi first root d).toList)],1,[(0,1,[0,2,3,8],[(0,0)])]⟩)→Ev tab (.loop d1389_b0) (isifS a hi first root d) Q:=by
 intro n
 induction n using Nat.strongRecOn with
 |_ n ih=>
  intro root d hn hb hs hr hq
  rw [siftDown] at hq
  by_cases h1:2*root+1 ≥ hi
  ·rw [dif_pos h1] at hq
   refine Ev_stop ?_
   simp (disch:=omega) only [go_sem,at_i,d1389_b0,isifS]
   exact hq _ _ (.inl rfl)
  ·rw [dif_neg h1] at hq
   by_cases h2:2*root+1+1<hi
   ·cases h3:ltI d[first+(2*root+1)]! d[first+(2*root+1)+1]! with
    |true=>
     rw [if_pos (by rw [h3];simpa using h2)] at hq
     cases h4:ltI d[first+root]! d[first+(2*root+2)]! with
     |true=>
      rw [h4,if_neg (by simp),dif_pos (by omega)] at hq
      refine Ev_step (st':=isifS a hi first (2*root+2) (Go.Sort.swp d (first+root) (first+(2*root+2)))) ?_ (ih (hi - (2*root+2)) (by omega) _ _ rfl (by rw [size_swp];omega) (by rw [size_swp];omega) (by omega) hq)
      simp (disch:=omega) only [go_sem,at_i,d1389_b0,isifS,h3,h4]
     |false=>
      rw [h4,if_pos (by simp)] at hq
      refine Ev_stop ?_
      simp (disch:=omega) only [go_sem,at_i,d1389_b0,isifS,h3,h4]
      exact hq _ _ (.inr rfl)
    |false=>
     rw [if_neg (by rw [h3];simp)] at hq
     cases h4:ltI d[first+root]! d[first+(2*root+1)]! with
     |true=>
      rw [h4,if_neg (by simp)] at hq
      refine Ev_step (st':=isifS a hi first (2*root+1) (Go.Sort.swp d (first+root) (first+(2*root+1)))) ?_ (ih (hi - (2*root+1)) (by omega) _ _ rfl (by rw [size_swp];omega) (by rw [size_swp];omega) (by omega) hq)
      simp (disch:=omega) only [go_sem,at_i,d1389_b0,isifS,h3,h4]
     |false=>
      rw [h4,if_pos (by simp)] at hq
      refine Ev_stop ?_
      simp (disch:=omega) only [go_sem,at_i,d1389_b0,isifS,h3,h4]
      exact hq _ _ (.inr rfl)
   ·rw [if_neg (by simp;omega)] at hq
    cases h4:ltI d[first+root]! d[first+(2*root+1)]! with
    |true=>
     rw [h4,if_neg (by simp)] at hq
     refine Ev_step (st':=isifS a hi first (2*root+1) (Go.Sort.swp d (first+root) (first+(2*root+1)))) ?_ (ih (hi - (2*root+1)) (by omega) _ _ rfl (by rw [size_swp];omega) (by rw [size_swp];omega) (by omega) hq)
     simp (disch:=omega) only [go_sem,at_i,d1389_b0,isifS,h4]
    |false=>
     rw [h4,if_pos (by simp)] at hq
     refine Ev_stop ?_
     simp (disch:=omega) only [go_sem,at_i,d1389_b0,isifS,h4]
     exact hq _ _ (.inr rfl)
theorem isift_run {hi first root:Nat} {d:Array Int} (hb:first+hi≤d.size) (hs:d.size≤1000000) (hr:root≤1000000):runP tab 1389 [.own 1 0,.int .i64 (root:Int),.int .i64 (hi:Int),.int .i64 (first:Int)] [.row false (ints d.toList)]=some (.tup [],[.row false (ints (siftDown ltI hi first root d).toList)]):=by
 refine runP_fn t1389 rfl ?_
 simp (disch:=omega) only [go_sem,at_i,d1389]
 refine isift_loop (a:=0) _ root d rfl hb hs hr (fun x env hx=>?_)
 rcases hx with rfl | rfl<;>simp (disch:=omega) only [go_sem,at_i]
def ihpB (hi first:Nat) (i:Int) (d:Array Int):St:=⟨[(0,.own 1 0),(6,.int .i64 (first:Int)),(7,.int .i64 0),(8,.int .i64 (hi:Int)),(9,.int .i64 i)],[.row false (ints d.toList)],1,[(0,1,[0,6,7,8,9],[(0,0)])]⟩
theorem ihb_loop {hi first:Nat} {Q:AX→St→Prop}:∀ (k:Nat) (d:Array Int),first+hi≤d.size→d.size≤1000000→k≤1000000 →
  (Ev tab d1380_b0 (ihpB hi first (-1) (heapBuild ltI hi first k d)) (fun x st=>x≠.normal∧Q x st))→Ev tab (.loop d1380_b0) (ihpB hi first ((k:Int) - 1) d) Q
 |0,d,hb,hs,hk,hq=>Ev_stop hq
 |k+1,d,hb,hs,hk,hq=>by
  have sz:=isift_sz hi first _ k d rfl
  refine Ev_step (st':=ihpB hi first ((k:Int) - 1) (siftDown ltI hi first k d)) ?_ (ihb_loop k _ (by omega) (by omega) (by omega) hq)
  have g:=isift_run (root:=k) hb hs (by omega)
  generalize siftDown ltI hi first k d=d' at *
  simp (disch:=omega) only [go_sem,at_i,d1380_b0,ihpB,g]
theorem ihb_sz (hi first:Nat):∀ (k:Nat) (d:Array Int),(heapBuild ltI hi first k d).size=d.size
 |0,d=>rfl
 |k+1,d=>by rw [heapBuild,ihb_sz hi first k,isift_sz hi first _ k d rfl]
def ihpP (first:Nat) (i:Int) (d:Array Int):St:=⟨[(0,.own 1 0),(6,.int .i64 (first:Int)),(7,.int .i64 0),(10,.int .i64 i)],[.row false (ints d.toList)],1,[(1,1,[0,6,7,10],[(0,0)]),(0,1,[0,6,7,8,9],[(0,0)])]⟩
theorem ihp_loop {first:Nat} {Q:AX→St→Prop}:∀ (k:Nat) (d:Array Int),first+k≤d.size→d.size≤1000000 →
  (Ev tab d1380_b1 (ihpP first (-1) (heapPop ltI first k d)) (fun x st=>x≠.normal∧Q x st))→Ev tab (.loop d1380_b1) (ihpP first ((k:Int) - 1) d) Q
 |0,d,hb,hs,hq=>Ev_stop hq
 |k+1,d,hb,hs,hq=>by
  have sz:=isift_sz k first _ 0 (Go.Sort.swp d first (first+k)) rfl
  have g:=isift_run (root:=0) (hi:=k) (first:=first) (d:=Go.Sort.swp d first (first+k)) (by rw [size_swp];omega) (by rw [size_swp];omega) (by omega)
  refine Ev_step (st':=ihpP first ((k:Int) - 1) (siftDown ltI k first 0 (Go.Sort.swp d first (first+k)))) ?_ (ihp_loop k _ (by rw [sz,size_swp];omega) (by rw [sz,size_swp];omega) hq)
  generalize siftDown ltI k first 0 (Go.Sort.swp d first (first+k))=d' at *
  rw [Int.cast_ofNat_Int] at g
  simp (disch:=omega) only [go_sem,at_i,d1380_b1,ihpP,g]
theorem ihp_sz (first:Nat):∀ (k:Nat) (d:Array Int),(heapPop ltI first k d).size=d.size
 |0,d=>rfl
 |k+1,d=>by rw [heapPop,ihp_sz first k,isift_sz k first _ 0 _ rfl,size_swp]
theorem iheap_run {a b:Nat} {d:Array Int} (hab:a≤b) (hb:b≤d.size) (hs:d.size≤1000000) (h2:a<b):runP tab 1380 [.own 1 0,.int .i64 (a:Int),.int .i64 (b:Int)] [.row false (ints d.toList)]=some (.tup [],[.row false (ints (heapSort ltI d a b).toList)]):=by
 refine runP_fn t1380 rfl ?_
 obtain ⟨n,rfl⟩:∃ n,b=a+n:=⟨b - a,by omega⟩
 have q1:((a:Int)+(n:Int)) - (a:Int)=(n:Int):=by omega
 have q2:((n:Int) - 1).tdiv 2=(((n - 1) / 2+1:Nat):Int) - 1:=by
  rw [show (n:Int) - 1=((n - 1:Nat):Int) by omega]
  rw [show ((n - 1:Nat):Int).tdiv 2=(((n - 1) / 2:Nat):Int) from rfl]
  omega
 have q3:(((n - 1) / 2:Nat):Int)=(((n - 1) / 2+1:Nat):Int) - 1:=by omega
 rw [heapSort,show a+n - a=n by omega]
 simp (disch:=omega) only [go_sem,at_i,d1380,q1,q2]
 rw [q3]
 refine ihb_loop (hi:=n) ((n - 1) / 2+1) d (by omega) hs (by omega) ?_
 have sz:=ihb_sz n a ((n - 1) / 2+1) d
 generalize heapBuild ltI n a ((n - 1) / 2+1) d=d' at *
 simp (disch:=omega) only [go_sem,at_i,d1380_b0,ihpB]
 refine ihp_loop n d' (by omega) (by omega) ?_
 have sz2:=ihp_sz a n d'
 generalize heapPop ltI a n d'=d'' at *
 simp (disch:=omega) only [go_sem,at_i,d1380_b1,ihpP]
def irevS (i j:Nat) (d:Array Int):St:=⟨[(0,.own 1 0),(6,.int .i64 (i:Int)),(7,.int .i64 (j:Int))],[.row false (ints d.toList)],1,[(0,1,[0,6,7],[(0,0)])]⟩
theorem irev_loop {Q:AX→St→Prop}:∀ (n i j:Nat) (d:Array Int),j - i≤n→j<d.size→i<d.size→d.size≤1000000 →
  (∀ env,Q (.exit 0) ⟨env,[.row false (ints (reverseLoop i j d).toList)],1,[(0,1,[0,6,7],[(0,0)])]⟩)→Ev tab (.loop d1383_b0) (irevS i j d) Q:=by
 intro n
 induction n with
 |zero=>
  intro i j d hn hj hi hs hq
  rw [reverseLoop,if_neg (by omega)] at hq
  refine Ev_stop ?_
  simp (disch:=omega) only [go_sem,at_i,d1383_b0,irevS]
  exact hq _
 |succ n ih=>
  intro i j d hn hj hi hs hq
  by_cases h:i<j
  ·rw [reverseLoop,if_pos h] at hq
   obtain ⟨k,rfl⟩:∃ k,j=k+1:=⟨j - 1,by omega⟩
   refine Ev_step (st':=irevS (i+1) k (Go.Sort.swp d i (k+1))) ?_ (ih (i+1) k _ (by omega) (by rw [size_swp];omega) (by rw [size_swp];omega) (by rw [size_swp];exact hs) hq)
   simp (disch:=omega) only [go_sem,at_i,d1383_b0,irevS]
  ·rw [reverseLoop,if_neg h] at hq
   refine Ev_stop ?_
   simp (disch:=omega) only [go_sem,at_i,d1383_b0,irevS]
   exact hq _
theorem irev_run {a b:Nat} {d:Array Int} (hab:a<b) (hb:b≤d.size) (hs:d.size≤1000000):runP tab 1383 [.own 1 0,.int .i64 (a:Int),.int .i64 (b:Int)] [.row false (ints d.toList)]=some (.tup [],[.row false (ints (reverseRange d a b).toList)]):=by
 refine runP_fn t1383 rfl ?_
 have q:(b:Int) - 1=((b - 1:Nat):Int):=by omega
 simp (disch:=omega) only [go_sem,at_i,d1383,q]
 refine irev_loop _ a (b - 1) d (Nat.le_refl _) (by omega) (by omega) hs (fun env=>?_)
 rw [reverseRange]
 simp (disch:=omega) only [go_sem,at_i]
def iptS (M:List Mark) (a i j:Nat) (d:Array Int):St:=⟨[(0,.own 1 0),(1,.int .i64 (a:Int)),(10,.int .i64 (i:Int)),(11,.int .i64 (j:Int))],[.row false (ints d.toList)],1,M⟩
def ipqS (M:List Mark) (a i j:Nat) (d:Array Int):St:=⟨[(0,.own 1 0),(1,.int .i64 (a:Int)),(9,.int .i64 (i:Int)),(10,.int .i64 (j:Int))],[.row false (ints d.toList)],1,M⟩
theorem iup0 {a j:Nat} {d:Array Int} {M:List Mark} {Q:AX→St→Prop}:∀ (n i:Nat),j+1 - i=n→a<d.size→j<d.size→i≤d.size→d.size≤1000000 →
  (∀ env,lk env 0=.own 1 0→lk env 1=.int .i64 (a:Int)→lk env 10=.int .i64 ((scanUp (fun x=>ltI x d[a]!) d j i:Nat):Int)→lk env 11=.int .i64 (j:Int)→Q (.exit 0) ⟨env,[.row false (ints d.toList)],1,(0,1,[0,1,10,11],[(0,0)])::M⟩)→Ev tab (.loop d1386_b0) (iptS ((0,1,[0,1,10,11],[(0,0)])::M) a i j d) Q
 |0,i,hn,ha,hj,hi,hs,hq=>by
  rw [scanUp,if_neg (by simp;omega)] at hq
  refine Ev_stop ?_
  simp (disch:=omega) only [go_sem,at_i,d1386_b0,iptS]
  exact hq _ rfl rfl rfl rfl
 |n+1,i,hn,ha,hj,hi,hs,hq=>by
  cases h:ltI d[i]! d[a]! with
  |true=>
   rw [scanUp,if_pos (by rw [h];simp;omega)] at hq
   refine Ev_step (st':=iptS ((0,1,[0,1,10,11],[(0,0)])::M) a (i+1) j d) ?_ (iup0 n (i+1) (by omega) ha hj (by omega) hs hq)
   simp (disch:=omega) only [go_sem,at_i,d1386_b0,iptS,h]
  |false=>
   rw [scanUp,if_neg (by rw [h];simp)] at hq
   refine Ev_stop ?_
   simp (disch:=omega) only [go_sem,at_i,d1386_b0,iptS,h]
   exact hq _ rfl rfl rfl rfl
theorem idn1 {a i:Nat} {d:Array Int} {M:List Mark} {Q:AX→St→Prop}:∀ (j:Nat),0<i→a<d.size→j<d.size→i≤d.size→d.size≤1000000 →
  (∀ env,lk env 0=.own 1 0→lk env 1=.int .i64 (a:Int)→lk env 10=.int .i64 (i:Int)→lk env 11=.int .i64 ((scanDown (fun x=>!ltI x d[a]!) d i j:Nat):Int)→Q (.exit 2) ⟨env,[.row false (ints d.toList)],1,(1,1,[0,1,10,11],[(0,0)])::M⟩)→Ev tab (.loop d1386_b1) (iptS ((1,1,[0,1,10,11],[(0,0)])::M) a i j d) Q
 |0,h0,ha,hj,hi,hs,hq=>by
  refine Ev_stop ?_
  rw [scanDown] at hq
  simp (disch:=omega) only [go_sem,at_i,d1386_b1,iptS]
  exact hq _ rfl rfl rfl rfl
 |j+1,h0,ha,hj,hi,hs,hq=>by
  by_cases hij:i≤j+1
  ·cases h:ltI d[j+1]! d[a]! with
   |false=>
    rw [scanDown,if_pos (by rw [h];simpa using hij)] at hq
    refine Ev_step (st':=iptS ((1,1,[0,1,10,11],[(0,0)])::M) a i j d) ?_ (idn1 j h0 ha (by omega) hi hs hq)
    simp (disch:=omega) only [go_sem,at_i,d1386_b1,iptS,h]
   |true=>
    rw [scanDown,if_neg (by rw [h];simp)] at hq
    refine Ev_stop ?_
    simp (disch:=omega) only [go_sem,at_i,d1386_b1,iptS,h]
    exact hq _ rfl rfl rfl rfl
  ·rw [scanDown,if_neg (by simp;omega)] at hq
   refine Ev_stop ?_
   simp (disch:=omega) only [go_sem,at_i,d1386_b1,iptS]
   exact hq _ rfl rfl rfl rfl
theorem iup3 {a j:Nat} {d:Array Int} {M:List Mark} {Q:AX→St→Prop}:∀ (n i:Nat),j+1 - i=n→a<d.size→j<d.size→i≤d.size→d.size≤1000000 →
  (∀ env,lk env 0=.own 1 0→lk env 1=.int .i64 (a:Int)→lk env 10=.int .i64 ((scanUp (fun x=>ltI x d[a]!) d j i:Nat):Int)→lk env 11=.int .i64 (j:Int)→Q (.exit 6) ⟨env,[.row false (ints d.toList)],1,(3,1,[0,1,10,11],[(0,0)])::M⟩)→Ev tab (.loop d1386_b3) (iptS ((3,1,[0,1,10,11],[(0,0)])::M) a i j d) Q
 |0,i,hn,ha,hj,hi,hs,hq=>by
  rw [scanUp,if_neg (by simp;omega)] at hq
  refine Ev_stop ?_
  simp (disch:=omega) only [go_sem,at_i,d1386_b3,iptS]
  exact hq _ rfl rfl rfl rfl
 |n+1,i,hn,ha,hj,hi,hs,hq=>by
  cases h:ltI d[i]! d[a]! with
  |true=>
   rw [scanUp,if_pos (by rw [h];simp;omega)] at hq
   refine Ev_step (st':=iptS ((3,1,[0,1,10,11],[(0,0)])::M) a (i+1) j d) ?_ (iup3 n (i+1) (by omega) ha hj (by omega) hs hq)
   simp (disch:=omega) only [go_sem,at_i,d1386_b3,iptS,h]
  |false=>
   rw [scanUp,if_neg (by rw [h];simp)] at hq
   refine Ev_stop ?_
   simp (disch:=omega) only [go_sem,at_i,d1386_b3,iptS,h]
   exact hq _ rfl rfl rfl rfl
theorem idn4 {a i:Nat} {d:Array Int} {M:List Mark} {Q:AX→St→Prop}:∀ (j:Nat),0<i→a<d.size→j<d.size→i≤d.size→d.size≤1000000 →
  (∀ env,lk env 0=.own 1 0→lk env 1=.int .i64 (a:Int)→lk env 10=.int .i64 (i:Int)→lk env 11=.int .i64 ((scanDown (fun x=>!ltI x d[a]!) d i j:Nat):Int)→Q (.exit 8) ⟨env,[.row false (ints d.toList)],1,(4,1,[0,1,10,11],[(0,0)])::M⟩)→Ev tab (.loop d1386_b4) (iptS ((4,1,[0,1,10,11],[(0,0)])::M) a i j d) Q
 |0,h0,ha,hj,hi,hs,hq=>by
  refine Ev_stop ?_
  rw [scanDown] at hq
  simp (disch:=omega) only [go_sem,at_i,d1386_b4,iptS]
  exact hq _ rfl rfl rfl rfl
 |j+1,h0,ha,hj,hi,hs,hq=>by
  by_cases hij:i≤j+1
  ·cases h:ltI d[j+1]! d[a]! with
   |false=>
    rw [scanDown,if_pos (by rw [h];simpa using hij)] at hq
    refine Ev_step (st':=iptS ((4,1,[0,1,10,11],[(0,0)])::M) a i j d) ?_ (idn4 j h0 ha (by omega) hi hs hq)
    simp (disch:=omega) only [go_sem,at_i,d1386_b4,iptS,h]
   |true=>
    rw [scanDown,if_neg (by rw [h];simp)] at hq
    refine Ev_stop ?_
    simp (disch:=omega) only [go_sem,at_i,d1386_b4,iptS,h]
    exact hq _ rfl rfl rfl rfl
  ·rw [scanDown,if_neg (by simp;omega)] at hq
   refine Ev_stop ?_
   simp (disch:=omega) only [go_sem,at_i,d1386_b4,iptS]
   exact hq _ rfl rfl rfl rfl
theorem iqup {a j:Nat} {d:Array Int} {M:List Mark} {Q:AX→St→Prop}:∀ (n i:Nat),j+1 - i=n→a<d.size→j<d.size→i≤d.size→d.size≤1000000 →
  (∀ env,lk env 0=.own 1 0→lk env 1=.int .i64 (a:Int)→lk env 9=.int .i64 ((scanUp (fun x=>!ltI d[a]! x) d j i:Nat):Int)→lk env 10=.int .i64 (j:Int)→Q (.exit 2) ⟨env,[.row false (ints d.toList)],1,(1,1,[0,1,9,10],[(0,0)])::M⟩)→Ev tab (.loop d1385_b1) (ipqS ((1,1,[0,1,9,10],[(0,0)])::M) a i j d) Q
 |0,i,hn,ha,hj,hi,hs,hq=>by
  rw [scanUp,if_neg (by simp;omega)] at hq
  refine Ev_stop ?_
  simp (disch:=omega) only [go_sem,at_i,d1385_b1,ipqS]
  exact hq _ rfl rfl rfl rfl
 |n+1,i,hn,ha,hj,hi,hs,hq=>by
  cases h:ltI d[a]! d[i]! with
  |false=>
   rw [scanUp,if_pos (by rw [h];simp;omega)] at hq
   refine Ev_step (st':=ipqS ((1,1,[0,1,9,10],[(0,0)])::M) a (i+1) j d) ?_ (iqup n (i+1) (by omega) ha hj (by omega) hs hq)
   simp (disch:=omega) only [go_sem,at_i,d1385_b1,ipqS,h]
  |true=>
   rw [scanUp,if_neg (by rw [h];simp)] at hq
   refine Ev_stop ?_
   simp (disch:=omega) only [go_sem,at_i,d1385_b1,ipqS,h]
   exact hq _ rfl rfl rfl rfl
theorem iqdn {a i:Nat} {d:Array Int} {M:List Mark} {Q:AX→St→Prop}:∀ (j:Nat),0<i→a<d.size→j<d.size→i≤d.size→d.size≤1000000 →
  (∀ env,lk env 0=.own 1 0→lk env 1=.int .i64 (a:Int)→lk env 9=.int .i64 (i:Int)→lk env 10=.int .i64 ((scanDown (fun x=>ltI d[a]! x) d i j:Nat):Int)→Q (.exit 4) ⟨env,[.row false (ints d.toList)],1,(2,1,[0,1,9,10],[(0,0)])::M⟩)→Ev tab (.loop d1385_b2) (ipqS ((2,1,[0,1,9,10],[(0,0)])::M) a i j d) Q
 |0,h0,ha,hj,hi,hs,hq=>by
  refine Ev_stop ?_
  rw [scanDown] at hq
  simp (disch:=omega) only [go_sem,at_i,d1385_b2,ipqS]
  exact hq _ rfl rfl rfl rfl
 |j+1,h0,ha,hj,hi,hs,hq=>by
  by_cases hij:i≤j+1
  ·cases h:ltI d[a]! d[j+1]! with
   |true=>
    rw [scanDown,if_pos (by rw [h];simpa using hij)] at hq
    refine Ev_step (st':=ipqS ((2,1,[0,1,9,10],[(0,0)])::M) a i j d) ?_ (iqdn j h0 ha (by omega) hi hs hq)
    simp (disch:=omega) only [go_sem,at_i,d1385_b2,ipqS,h]
   |false=>
    rw [scanDown,if_neg (by rw [h];simp)] at hq
    refine Ev_stop ?_
    simp (disch:=omega) only [go_sem,at_i,d1385_b2,ipqS,h]
    exact hq _ rfl rfl rfl rfl
  ·rw [scanDown,if_neg (by simp;omega)] at hq
   refine Ev_stop ?_
   simp (disch:=omega) only [go_sem,at_i,d1385_b2,ipqS]
   exact hq _ rfl rfl rfl rfl
theorem ipl_sz (a:Nat):∀ (n i j:Nat) (d:Array Int),j+1 - i≤n→(partLoop ltI a i j d).2.size=d.size:=by
 intro n
 induction n with
 |zero=>
  intro i j d hn
  have h1:=Go.Sort.scanUp_ge (fun x=>ltI x d[a]!) d j i
  have h2:=Go.Sort.scanDown_le (fun x=>!ltI x d[a]!) d (scanUp (fun x=>ltI x d[a]!) d j i) j
  rw [Go.Sort.partLoop_eq,if_pos (by omega)]
 |succ n ih=>
  intro i j d hn
  have h1:=Go.Sort.scanUp_ge (fun x=>ltI x d[a]!) d j i
  have h2:=Go.Sort.scanDown_le (fun x=>!ltI x d[a]!) d (scanUp (fun x=>ltI x d[a]!) d j i) j
  rw [Go.Sort.partLoop_eq]
  split
  ·rfl
  ·rw [ih _ _ _ (by omega),size_swp]
theorem ipl_loop {a:Nat} {M:List Mark} {Q:AX→St→Prop}:∀ (n i j:Nat) (d:Array Int),j+1 - i≤n→a<i→i≤j+1→j<d.size→d.size≤1000000 →
  (∀ env M',lk env 0=.own 1 0→lk env 1=.int .i64 (a:Int)→lk env 11=.int .i64 (((partLoop ltI a i j d).1:Nat):Int)→Q (.exit 4) ⟨env,[.row false (ints ((partLoop ltI a i j d).2).toList)],1,M'⟩) →
  Ev tab (.loop d1386_b2) (iptS ((2,1,[0,1,10,11],[(0,0)])::M) a i j d) Q:=by
 intro n
 induction n with
 |zero=>
  intro i j d hn ha hij hj hs hq
  rw [Go.Sort.partLoop_eq] at hq
  have h1:=Go.Sort.scanUp_ge (fun x=>ltI x d[a]!) d j i
  obtain ⟨_,h1',_,_⟩:=Go.Sort.scanUp_spec (fun x=>ltI x d[a]!) d j _ i rfl
  have h2:=Go.Sort.scanDown_le (fun x=>!ltI x d[a]!) d (scanUp (fun x=>ltI x d[a]!) d j i) j
  rw [if_pos (by omega)] at hq
  refine Ev_stop ?_
  simp (disch:=omega) only [go_sem,at_i,d1386_b2,iptS]
  refine iup3 _ i rfl (by omega) hj (by omega) hs (fun env e0 e1 e12 e13=>?_)
  generalize scanUp (fun x=>ltI x d[a]!) d j i=i2 at *
  simp (disch:=omega) only [go_sem,at_i,e0,e1,e12,e13]
  refine idn4 (i:=i2) j (by omega) (by omega) hj (by omega) hs (fun env e0 e1 e12 e13=>?_)
  generalize scanDown (fun x=>!ltI x d[a]!) d i2 j=j2 at *
  simp (disch:=omega) only [go_sem,at_i,e0,e1,e12,e13]
  exact hq _ _ rfl rfl rfl
 |succ n ih=>
  intro i j d hn ha hij hj hs hq
  rw [Go.Sort.partLoop_eq] at hq
  have h1:=Go.Sort.scanUp_ge (fun x=>ltI x d[a]!) d j i
  obtain ⟨_,h1',_,_⟩:=Go.Sort.scanUp_spec (fun x=>ltI x d[a]!) d j _ i rfl
  have h2:=Go.Sort.scanDown_le (fun x=>!ltI x d[a]!) d (scanUp (fun x=>ltI x d[a]!) d j i) j
  by_cases hc:scanUp (fun x=>ltI x d[a]!) d j i > scanDown (fun x=>!ltI x d[a]!) d (scanUp (fun x=>ltI x d[a]!) d j i) j
  ·rw [if_pos hc] at hq
   refine Ev_stop ?_
   simp (disch:=omega) only [go_sem,at_i,d1386_b2,iptS]
   refine iup3 _ i rfl (by omega) hj (by omega) hs (fun env e0 e1 e12 e13=>?_)
   generalize scanUp (fun x=>ltI x d[a]!) d j i=i2 at *
   simp (disch:=omega) only [go_sem,at_i,e0,e1,e12,e13]
   refine idn4 (i:=i2) j (by omega) (by omega) hj (by omega) hs (fun env e0 e1 e12 e13=>?_)
   generalize scanDown (fun x=>!ltI x d[a]!) d i2 j=j2 at *
   simp (disch:=omega) only [go_sem,at_i,e0,e1,e12,e13]
   exact hq _ _ rfl rfl rfl
  ·rw [if_neg hc] at hq
   have hne:scanUp (fun x=>ltI x d[a]!) d j i≠scanDown (fun x=>!ltI x d[a]!) d (scanUp (fun x=>ltI x d[a]!) d j i) j:=fun e=>by
    have u4:=(Go.Sort.scanUp_spec (fun x=>ltI x d[a]!) d j _ i rfl).2.2.2 (by omega)
    have v4:=(Go.Sort.scanDown_spec (fun x=>!ltI x d[a]!) d (scanUp (fun x=>ltI x d[a]!) d j i) j).2.2.2 (by omega) (by omega)
    rw [←e] at v4
    (try simp only at u4 v4)
    rw [u4] at v4;cases v4
   refine Ev_step (st':=iptS ((2,1,[0,1,10,11],[(0,0)])::M) a (scanUp (fun x=>ltI x d[a]!) d j i+1) (scanDown (fun x=>!ltI x d[a]!) d (scanUp (fun x=>ltI x d[a]!) d j i) j - 1) (Go.Sort.swp d (scanUp (fun x=>ltI x d[a]!) d j i) (scanDown (fun x=>!ltI x d[a]!) d (scanUp (fun x=>ltI x d[a]!) d j i) j))) ?_ (ih _ _ _ (by omega) (by omega) (by omega) (by rw [size_swp];omega) (by rw [size_swp];exact hs) hq)
   clear hq ih
   simp (disch:=omega) only [go_sem,at_i,d1386_b2,iptS]
   refine iup3 _ i rfl (by omega) hj (by omega) hs (fun env e0 e1 e12 e13=>?_)
   generalize scanUp (fun x=>ltI x d[a]!) d j i=i2 at *
   simp (disch:=omega) only [go_sem,at_i,e0,e1,e12,e13]
   refine idn4 (i:=i2) j (by omega) (by omega) hj (by omega) hs (fun env e0 e1 e12 e13=>?_)
   generalize scanDown (fun x=>!ltI x d[a]!) d i2 j=j2 at *
   obtain ⟨k,rfl⟩:∃ k,j2=k+1:=⟨j2 - 1,by omega⟩
   simp (disch:=omega) only [go_sem,at_i,e0,e1,e12,e13,Nat.add_sub_cancel]
theorem iprt_run {a b pivot:Nat} {d:Array Int} (ha:a≤pivot) (hp:pivot<b) (hb:b≤d.size) (hs:d.size≤1000000):runP tab 1386 [.own 1 0,.int .i64 (a:Int),.int .i64 (b:Int),.int .i64 (pivot:Int)] [.row false (ints d.toList)] =
  some (.tup [.int .i64 ((partition ltI d a b pivot).1:Int),.bool (partition ltI d a b pivot).2.1],[.row false (ints ((partition ltI d a b pivot).2.2).toList)]):=by
 refine runP_fn t1386 rfl ?_
 have q:(b:Int) - 1=((b - 1:Nat):Int):=by omega
 simp (disch:=omega) only [go_sem,at_i,d1386,q]
 have sz:=size_swp d a pivot
 have epart:partition ltI d a b pivot=(if scanUp (fun x=>ltI x (Go.Sort.swp d a pivot)[a]!) (Go.Sort.swp d a pivot) (b - 1) (a+1) > scanDown (fun x=>!ltI x (Go.Sort.swp d a pivot)[a]!) (Go.Sort.swp d a pivot) (scanUp (fun x=>ltI x (Go.Sort.swp d a pivot)[a]!) (Go.Sort.swp d a pivot) (b - 1) (a+1)) (b - 1) then (scanDown (fun x=>!ltI x (Go.Sort.swp d a pivot)[a]!) (Go.Sort.swp d a pivot) (scanUp (fun x=>ltI x (Go.Sort.swp d a pivot)[a]!) (Go.Sort.swp d a pivot) (b - 1) (a+1)) (b - 1),true,Go.Sort.swp (Go.Sort.swp d a pivot) (scanDown (fun x=>!ltI x (Go.Sort.swp d a pivot)[a]!) (Go.Sort.swp d a pivot) (scanUp (fun x=>ltI x (Go.Sort.swp d a pivot)[a]!) (Go.Sort.swp d a pivot) (b - 1) (a+1)) (b - 1)) a) else ((partLoop ltI a (scanUp (fun x=>ltI x (Go.Sort.swp d a pivot)[a]!) (Go.Sort.swp d a pivot) (b - 1) (a+1)+1) (scanDown (fun x=>!ltI x (Go.Sort.swp d a pivot)[a]!) (Go.Sort.swp d a pivot) (scanUp (fun x=>ltI x (Go.Sort.swp d a pivot)[a]!) (Go.Sort.swp d a pivot) (b - 1) (a+1)) (b - 1) - 1) (Go.Sort.swp (Go.Sort.swp d a pivot) (scanUp (fun x=>ltI x (Go.Sort.swp d a pivot)[a]!) (Go.Sort.swp d a pivot) (b - 1) (a+1)) (scanDown (fun x=>!ltI x (Go.Sort.swp d a pivot)[a]!) (Go.Sort.swp d a pivot) (scanUp (fun x=>ltI x (Go.Sort.swp d a pivot)[a]!) (Go.Sort.swp d a pivot) (b - 1) (a+1)) (b - 1)))).1,false,Go.Sort.swp (partLoop ltI a (scanUp (fun x=>ltI x (Go.Sort.swp d a pivot)[a]!) (Go.Sort.swp d a pivot) (b - 1) (a+1)+1) (scanDown (fun x=>!ltI x (Go.Sort.swp d a pivot)[a]!) (Go.Sort.swp d a pivot) (scanUp (fun x=>ltI x (Go.Sort.swp d a pivot)[a]!) (Go.Sort.swp d a pivot) (b - 1) (a+1)) (b - 1) - 1) (Go.Sort.swp (Go.Sort.swp d a pivot) (scanUp (fun x=>ltI x (Go.Sort.swp d a pivot)[a]!) (Go.Sort.swp d a pivot) (b - 1) (a+1)) (scanDown (fun x=>!ltI x (Go.Sort.swp d a pivot)[a]!) (Go.Sort.swp d a pivot) (scanUp (fun x=>ltI x (Go.Sort.swp d a pivot)[a]!) (Go.Sort.swp d a pivot) (b - 1) (a+1)) (b - 1)))).2 (partLoop ltI a (scanUp (fun x=>ltI x (Go.Sort.swp d a pivot)[a]!) (Go.Sort.swp d a pivot) (b - 1) (a+1)+1) (scanDown (fun x=>!ltI x (Go.Sort.swp d a pivot)[a]!) (Go.Sort.swp d a pivot) (scanUp (fun x=>ltI x (Go.Sort.swp d a pivot)[a]!) (Go.Sort.swp d a pivot) (b - 1) (a+1)) (b - 1) - 1) (Go.Sort.swp (Go.Sort.swp d a pivot) (scanUp (fun x=>ltI x (Go.Sort.swp d a pivot)[a]!) (Go.Sort.swp d a pivot) (b - 1) (a+1)) (scanDown (fun x=>!ltI x (Go.Sort.swp d a pivot)[a]!) (Go.Sort.swp d a pivot) (scanUp (fun x=>ltI x (Go.Sort.swp d a pivot)[a]!) (Go.Sort.swp d a pivot) (b - 1) (a+1)) (b - 1)))).1 a)):=rfl
 rw [epart]
 clear epart
 generalize Go.Sort.swp d a pivot=d1 at *
 obtain ⟨h1,h2,h3,h4⟩:=Go.Sort.scanUp_spec (fun x=>ltI x d1[a]!) d1 (b - 1) _ (a+1) rfl
 obtain ⟨k1,k2,k3,k4⟩:=Go.Sort.scanDown_spec (fun x=>!ltI x d1[a]!) d1 (scanUp (fun x=>ltI x d1[a]!) d1 (b - 1) (a+1)) (b - 1)
 refine iup0 (j:=b - 1) _ (a+1) rfl (by omega) (by omega) (by omega) (by omega) (fun env e0 e1 e12 e13=>?_)
 generalize scanUp (fun x=>ltI x d1[a]!) d1 (b - 1) (a+1)=i2 at *
 simp (disch:=omega) only [go_sem,at_i,e0,e1,e12,e13]
 refine idn1 (i:=i2) (b - 1) (by omega) (by omega) (by omega) (by omega) (by omega) (fun env e0 e1 e12 e13=>?_)
 generalize scanDown (fun x=>!ltI x d1[a]!) d1 i2 (b - 1)=j2 at *
 by_cases hc:i2 > j2
 ·rw [if_pos hc]
  simp (disch:=omega) only [go_sem,at_i,e0,e1,e12,e13]
 ·rw [if_neg hc]
  have hne:i2≠j2:=fun e=>by
   subst e
   have u4:=h4 (by omega)
   have v4:=k4 (by omega) (by omega)
   (try simp only at u4 v4)
   rw [u4] at v4;cases v4
  obtain ⟨k,rfl⟩:∃ k,j2=k+1:=⟨j2 - 1,by omega⟩
  rw [Nat.add_sub_cancel]
  have sz2:=size_swp d1 i2 (k+1)
  have sp:=Go.Sort.partLoop_spec ltI a b _ (i2+1) k (Go.Sort.swp d1 i2 (k+1)) (Nat.le_refl _) (by omega) (by omega) (by omega) (by omega) (fun t t1 t2=>?_) (fun t t1 t2=>?_)
  ·simp (disch:=omega) only [go_sem,at_i,e0,e1,e12,e13]
   have sz3:=ipl_sz a _ (i2+1) k (Go.Sort.swp d1 i2 (k+1)) (Nat.le_refl _)
   refine ipl_loop _ (i2+1) k (Go.Sort.swp d1 i2 (k+1)) (Nat.le_refl _) (by omega) (by omega) (by omega) (by omega) (fun env M' e0 e1 e13=>?_)
   obtain ⟨p1,p2,_,_,_⟩:=sp
   generalize partLoop ltI a (i2+1) k (Go.Sort.swp d1 i2 (k+1))=r at *
   simp (disch:=omega) only [go_sem,at_i,e0,e1,e13]
  ·by_cases e:t=i2
   ·subst e
    rw [Go.Sort.swp_left _ _ _ (by omega) (by omega),Go.Sort.swp_other _ _ _ _ (by omega) (by omega)]
    have:=k4 (by omega) (by omega)
    simpa using this
   ·rw [Go.Sort.swp_other _ _ _ _ (by omega) (by omega),Go.Sort.swp_other _ _ _ _ (by omega) (by omega)]
    exact h3 t (by omega) (by omega)
  ·rw [Go.Sort.swp_other _ _ _ a (by omega) (by omega)]
   by_cases e:t=k+1
   ·subst e
    rw [Go.Sort.swp_right _ _ _ (by omega)]
    by_cases e2:i2≤b - 1
    ·exact h4 e2
    ·omega
   ·rw [Go.Sort.swp_other _ _ _ _ (by omega) (by omega)]
    have:=k3 t (by omega) (by omega)
    simpa using this
theorem iql_loop {a:Nat} {M:List Mark} {Q:AX→St→Prop}:∀ (n i j:Nat) (d:Array Int),j+1 - i≤n→a<i→i≤j+1→j<d.size→d.size≤1000000 →
  (∀ env M',lk env 9=.int .i64 (((partEqLoop ltI a i j d).1:Nat):Int)→Q (.exit 0) ⟨env,[.row false (ints ((partEqLoop ltI a i j d).2).toList)],1,M'⟩) →
  Ev tab (.loop d1385_b0) (ipqS ((0,1,[0,1,9,10],[(0,0)])::M) a i j d) Q:=by
 intro n
 induction n with
 |zero=>
  intro i j d hn ha hij hj hs hq
  rw [Go.Sort.partEqLoop_eq] at hq
  have h1:=Go.Sort.scanUp_ge (fun x=>!ltI d[a]! x) d j i
  obtain ⟨_,h1',_,_⟩:=Go.Sort.scanUp_spec (fun x=>!ltI d[a]! x) d j _ i rfl
  have h2:=Go.Sort.scanDown_le (fun x=>ltI d[a]! x) d (scanUp (fun x=>!ltI d[a]! x) d j i) j
  rw [if_pos (by omega)] at hq
  refine Ev_stop ?_
  simp (disch:=omega) only [go_sem,at_i,d1385_b0,ipqS]
  refine iqup _ i rfl (by omega) hj (by omega) hs (fun env e0 e1 e12 e13=>?_)
  generalize scanUp (fun x=>!ltI d[a]! x) d j i=i2 at *
  simp (disch:=omega) only [go_sem,at_i,e0,e1,e12,e13]
  refine iqdn (i:=i2) j (by omega) (by omega) hj (by omega) hs (fun env e0 e1 e12 e13=>?_)
  generalize scanDown (fun x=>ltI d[a]! x) d i2 j=j2 at *
  simp (disch:=omega) only [go_sem,at_i,e0,e1,e12,e13]
  exact hq _ _ rfl
 |succ n ih=>
  intro i j d hn ha hij hj hs hq
  rw [Go.Sort.partEqLoop_eq] at hq
  have h1:=Go.Sort.scanUp_ge (fun x=>!ltI d[a]! x) d j i
  obtain ⟨_,h1',_,_⟩:=Go.Sort.scanUp_spec (fun x=>!ltI d[a]! x) d j _ i rfl
  have h2:=Go.Sort.scanDown_le (fun x=>ltI d[a]! x) d (scanUp (fun x=>!ltI d[a]! x) d j i) j
  by_cases hc:scanUp (fun x=>!ltI d[a]! x) d j i > scanDown (fun x=>ltI d[a]! x) d (scanUp (fun x=>!ltI d[a]! x) d j i) j
  ·rw [if_pos hc] at hq
   refine Ev_stop ?_
   simp (disch:=omega) only [go_sem,at_i,d1385_b0,ipqS]
   refine iqup _ i rfl (by omega) hj (by omega) hs (fun env e0 e1 e12 e13=>?_)
   generalize scanUp (fun x=>!ltI d[a]! x) d j i=i2 at *
   simp (disch:=omega) only [go_sem,at_i,e0,e1,e12,e13]
   refine iqdn (i:=i2) j (by omega) (by omega) hj (by omega) hs (fun env e0 e1 e12 e13=>?_)
   generalize scanDown (fun x=>ltI d[a]! x) d i2 j=j2 at *
   simp (disch:=omega) only [go_sem,at_i,e0,e1,e12,e13]
   exact hq _ _ rfl
  ·rw [if_neg hc] at hq
   have hne:scanUp (fun x=>!ltI d[a]! x) d j i≠scanDown (fun x=>ltI d[a]! x) d (scanUp (fun x=>!ltI d[a]! x) d j i) j:=fun e=>by
    have u4:=(Go.Sort.scanUp_spec (fun x=>!ltI d[a]! x) d j _ i rfl).2.2.2 (by omega)
    have v4:=(Go.Sort.scanDown_spec (fun x=>ltI d[a]! x) d (scanUp (fun x=>!ltI d[a]! x) d j i) j).2.2.2 (by omega) (by omega)
    rw [←e] at v4
    (try simp only at u4 v4)
    rw [v4] at u4;cases u4
   refine Ev_step (st':=ipqS ((0,1,[0,1,9,10],[(0,0)])::M) a (scanUp (fun x=>!ltI d[a]! x) d j i+1) (scanDown (fun x=>ltI d[a]! x) d (scanUp (fun x=>!ltI d[a]! x) d j i) j - 1) (Go.Sort.swp d (scanUp (fun x=>!ltI d[a]! x) d j i) (scanDown (fun x=>ltI d[a]! x) d (scanUp (fun x=>!ltI d[a]! x) d j i) j))) ?_ (ih _ _ _ (by omega) (by omega) (by omega) (by rw [size_swp];omega) (by rw [size_swp];exact hs) hq)
   clear hq ih
   simp (disch:=omega) only [go_sem,at_i,d1385_b0,ipqS]
   refine iqup _ i rfl (by omega) hj (by omega) hs (fun env e0 e1 e12 e13=>?_)
   generalize scanUp (fun x=>!ltI d[a]! x) d j i=i2 at *
   simp (disch:=omega) only [go_sem,at_i,e0,e1,e12,e13]
   refine iqdn (i:=i2) j (by omega) (by omega) hj (by omega) hs (fun env e0 e1 e12 e13=>?_)
   generalize scanDown (fun x=>ltI d[a]! x) d i2 j=j2 at *
   obtain ⟨k,rfl⟩:∃ k,j2=k+1:=⟨j2 - 1,by omega⟩
   simp (disch:=omega) only [go_sem,at_i,e0,e1,e12,e13,Nat.add_sub_cancel]
theorem ipeq_run {a b pivot:Nat} {d:Array Int} (ha:a≤pivot) (hp:pivot<b) (hb:b≤d.size) (hs:d.size≤1000000):runP tab 1385 [.own 1 0,.int .i64 (a:Int),.int .i64 (b:Int),.int .i64 (pivot:Int)] [.row false (ints d.toList)] =
  some (.int .i64 ((partitionEqual ltI d a b pivot).1:Int),[.row false (ints ((partitionEqual ltI d a b pivot).2).toList)]):=by
 refine runP_fn t1385 rfl ?_
 have q:(b:Int) - 1=((b - 1:Nat):Int):=by omega
 simp (disch:=omega) only [go_sem,at_i,d1385,q]
 rw [partitionEqual]
 have sz:=size_swp d a pivot
 generalize Go.Sort.swp d a pivot=d1 at *
 refine iql_loop _ (a+1) (b - 1) d1 (Nat.le_refl _) (by omega) (by omega) (by omega) (by omega) (fun env M' e11=>?_)
 generalize partEqLoop ltI a (a+1) (b - 1) d1=r at *
 simp (disch:=omega) only [go_sem,at_i,e11]
open Go.Sort (scanSorted shiftDown shiftUp partialIns partialInsertionSort order2 median medianAdjacent size_swp)
def ipaS (M:List Mark) (a b i s:Nat) (d:Array Int):St:=⟨[(0,.own 1 0),(1,.int .i64 (a:Int)),(2,.int .i64 (b:Int)),(7,.int .i64 (i:Int)),(8,.int .i64 (s:Int))],[.row false (ints d.toList)],1,M⟩
def ipdS (M:List Mark) (a b i s j:Nat) (d:Array Int):St:=⟨[(0,.own 1 0),(1,.int .i64 (a:Int)),(2,.int .i64 (b:Int)),(7,.int .i64 (i:Int)),(8,.int .i64 (s:Int)),(9,.int .i64 (j:Int))],[.row false (ints d.toList)],1,M⟩
def ipuS (M:List Mark) (a b i s j:Nat) (d:Array Int):St:=⟨[(0,.own 1 0),(1,.int .i64 (a:Int)),(2,.int .i64 (b:Int)),(7,.int .i64 (i:Int)),(8,.int .i64 (s:Int)),(10,.int .i64 (j:Int))],[.row false (ints d.toList)],1,M⟩
theorem iss {a b s:Nat} {d:Array Int} {M:List Mark} {Q:AX→St→Prop}:∀ (n k:Nat),b - (k+1)=n→b≤d.size→k+1≤d.size→d.size≤1000000→s≤5 →
  (∀ env,lk env 0=.own 1 0→lk env 1=.int .i64 (a:Int)→lk env 2=.int .i64 (b:Int)→lk env 7=.int .i64 ((scanSorted ltI d b (k+1):Nat):Int)→lk env 8=.int .i64 (s:Int)→Q (.exit 2) ⟨env,[.row false (ints d.toList)],1,(1,1,[0,1,2,7,8],[(0,0)])::M⟩)→Ev tab (.loop d1384_b1) (ipaS ((1,1,[0,1,2,7,8],[(0,0)])::M) a b (k+1) s d) Q
 |0,k,hn,hb,hk,hs,h5,hq=>by
  rw [scanSorted,if_neg (by simp;omega)] at hq
  refine Ev_stop ?_
  simp (disch:=omega) only [go_sem,at_i,d1384_b1,ipaS]
  exact hq _ rfl rfl rfl rfl rfl
 |n+1,k,hn,hb,hk,hs,h5,hq=>by
  cases h:ltI d[k+1]! d[k]! with
  |false=>
   rw [scanSorted,if_pos (by rw [Nat.add_sub_cancel,h];simp;omega)] at hq
   refine Ev_step (st':=ipaS ((1,1,[0,1,2,7,8],[(0,0)])::M) a b (k+1+1) s d) ?_ (iss n (k+1) (by omega) hb (by omega) hs h5 hq)
   simp (disch:=omega) only [go_sem,at_i,d1384_b1,ipaS,h]
  |true=>
   rw [scanSorted,if_neg (by rw [Nat.add_sub_cancel,h];simp)] at hq
   refine Ev_stop ?_
   simp (disch:=omega) only [go_sem,at_i,d1384_b1,ipaS,h]
   exact hq _ rfl rfl rfl rfl rfl
theorem isd_sz:∀ (j:Nat) (d:Array Int),(shiftDown ltI j d).size=d.size
 |0,d=>rfl
 |j+1,d=>by
  rw [shiftDown];split
  ·rfl
  ·rw [isd_sz j,size_swp]
theorem isd {a b i s:Nat} {M:List Mark} {Q:AX→St→Prop}:∀ (j:Nat) (d:Array Int),j<d.size→d.size≤1000000 →
  (∀ env,lk env 0=.own 1 0→lk env 1=.int .i64 (a:Int)→lk env 2=.int .i64 (b:Int)→lk env 7=.int .i64 (i:Int)→lk env 8=.int .i64 (s:Int)→Q (.exit 4) ⟨env,[.row false (ints (shiftDown ltI j d).toList)],1,(2,1,[0,1,2,7,8,9],[(0,0)])::M⟩)→Ev tab (.loop d1384_b2) (ipdS ((2,1,[0,1,2,7,8,9],[(0,0)])::M) a b i s j d) Q
 |0,d,hj,hs,hq=>by
  rw [shiftDown] at hq
  refine Ev_stop ?_
  simp (disch:=omega) only [go_sem,at_i,d1384_b2,ipdS]
  exact hq _ rfl rfl rfl rfl rfl
 |j+1,d,hj,hs,hq=>by
  cases h:ltI d[j+1]! d[j]! with
  |true=>
   rw [shiftDown,h,if_neg (by simp)] at hq
   refine Ev_step (st':=ipdS ((2,1,[0,1,2,7,8,9],[(0,0)])::M) a b i s j (Go.Sort.swp d (j+1) j)) ?_ (isd j _ (by rw [size_swp];omega) (by rw [size_swp];exact hs) hq)
   simp (disch:=omega) only [go_sem,at_i,d1384_b2,ipdS,h]
  |false=>
   rw [shiftDown,h,if_pos (by simp)] at hq
   refine Ev_stop ?_
   simp (disch:=omega) only [go_sem,at_i,d1384_b2,ipdS,h]
   exact hq _ rfl rfl rfl rfl rfl
theorem isu_sz {b:Nat}:∀ (n j:Nat) (d:Array Int),b - j=n→(shiftUp ltI b j d).size=d.size
 |0,j,d,hn=>by rw [shiftUp,if_neg (by omega)]
 |n+1,j,d,hn=>by
  rw [shiftUp,if_pos (by omega)];split
  ·rfl
  ·rw [isu_sz n (j+1) _ (by omega),size_swp]
theorem isu {a b i s:Nat} {M:List Mark} {Q:AX→St→Prop}:∀ (n k:Nat) (d:Array Int),b - (k+1)=n→b≤d.size→k<d.size→d.size≤1000000 →
  (∀ env,lk env 0=.own 1 0→lk env 1=.int .i64 (a:Int)→lk env 2=.int .i64 (b:Int)→lk env 7=.int .i64 (i:Int)→lk env 8=.int .i64 (s:Int)→Q (.exit 6) ⟨env,[.row false (ints (shiftUp ltI b (k+1) d).toList)],1,(3,1,[0,1,2,7,8,10],[(0,0)])::M⟩)→Ev tab (.loop d1384_b3) (ipuS ((3,1,[0,1,2,7,8,10],[(0,0)])::M) a b i s (k+1) d) Q
 |0,k,d,hn,hb,hk,hs,hq=>by
  rw [shiftUp,if_neg (by omega)] at hq
  refine Ev_stop ?_
  simp (disch:=omega) only [go_sem,at_i,d1384_b3,ipuS]
  exact hq _ rfl rfl rfl rfl rfl
 |n+1,k,d,hn,hb,hk,hs,hq=>by
  rw [shiftUp,if_pos (by omega),Nat.add_sub_cancel] at hq
  cases h:ltI d[k+1]! d[k]! with
  |true=>
   rw [h,if_neg (by simp)] at hq
   refine Ev_step (st':=ipuS ((3,1,[0,1,2,7,8,10],[(0,0)])::M) a b i s (k+1+1) (Go.Sort.swp d (k+1) k)) ?_ (isu n (k+1) _ (by omega) (by rw [size_swp];omega) (by rw [size_swp];omega) (by rw [size_swp];exact hs) hq)
   simp (disch:=omega) only [go_sem,at_i,d1384_b3,ipuS,h]
  |false=>
   rw [h,if_pos (by simp)] at hq
   refine Ev_stop ?_
   simp (disch:=omega) only [go_sem,at_i,d1384_b3,ipuS,h]
   exact hq _ rfl rfl rfl rfl rfl
theorem ifd_sz (a i:Nat) (d:Array Int):(Go.Sort.fixDown ltI a i d).size=d.size:=by
 unfold Go.Sort.fixDown;split
 ·exact isd_sz _ _
 ·rfl
theorem ifu_sz (b i:Nat) (d:Array Int):(Go.Sort.fixUp ltI b i d).size=d.size:=by
 unfold Go.Sort.fixUp;split
 ·exact isu_sz _ _ _ rfl
 ·rfl
theorem ipa_loop {a b:Nat} {M:List Mark} {Q:AX→St→Prop}:∀ (s i t:Nat) (d:Array Int),s+t=5→a<i→i≤b→b≤d.size→d.size≤1000000 →
  ((partialIns ltI a b s i d).2=true→∀ env M',lk env 6=.bool true→Q .ret ⟨env,[.row false (ints ((partialIns ltI a b s i d).1).toList)],1,M'⟩) →
  ((partialIns ltI a b s i d).2=false→∀ env M',lk env 6=.bool false→Q .ret ⟨env,[.row false (ints ((partialIns ltI a b s i d).1).toList)],1,M'⟩) →
  ((partialIns ltI a b s i d).2=false→∀ env M',Q (.exit 0) ⟨env,[.row false (ints ((partialIns ltI a b s i d).1).toList)],1,M'⟩) →
  Ev tab (.loop d1384_b0) (ipaS ((0,1,[0,1,2,7,8],[(0,0)])::M) a b i t d) Q
 |0,i,t,d,ht,ha,hi,hb,hs,q1,q2,q3=>by
  refine Ev_stop ?_
  simp (disch:=omega) only [go_sem,at_i,d1384_b0,ipaS]
  exact q3 rfl _ _
 |s+1,i,t,d,ht,ha,hi,hb,hs,q1,q2,q3=>by
  obtain ⟨k,rfl⟩:∃ k,i=k+1:=⟨i - 1,by omega⟩
  rw [Go.Sort.partialIns_succ] at q1 q2 q3
  have hge:k+1≤scanSorted ltI d b (k+1)∧scanSorted ltI d b (k+1)≤b:=by
   have:∀ n i,b - i=n→i≤b→i≤scanSorted ltI d b i∧scanSorted ltI d b i≤b:=by
    intro n
    induction n with
    |zero=>intro i h1 h2;rw [scanSorted,if_neg (by simp;omega)];omega
    |succ n ih=>
     intro i h1 h2
     rw [scanSorted];split
     ·have:=ih (i+1) (by omega) (by omega);omega
     ·omega
   exact this _ _ rfl hi
  by_cases c1:scanSorted ltI d b (k+1)=b
  ·rw [if_pos c1] at q1 q2 q3
   refine Ev_stop ?_
   simp (disch:=omega) only [go_sem,at_i,d1384_b0,ipaS]
   refine iss _ k rfl hb (by omega) hs (by omega) (fun env e0 e1 e2 e9 e10=>?_)
   rw [c1] at e9
   simp (disch:=omega) only [go_sem,at_i,e0,e1,e2,e9,e10]
   exact q1 rfl _ _ rfl
  ·rw [if_neg c1] at q1 q2 q3
   by_cases c2:b - a<50
   ·rw [if_pos c2] at q1 q2 q3
    refine Ev_stop ?_
    simp (disch:=omega) only [go_sem,at_i,d1384_b0,ipaS]
    refine iss _ k rfl hb (by omega) hs (by omega) (fun env e0 e1 e2 e9 e10=>?_)
    generalize scanSorted ltI d b (k+1)=m at *
    simp (disch:=omega) only [go_sem,at_i,e0,e1,e2,e9,e10]
    exact q2 rfl _ _ rfl
   ·rw [if_neg c2] at q1 q2 q3
    refine Ev_step (st':=ipaS ((0,1,[0,1,2,7,8],[(0,0)])::M) a b (scanSorted ltI d b (k+1)) (t+1) (Go.Sort.fixUp ltI b (scanSorted ltI d b (k+1)) (Go.Sort.fixDown ltI a (scanSorted ltI d b (k+1)) (Go.Sort.swp d (scanSorted ltI d b (k+1)) (scanSorted ltI d b (k+1) - 1))))) ?_ (ipa_loop s _ (t+1) _ (by omega) (by omega) (by omega) (by rw [ifu_sz,ifd_sz,size_swp];exact hb) (by rw [ifu_sz,ifd_sz,size_swp];exact hs) q1 q2 q3)
    clear q1 q2 q3
    simp (disch:=omega) only [go_sem,at_i,d1384_b0,ipaS]
    refine iss _ k rfl hb (by omega) hs (by omega) (fun env e0 e1 e2 e9 e10=>?_)
    generalize scanSorted ltI d b (k+1)=m at *
    obtain ⟨l,rfl⟩:∃ l,m=l+1:=⟨m - 1,by omega⟩
    rw [Nat.add_sub_cancel]
    have sz:=size_swp d (l+1) l
    unfold Go.Sort.fixDown
    by_cases c3:l+1 - a ≥ 2
    ·rw [if_pos c3,Nat.add_sub_cancel]
     simp (disch:=omega) only [go_sem,at_i,e0,e1,e2,e9,e10]
     refine isd l _ (by omega) (by omega) (fun env e0 e1 e2 e9 e10=>?_)
     have sz2:=isd_sz l (Go.Sort.swp d (l+1) l)
     generalize shiftDown ltI l (Go.Sort.swp d (l+1) l)=d2 at *
     unfold Go.Sort.fixUp
     by_cases c4:b - (l+1) ≥ 2
     ·rw [if_pos c4]
      simp (disch:=omega) only [go_sem,at_i,e0,e1,e2,e9,e10]
      refine isu _ (l+1) d2 rfl (by omega) (by omega) (by omega) (fun env e0 e1 e2 e9 e10=>?_)
      generalize shiftUp ltI b (l+1+1) d2=d3 at *
      simp (disch:=omega) only [go_sem,at_i,e0,e1,e2,e9,e10]
     ·rw [if_neg c4]
      simp (disch:=omega) only [go_sem,at_i,e0,e1,e2,e9,e10]
    ·rw [if_neg c3]
     unfold Go.Sort.fixUp
     by_cases c4:b - (l+1) ≥ 2
     ·rw [if_pos c4]
      simp (disch:=omega) only [go_sem,at_i,e0,e1,e2,e9,e10]
      refine isu _ (l+1) (Go.Sort.swp d (l+1) l) rfl (by omega) (by omega) (by omega) (fun env e0 e1 e2 e9 e10=>?_)
      generalize shiftUp ltI b (l+1+1) (Go.Sort.swp d (l+1) l)=d3 at *
      simp (disch:=omega) only [go_sem,at_i,e0,e1,e2,e9,e10]
     ·exfalso;omega
theorem ipar_run {a b:Nat} {d:Array Int} (hab:a<b) (hb:b≤d.size) (hs:d.size≤1000000):runP tab 1384 [.own 1 0,.int .i64 (a:Int),.int .i64 (b:Int)] [.row false (ints d.toList)]=some (.bool (partialInsertionSort ltI d a b).2,[.row false (ints ((partialInsertionSort ltI d a b).1).toList)]):=by
 refine runP_fn t1384 rfl ?_
 simp (disch:=omega) only [go_sem,at_i,d1384]
 rw [partialInsertionSort]
 refine ipa_loop 5 (a+1) 0 d rfl (by omega) (by omega) hb hs (fun h env M' e8=>?_) (fun h env M' e8=>?_) (fun h env M'=>?_)
 ·rw [h]
  generalize (partialIns ltI a b 5 (a+1) d).1=d' at *
  simp (disch:=omega) only [go_sem,at_i,e8]
 ·rw [h]
  generalize (partialIns ltI a b 5 (a+1) d).1=d' at *
  simp (disch:=omega) only [go_sem,at_i,e8]
 ·rw [h]
  generalize (partialIns ltI a b 5 (a+1) d).1=d' at *
  simp (disch:=omega) only [go_sem,at_i]
theorem iord_run {a b s:Nat} {d:Array Int} (ha:a<d.size) (hb:b<d.size) (hs:d.size≤1000000) (h12:s≤1000):runP tab 1392 [.sl 1 (ints d.toList),.int .i64 (a:Int),.int .i64 (b:Int),.ref 0 0] [.row false [.int .i64 (s:Int)]] =
  some (.tup [.int .i64 ((order2 ltI d a b s).1:Int),.int .i64 ((order2 ltI d a b s).2.1:Int)],[.row false [.int .i64 ((order2 ltI d a b s).2.2:Int)]]):=by
 refine runP_fn t1392 rfl ?_
 unfold order2
 cases h:ltI d[b]! d[a]! with
 |true=>
  rw [if_pos rfl]
  simp (disch:=omega) only [go_sem,at_i,d1392,h]
 |false=>
  rw [if_neg (by simp)]
  simp (disch:=omega) only [go_sem,at_i,d1392,h]
theorem imed_run {a b c s:Nat} {d:Array Int} (ha:a<d.size) (hb:b<d.size) (hc:c<d.size) (hs:d.size≤1000000) (h12:s≤100):runP tab 1391 [.sl 1 (ints d.toList),.int .i64 (a:Int),.int .i64 (b:Int),.int .i64 (c:Int),.ref 0 0] [.row false [.int .i64 (s:Int)]] =
  some (.int .i64 ((median ltI d a b c s).1:Int),[.row false [.int .i64 ((median ltI d a b c s).2:Int)]]):=by
 refine runP_fn t1391 rfl ?_
 have g1:=iord_run ha hb hs (s:=s) (by omega)
 have m1:=Go.Sort.order2_mem ltI d a b s
 have c1:(order2 ltI d a b s).2.2≤s+1:=by unfold order2;split<;>simp
 rw [median]
 simp only
 generalize order2 ltI d a b s=r1 at *
 obtain ⟨x1,y1,s1⟩:=r1
 simp only at *
 have g2:=iord_run (a:=y1) (b:=c) (s:=s1) (d:=d) (by omega) hc hs (by omega)
 have m2:=Go.Sort.order2_mem ltI d y1 c s1
 have c2:(order2 ltI d y1 c s1).2.2≤s1+1:=by unfold order2;split<;>simp
 generalize order2 ltI d y1 c s1=r2 at *
 obtain ⟨x2,y2,s2⟩:=r2
 simp only at *
 have g3:=iord_run (a:=x1) (b:=x2) (s:=s2) (d:=d) (by omega) (by omega) hs (by omega)
 generalize order2 ltI d x1 x2 s2=r3 at *
 obtain ⟨x3,y3,s3⟩:=r3
 simp only at *
 simp (disch:=omega) only [go_sem,at_i,d1391,g1,g2,g3]
theorem ima_run {a s:Nat} {d:Array Int} (ha:1≤a) (hb:a+1<d.size) (hs:d.size≤1000000) (h12:s≤100):runP tab 1390 [.sl 1 (ints d.toList),.int .i64 (a:Int),.ref 0 0] [.row false [.int .i64 (s:Int)]] =
  some (.int .i64 ((medianAdjacent ltI d a s).1:Int),[.row false [.int .i64 ((medianAdjacent ltI d a s).2:Int)]]):=by
 refine runP_fn t1390 rfl ?_
 have g:=imed_run (a:=a - 1) (b:=a) (c:=a+1) (s:=s) (d:=d) (by omega) (by omega) hb hs h12
 have q1:((a - 1:Nat):Int)=(a:Int) - 1:=by omega
 have q2:((a+1:Nat):Int)=(a:Int)+1:=by omega
 rw [q1,q2] at g
 rw [medianAdjacent]
 simp (disch:=omega) only [go_sem,at_i,d1390,g]
theorem ima_cnt (d:Array Int) (a s:Nat):(medianAdjacent ltI d a s).2≤s+3:=by
 have c:∀ a b s,(order2 ltI d a b s).2.2≤s+1:=fun a b s=>by unfold order2;split<;>simp
 unfold medianAdjacent median
 simp only
 have h1:=c (a - 1) a s
 generalize order2 ltI d (a - 1) a s=r1 at *
 have h2:=c r1.2.1 (a+1) r1.2.2
 generalize order2 ltI d r1.2.1 (a+1) r1.2.2=r2 at *
 have h3:=c r1.1 r2.1 r2.2.2
 omega
theorem ipiv_run {a b:Nat} {d:Array Int} (hab:a<b) (hb:b≤d.size) (hs:d.size≤1000000):∃ p h:Nat,a≤p∧p<b∧h≤2∧runP tab 1382 [.sl 1 (ints d.toList),.int .i64 (a:Int),.int .i64 (b:Int)] []=some (.tup [.int .i64 (p:Int),.int .i64 (h:Int)],[]):=by
 obtain ⟨n,rfl⟩:∃ n,b=a+n:=⟨b - a,by omega⟩
 have q1:((a:Int)+(n:Int)) - (a:Int)=(n:Int):=by omega
 obtain ⟨m,hm⟩:∃ m,m=n / 4:=⟨_,rfl⟩
 have q2:(n:Int).tdiv 4=(m:Int):=by rw [hm];rfl
 have q3:(a:Int)+(m:Int)*1=((a+m*1:Nat):Int):=by omega
 have q4:(a:Int)+(m:Int)*2=((a+m*2:Nat):Int):=by omega
 have q5:(a:Int)+(m:Int)*3=((a+m*3:Nat):Int):=by omega
 have fin:∀ (j s:Nat),∃ h:Nat,h≤2∧(s=0→h=1)∧(s≠0→s=12→h=2)∧(s≠0→s≠12→h=0):=fun j s=>by
  by_cases h0:s=0
  ·exact ⟨1,by omega,fun _=>rfl,fun h=>absurd h0 h,fun h=>absurd h0 h⟩
  ·by_cases h1:s=12
   ·exact ⟨2,by omega,fun h=>absurd h h0,fun _ _=>rfl,fun _ h=>absurd h1 h⟩
   ·exact ⟨0,by omega,fun h=>absurd h h0,fun _ h=>absurd h h1,fun _ _=>rfl⟩
 by_cases h8:n<8
 ·refine ⟨a+m*2,1,by omega,by omega,by omega,?_⟩
  refine runP_fn t1382 rfl ?_
  simp (disch:=omega) only [go_sem,at_i,d1382,q1,q2]
 ·by_cases h50:n<50
  ·have g:=imed_run (a:=a+m*1) (b:=a+m*2) (c:=a+m*3) (s:=0) (d:=d) (by omega) (by omega) (by omega) hs (by omega)
   have mm:=Go.Sort.median_mem ltI d (a+m*1) (a+m*2) (a+m*3) 0
   generalize median ltI d (a+m*1) (a+m*2) (a+m*3) 0=r at *
   obtain ⟨p,s⟩:=r
   simp only at *
   obtain ⟨h,hh,f1,f2,f3⟩:=fin p s
   refine ⟨p,h,by omega,by omega,hh,?_⟩
   refine runP_fn t1382 rfl ?_
   rw [Int.cast_ofNat_Int] at g
   by_cases s0:s=0
   ·subst s0;rw [f1 rfl]
    generalize a+m*1=u1 at *
    generalize a+m*2=u2 at *
    generalize a+m*3=u3 at *
    simp (disch:=omega) only [go_sem,at_i,d1382,q1,q2,q3,q4,q5,g]
   ·by_cases s12:s=12
    ·rw [f2 s0 s12];subst s12
     generalize a+m*1=u1 at *
     generalize a+m*2=u2 at *
     generalize a+m*3=u3 at *
     simp (disch:=omega) only [go_sem,at_i,d1382,q1,q2,q3,q4,q5,g]
    ·rw [f3 s0 s12]
     generalize a+m*1=u1 at *
     generalize a+m*2=u2 at *
     generalize a+m*3=u3 at *
     simp (disch:=omega) only [go_sem,at_i,d1382,q1,q2,q3,q4,q5,g]
  ·have g1:=ima_run (a:=a+m*1) (s:=0) (d:=d) (by omega) (by omega) hs (by omega)
   have m1:=Go.Sort.medianAdjacent_mem ltI d (a+m*1) 0
   have c1:=ima_cnt d (a+m*1) 0
   generalize medianAdjacent ltI d (a+m*1) 0=r1 at *
   obtain ⟨i1,s1⟩:=r1
   simp only at *
   have g2:=ima_run (a:=a+m*2) (s:=s1) (d:=d) (by omega) (by omega) hs (by omega)
   have m2:=Go.Sort.medianAdjacent_mem ltI d (a+m*2) s1
   have c2:=ima_cnt d (a+m*2) s1
   generalize medianAdjacent ltI d (a+m*2) s1=r2 at *
   obtain ⟨i2,s2⟩:=r2
   simp only at *
   have g3:=ima_run (a:=a+m*3) (s:=s2) (d:=d) (by omega) (by omega) hs (by omega)
   have m3:=Go.Sort.medianAdjacent_mem ltI d (a+m*3) s2
   have c3:=ima_cnt d (a+m*3) s2
   generalize medianAdjacent ltI d (a+m*3) s2=r3 at *
   obtain ⟨i3,s3⟩:=r3
   simp only at *
   have g:=imed_run (a:=i1) (b:=i2) (c:=i3) (s:=s3) (d:=d) (by omega) (by omega) (by omega) hs (by omega)
   have mm:=Go.Sort.median_mem ltI d i1 i2 i3 s3
   generalize median ltI d i1 i2 i3 s3=r at *
   obtain ⟨p,s⟩:=r
   simp only at *
   obtain ⟨h,hh,f1,f2,f3⟩:=fin p s
   refine ⟨p,h,by omega,by omega,hh,?_⟩
   refine runP_fn t1382 rfl ?_
   rw [Int.cast_ofNat_Int] at g1
   have w1:a≤i1∧i1<a+n∧a≤i2∧i2<a+n∧a≤i3∧i3<a+n:=by omega
   have w2:a+m*1<a+n∧a+m*2<a+n∧a+m*3<a+n:=by omega
   clear m1 m2 m3 mm
   generalize a+m*1=u1 at *
   generalize a+m*2=u2 at *
   generalize a+m*3=u3 at *
   by_cases s0:s=0
   ·subst s0;rw [f1 rfl]
    simp (disch:=omega) only [go_sem,at_i,d1382,q1,q2,q3,q4,q5,g1,g2,g3,g]
   ·by_cases s12:s=12
    ·rw [f2 s0 s12];subst s12
     simp (disch:=omega) only [go_sem,at_i,d1382,q1,q2,q3,q4,q5,g1,g2,g3,g]
    ·rw [f3 s0 s12]
     simp (disch:=omega) only [go_sem,at_i,d1382,q1,q2,q3,q4,q5,g1,g2,g3,g]
open Go.Sort (insertionSort heapSort partition partitionEqual partialInsertionSort reverseRange size_swp PermIn SortedIn Below)
def ibpS (a L M i:Nat) (X:Int) (d:Array Int):St:=⟨[(0,.own 1 0),(1,.int .i64 (a:Int)),(6,.int .i64 (L:Int)),(7,.ref 1 0),(8,.int .u64 (M:Int)),(9,.int .i64 (i:Int))],[.row false (ints d.toList),.row false [.int .u64 X]],1,[(0,2,[0,1,6,7,8,9],[(0,0),(7,1)])]⟩
theorem ibp_loop {a L m M:Nat} (hm:m=L / 4) (h8:8≤L) (hM1:1≤M) (hM2:M≤2*L):∀ (r i:Nat) (X:Int) (d:Array Int),i+r=a+m*2+2→a≤i→a+L≤d.size→d.size≤60000 →
  ∃ d',PermIn a (a+L) d d'∧∀ Q:AX→St→Prop,(∀ env X',Q (.exit 0) ⟨env,[.row false (ints d'.toList),.row false [.int .u64 X']],1,[(0,2,[0,1,6,7,8,9],[(0,0),(7,1)])]⟩)→Ev tab (.loop d1381_b0) (ibpS a L M i X d) Q
 |0,i,X,d,hi,ha,hb,hs=>by
  refine ⟨d,Go.Sort.permIn_refl _ _ _,fun Q hq=>Ev_stop ?_⟩
  have q2:(L:Int).tdiv 4=(m:Int):=by rw [hm];rfl
  simp (disch:=omega) only [go_sem,at_i,d1381_b0,ibpS,q2]
  exact hq _ _
 |r+1,i,X,d,hi,ha,hb,hs=>by
  obtain ⟨Y,y1,y2,gn⟩:=next_run (X:=X)
  obtain ⟨O,o1,go⟩:=and_run (M:=M) y1 y2 hM1 (by omega)
  have q2:(L:Int).tdiv 4=(m:Int):=by rw [hm];rfl
  by_cases hO:L≤O
  ·obtain ⟨o,rfl⟩:∃ o,O=L+o:=⟨O - L,by omega⟩
   have q3:(L:Int)+(o:Int) - (L:Int)=(o:Int):=by omega
   obtain ⟨d',p1,p2⟩:=ibp_loop (a:=a) hm h8 hM1 hM2 r (i+1) Y (Go.Sort.swp d i (a+o)) (by omega) (by omega) (by rw [size_swp];omega) (by rw [size_swp];exact hs)
   refine ⟨d',Go.Sort.permIn_trans _ _ _ a (a+L) (Go.Sort.swp_permIn d a (a+L) i (a+o) ha (by omega) (by omega) (by omega) hb) p1,fun Q hq=>Ev_step (st':=ibpS a L M (i+1) Y (Go.Sort.swp d i (a+o))) ?_ (p2 Q hq)⟩
   simp (disch:=omega) only [go_sem,at_i,d1381_b0,ibpS,q2,q3,gn,go,wrapu_id]
  ·obtain ⟨d',p1,p2⟩:=ibp_loop (a:=a) hm h8 hM1 hM2 r (i+1) Y (Go.Sort.swp d i (a+O)) (by omega) (by omega) (by rw [size_swp];omega) (by rw [size_swp];exact hs)
   refine ⟨d',Go.Sort.permIn_trans _ _ _ a (a+L) (Go.Sort.swp_permIn d a (a+L) i (a+O) ha (by omega) (by omega) (by omega) hb) p1,fun Q hq=>Ev_step (st':=ibpS a L M (i+1) Y (Go.Sort.swp d i (a+O))) ?_ (p2 Q hq)⟩
   simp (disch:=omega) only [go_sem,at_i,d1381_b0,ibpS,q2,gn,go,wrapu_id]
theorem ibrk_run {a b:Nat} {d:Array Int} (hab:a≤b) (hb:b≤d.size) (hs:d.size≤60000):∃ d',PermIn a b d d'∧runP tab 1381 [.own 1 0,.int .i64 (a:Int),.int .i64 (b:Int)] [.row false (ints d.toList)]=some (.tup [],[.row false (ints d'.toList)]):=by
 obtain ⟨L,rfl⟩:∃ L,b=a+L:=⟨b - a,by omega⟩
 have q1:((a:Int)+(L:Int)) - (a:Int)=(L:Int):=by omega
 by_cases h8:8≤L
 ·obtain ⟨M,m1,m2,gM⟩:=npow_run (n:=L) (by omega) (by omega)
  obtain ⟨m,hm⟩:∃ m,m=L / 4:=⟨_,rfl⟩
  have q2:(L:Int).tdiv 4=(m:Int):=by rw [hm];rfl
  have q3:(a:Int)+(m:Int)*2 - 1=((a+m*2 - 1:Nat):Int):=by omega
  obtain ⟨d',p1,p2⟩:=ibp_loop (a:=a) hm h8 m1 m2 3 (a+m*2 - 1) (L:Int) d (by omega) (by omega) hb hs
  refine ⟨d',p1,?_⟩
  refine runP_fn t1381 rfl ?_
  simp (disch:=omega) only [go_sem,at_i,d1381,q1,q2,q3,gM,wrapu_id]
  refine p2 _ (fun env X'=>?_)
  simp (disch:=omega) only [go_sem,at_i]
 ·refine ⟨d,Go.Sort.permIn_refl _ _ _,?_⟩
  refine runP_fn t1381 rfl ?_
  simp (disch:=omega) only [go_sem,at_i,d1381,q1]
def is5D:Stmt:=(.ghost (.keep [0,1,2,3,8,9,10,11]) (.seq (.seq (.ops true [⟨some 73,.move (.tmp 1),none⟩,⟨some 74,.bin 0 .gtr (.tmp 73) (.val (.int .i64 0)),none⟩,⟨some 75,.move (.tmp 74),none⟩,⟨some 76,.move (.tmp 0),some (75,true)⟩,⟨some 77,.move (.tmp 1),some (75,true)⟩,⟨some 78,.bin 0 .sub (.tmp 77) (.val (.int .i64 1)),some (75,true)⟩,⟨some 79,.indexAddr 1 (.tmp 76) (.tmp 78),some (75,true)⟩,⟨some 80,.load false none (.tmp 79),some (75,true)⟩,⟨some 81,.move (.tmp 0),some (75,true)⟩,⟨some 82,.move (.tmp 11),some (75,true)⟩,⟨some 83,.indexAddr 1 (.tmp 81) (.tmp 82),some (75,true)⟩,⟨some 84,.load false none (.tmp 83),some (75,true)⟩,⟨some 85,.call .quiet 1219 [.tmp 80,.tmp 84],some (75,true)⟩,⟨some 86,.un .not (.tmp 85),some (75,true)⟩,⟨some 87,.pick (.tmp 75) (.tmp 86) (.val (.bool false)),none⟩]) (.ghost (.keep [0,1,2,3,8,9,10,11,87]) (.cond (.tmp 87) (.seq (.ops false [⟨some 88,.move (.tmp 0),none⟩,⟨some 89,.move (.tmp 1),none⟩,⟨some 90,.move (.tmp 2),none⟩,⟨some 91,.move (.tmp 11),none⟩,⟨some 92,.call .mem 1385 [.tmp 88,.tmp 89,.tmp 90,.tmp 91],none⟩,⟨some 13,.move (.tmp 92),none⟩]) (.ghost (.keep [0,2,3,8,9,13]) (.seq (.ops false [⟨some 93,.move (.tmp 13),none⟩,⟨some 1,.move (.tmp 93),none⟩]) (.exit 1)))) .skip))) (.ghost (.keep [0,1,2,3,10,11]) (.seq (.ops false [⟨some 95,.move (.tmp 0),none⟩,⟨some 96,.move (.tmp 1),none⟩,⟨some 97,.move (.tmp 2),none⟩,⟨some 98,.move (.tmp 11),none⟩,⟨some 99,.call .mem 1386 [.tmp 95,.tmp 96,.tmp 97,.tmp 98],none⟩,⟨some 94,.move (.tmp 99),none⟩,⟨some 100,.extract 0 (.tmp 94),none⟩,⟨some 101,.extract 1 (.tmp 94),none⟩,⟨some 14,.move (.tmp 100),none⟩,⟨some 15,.move (.tmp 101),none⟩]) (.ghost (.keep [0,1,2,3,10,14,15]) (.seq (.ops false [⟨some 102,.move (.tmp 15),none⟩,⟨some 9,.move (.tmp 102),none⟩]) (.seq (.ops false [⟨some 103,.move (.tmp 14),none⟩,⟨some 104,.move (.tmp 1),none⟩,⟨some 105,.bin 0 .sub (.tmp 103) (.tmp 104),none⟩,⟨some 106,.move (.tmp 2),none⟩,⟨some 107,.move (.tmp 14),none⟩,⟨some 108,.bin 0 .sub (.tmp 106) (.tmp 107),none⟩,⟨some 16,.move (.tmp 105),none⟩,⟨some 17,.move (.tmp 108),none⟩]) (.ghost (.keep [0,1,2,3,9,10,14,16,17]) (.seq (.ops false [⟨some 109,.move (.tmp 10),none⟩,⟨some 110,.bin 0 .quo (.tmp 109) (.val (.int .i64 8)),none⟩,⟨some 18,.move (.tmp 110),none⟩]) (.seq (.ops false [⟨some 111,.move (.tmp 16),none⟩,⟨some 112,.move (.tmp 17),none⟩,⟨some 113,.bin 0 .lss (.tmp 111) (.tmp 112),none⟩]) (.cond (.tmp 113) (.seq (.ops false [⟨some 114,.move (.tmp 16),none⟩,⟨some 115,.move (.tmp 18),none⟩,⟨some 116,.bin 0 .geq (.tmp 114) (.tmp 115),none⟩,⟨some 8,.move (.tmp 116),none⟩]) (.seq (.ops false [⟨some 117,.move (.tmp 0),none⟩,⟨some 118,.move (.tmp 1),none⟩,⟨some 119,.move (.tmp 14),none⟩,⟨some 120,.move (.tmp 3),none⟩,⟨some 121,.call .mem 1372 [.tmp 117,.tmp 118,.tmp 119,.tmp 120],none⟩]) (.ops false [⟨some 122,.move (.tmp 14),none⟩,⟨some 123,.bin 0 .add (.tmp 122) (.val (.int .i64 1)),none⟩,⟨some 1,.move (.tmp 123),none⟩]))) (.seq (.ops false [⟨some 124,.move (.tmp 17),none⟩,⟨some 125,.move (.tmp 18),none⟩,⟨some 126,.bin 0 .geq (.tmp 124) (.tmp 125),none⟩,⟨some 8,.move (.tmp 126),none⟩]) (.seq (.ops false [⟨some 127,.move (.tmp 0),none⟩,⟨some 128,.move (.tmp 14),none⟩,⟨some 129,.bin 0 .add (.tmp 128) (.val (.int .i64 1)),none⟩,⟨some 130,.move (.tmp 2),none⟩,⟨some 131,.move (.tmp 3),none⟩,⟨some 132,.call .mem 1372 [.tmp 127,.tmp 129,.tmp 130,.tmp 131],none⟩]) (.ghost (.keep [0,1,3,8,9,14]) (.ops false [⟨some 133,.move (.tmp 14),none⟩,⟨some 2,.move (.tmp 133),none⟩])))))))))))))))
theorem ib0_eq:d1372_b0=.after (.block 1 (.seq (.ops false [⟨some 19,.move (.tmp 2),none⟩,⟨some 20,.move (.tmp 1),none⟩,⟨some 21,.bin 0 .sub (.tmp 19) (.tmp 20),none⟩,⟨some 10,.move (.tmp 21),none⟩]) (.seq (.seq (.ops false [⟨some 22,.move (.tmp 10),none⟩,⟨some 23,.bin 0 .leq (.tmp 22) (.val (.int .i64 12)),none⟩]) (.cond (.tmp 23) (.seq (.ops false [⟨some 24,.move (.tmp 0),none⟩,⟨some 25,.move (.tmp 1),none⟩,⟨some 26,.move (.tmp 2),none⟩,⟨some 27,.call .mem 1379 [.tmp 24,.tmp 25,.tmp 26],none⟩]) .ret) .skip)) (.ghost (.keep [0,1,2,3,8,9,10]) (.seq (.seq (.ops false [⟨some 28,.move (.tmp 3),none⟩,⟨some 29,.bin 0 .eql (.tmp 28) (.val (.int .i64 0)),none⟩]) (.cond (.tmp 29) (.seq (.ops false [⟨some 30,.move (.tmp 0),none⟩,⟨some 31,.move (.tmp 1),none⟩,⟨some 32,.move (.tmp 2),none⟩,⟨some 33,.call .mem 1380 [.tmp 30,.tmp 31,.tmp 32],none⟩]) .ret) .skip)) (.ghost (.keep [0,1,2,3,8,9,10]) (.seq (.seq (.ops false [⟨some 34,.move (.tmp 8),none⟩,⟨some 35,.un .not (.tmp 34),none⟩]) (.cond (.tmp 35) (.seq (.ops false [⟨some 36,.move (.tmp 0),none⟩,⟨some 37,.move (.tmp 1),none⟩,⟨some 38,.move (.tmp 2),none⟩,⟨some 39,.call .mem 1381 [.tmp 36,.tmp 37,.tmp 38],none⟩]) (.ops false [⟨some 40,.move (.tmp 3),none⟩,⟨some 41,.bin 0 .sub (.tmp 40) (.val (.int .i64 1)),none⟩,⟨some 3,.move (.tmp 41),none⟩])) .skip)) (.ghost (.keep [0,1,2,3,8,9,10]) (.seq (.ops false [⟨some 43,.move (.tmp 0),none⟩,⟨some 44,.move (.tmp 1),none⟩,⟨some 45,.move (.tmp 2),none⟩,⟨some 46,.call .quiet 1382 [.tmp 43,.tmp 44,.tmp 45],none⟩,⟨some 42,.move (.tmp 46),none⟩,⟨some 47,.extract 0 (.tmp 42),none⟩,⟨some 48,.extract 1 (.tmp 42),none⟩,⟨some 11,.move (.tmp 47),none⟩,⟨some 12,.move (.tmp 48),none⟩]) (.ghost (.keep [0,1,2,3,8,9,10,11,12]) (.seq (.seq (.ops false [⟨some 49,.move (.tmp 12),none⟩,⟨some 50,.bin 0 .eql (.tmp 49) (.val (.int .i64 2)),none⟩]) (.cond (.tmp 50) (.seq (.ops false [⟨some 51,.move (.tmp 0),none⟩,⟨some 52,.move (.tmp 1),none⟩,⟨some 53,.move (.tmp 2),none⟩,⟨some 54,.call .mem 1383 [.tmp 51,.tmp 52,.tmp 53],none⟩]) (.seq (.ops false [⟨some 55,.move (.tmp 2),none⟩,⟨some 56,.bin 0 .sub (.tmp 55) (.val (.int .i64 1)),none⟩,⟨some 57,.move (.tmp 11),none⟩,⟨some 58,.move (.tmp 1),none⟩,⟨some 59,.bin 0 .sub (.tmp 57) (.tmp 58),none⟩,⟨some 60,.bin 0 .sub (.tmp 56) (.tmp 59),none⟩,⟨some 11,.move (.tmp 60),none⟩]) (.ghost (.keep [0,1,2,3,8,9,10,11]) (.ops false [⟨some 12,.move (.val (.int .i64 1)),none⟩])))) .skip)) (.ghost (.keep [0,1,2,3,8,9,10,11,12]) (.seq (.seq (.ops false [⟨some 61,.move (.tmp 8),none⟩,⟨some 62,.move (.tmp 61),none⟩,⟨some 63,.move (.tmp 9),some (62,true)⟩,⟨some 64,.pick (.tmp 62) (.tmp 63) (.val (.bool false)),none⟩,⟨some 65,.move (.tmp 64),none⟩,⟨some 66,.move (.tmp 12),some (65,true)⟩,⟨some 67,.bin 0 .eql (.tmp 66) (.val (.int .i64 1)),some (65,true)⟩,⟨some 68,.pick (.tmp 65) (.tmp 67) (.val (.bool false)),none⟩]) (.ghost (.keep [0,1,2,3,8,9,10,11,68]) (.cond (.tmp 68) (.seq (.ops false [⟨some 69,.move (.tmp 0),none⟩,⟨some 70,.move (.tmp 1),none⟩,⟨some 71,.move (.tmp 2),none⟩,⟨some 72,.call .mem 1384 [.tmp 69,.tmp 70,.tmp 71],none⟩]) (.cond (.tmp 72) .ret .skip)) .skip))) is5D))))))))))))) (.norm 0):=rfl
def ipqM:List Mark:=[(0,1,[0,1,2,3,8,9],[(0,0)])]
def iqsS (a b limit:Nat) (wb wp:Bool) (d:Array Int):St:=⟨[(0,.own 1 0),(1,.int .i64 (a:Int)),(2,.int .i64 (b:Int)),(3,.int .i64 (limit:Int)),(8,.bool wb),(9,.bool wp)],[.row false (ints d.toList)],1,ipqM⟩
def iIH (n:Nat):Prop:=∀ (a b limit:Nat) (d:Array Int),b - a≤n→a≤b→b≤d.size→d.size≤60000→limit≤100→Below ltI a b d→∃ d',PermIn a b d d'∧SortedIn ltI a b d'∧runP tab 1372 [.own 1 0,.int .i64 (a:Int),.int .i64 (b:Int),.int .i64 (limit:Int)] [.row false (ints d.toList)]=some (.tup [],[.row false (ints d'.toList)])
theorem is5 {n a b limit p:Nat} {wb wp:Bool} {d:Array Int} {env:List (Nat × AV)} (IH:iIH n) (hn:b - a≤n+1) (hab:a≤p) (hp:p<b) (hb:b≤d.size) (hs:d.size≤60000) (hl:limit≤100) (hB:Below ltI a b d)
  (e0:lk env 0=.own 1 0) (e1:lk env 1=.int .i64 (a:Int)) (e2:lk env 2=.int .i64 (b:Int)) (e3:lk env 3=.int .i64 (limit:Int)) (e10:lk env 8=.bool wb) (e11:lk env 9=.bool wp) (e12:lk env 10=.int .i64 ((b:Int) - (a:Int))) (e13:lk env 11=.int .i64 (p:Int)):
  ∃ a' b' wb' wp' d4,b' - a'≤n∧a'≤b'∧b'≤d4.size∧d4.size=d.size∧Below ltI a' b' d4∧(∀ R,PermIn a' b' d4 R→SortedIn ltI a' b' R→PermIn a b d R∧SortedIn ltI a b R) ∧
   ∀ Q:AX→St→Prop,(∀ env x,(x=.exit 1∨x=.normal)→lk env 0=.own 1 0→lk env 1=.int .i64 ((a':Nat):Int)→lk env 2=.int .i64 ((b':Nat):Int)→lk env 3=.int .i64 (limit:Int)→lk env 8=.bool wb'→lk env 9=.bool wp'→Q x ⟨env,[.row false (ints d4.toList)],1,ipqM⟩)→Ev tab is5D ⟨env,[.row false (ints d.toList)],1,ipqM⟩ Q:=by
 by_cases hc:a > 0∧ltI d[a - 1]! d[p]! = false
 ·obtain ⟨h0,h1⟩:=hc
  obtain ⟨k,rfl⟩:∃ k,a=k+1:=⟨a - 1,by omega⟩
  rw [Nat.add_sub_cancel] at h1
  have g:=ipeq_run hab hp hb (by omega)
  obtain ⟨r1,r2,r3,r4,r5⟩:=Go.Sort.round_eq ordrI.swo (Go.Sort.partitionEqual_holds ltI) h0 hab hp hb hB (by rw [Nat.add_sub_cancel];exact h1) (mid:=(partitionEqual ltI d (k+1) b p).1) (d4:=(partitionEqual ltI d (k+1) b p).2) rfl
  generalize partitionEqual ltI d (k+1) b p=r at *
  obtain ⟨mid,d4⟩:=r
  simp only at *
  refine ⟨mid,b,wb,wp,d4,by omega,by omega,by omega,r3,r4,r5,fun Q hq=>?_⟩
  rw [Int.natCast_add,Int.cast_ofNat_Int] at g
  simp (disch:=omega) only [go_sem,at_i,is5D,e0,e1,e2,e3,e10,e11,e12,e13,h1,g]
  exact hq _ _ (.inl rfl) rfl rfl rfl rfl rfl rfl
 ·have g:=iprt_run hab hp hb (by omega)
  obtain ⟨r1,r2,r3,r4,r5,r6,r7⟩:=Go.Sort.round_part ordrI.swo (Go.Sort.partition_holds ltI) hab hp hb hB (mid:=(partition ltI d a b p).1) (ap:=(partition ltI d a b p).2.1) (d4:=(partition ltI d a b p).2.2) rfl
  generalize partition ltI d a b p=r at *
  obtain ⟨mid,ap,d4⟩:=r
  simp only at *
  have q8:((b:Int) - (a:Int)).tdiv 8=(((b - a) / 8:Nat):Int):=by rw [show (b:Int) - (a:Int)=((b - a:Nat):Int) by omega];rfl
  by_cases hlr:(mid:Int) - (a:Int)<(b:Int) - (mid:Int)
  ·obtain ⟨L,l1,l2,l3⟩:=IH a mid limit d4 (by omega) r1 (by omega) (by omega) hl r4
   obtain ⟨t1,t2⟩:=r6 L l1 l2
   have lsz:=l1.1
   refine ⟨mid+1,b,decide ((((b - a) / 8:Nat):Int)≤(mid:Int) - (a:Int)),ap,L,by omega,by omega,by omega,by omega,t1,t2,fun Q hq=>?_⟩
   by_cases ha:a > 0
   ·have h1:ltI d[a - 1]! d[p]! = true:=by
     cases h:ltI d[a - 1]! d[p]! with
     |true=>rfl
     |false=>exact absurd ⟨ha,h⟩ hc
    obtain ⟨k,rfl⟩:∃ k,a=k+1:=⟨a - 1,by omega⟩
    rw [Nat.add_sub_cancel] at h1
    rw [Int.natCast_add,Int.cast_ofNat_Int] at g l3 q8
    simp (disch:=omega) only [go_sem,at_i,is5D,e0,e1,e2,e3,e10,e11,e12,e13,h1,g,q8,l3]
    exact hq _ _ (.inr rfl) rfl rfl rfl rfl rfl rfl
   ·simp (disch:=omega) only [go_sem,at_i,is5D,e0,e1,e2,e3,e10,e11,e12,e13,g,q8,l3]
    exact hq _ _ (.inr rfl) rfl rfl rfl rfl rfl rfl
  ·obtain ⟨L,l1,l2,l3⟩:=IH (mid+1) b limit d4 (by omega) (by omega) (by omega) (by omega) hl r5
   obtain ⟨t1,t2⟩:=r7 L l1 l2
   have lsz:=l1.1
   rw [Int.natCast_add,Int.cast_ofNat_Int] at l3
   refine ⟨a,mid,decide ((((b - a) / 8:Nat):Int)≤(b:Int) - (mid:Int)),ap,L,by omega,by omega,by omega,by omega,t1,t2,fun Q hq=>?_⟩
   by_cases ha:a > 0
   ·have h1:ltI d[a - 1]! d[p]! = true:=by
     cases h:ltI d[a - 1]! d[p]! with
     |true=>rfl
     |false=>exact absurd ⟨ha,h⟩ hc
    obtain ⟨k,rfl⟩:∃ k,a=k+1:=⟨a - 1,by omega⟩
    rw [Nat.add_sub_cancel] at h1
    rw [Int.natCast_add,Int.cast_ofNat_Int] at g q8
    simp (disch:=omega) only [go_sem,at_i,is5D,e0,e1,e2,e3,e10,e11,e12,e13,h1,g,q8,l3]
    exact hq _ _ (.inr rfl) rfl rfl rfl rfl rfl rfl
   ·simp (disch:=omega) only [go_sem,at_i,is5D,e0,e1,e2,e3,e10,e11,e12,e13,g,q8,l3]
    exact hq _ _ (.inr rfl) rfl rfl rfl rfl rfl rfl
theorem ihead {a b limit:Nat} {wb wp:Bool} {d:Array Int} (h12:12<b - a) (h0:limit≠0) (hb:b≤d.size) (hs:d.size≤60000) (hl:limit≤100) (hB:Below ltI a b d):
  ∃ d3,PermIn a b d d3∧Below ltI a b d3 ∧
   ((SortedIn ltI a b d3∧∀ Q:AX→St→Prop,(∀ env,Q .ret ⟨env,[.row false (ints d3.toList)],1,ipqM⟩)→Ev tab d1372_b0 (iqsS a b limit wb wp d) Q) ∨
   ∃ p l,a≤p∧p<b∧l≤100∧∀ Q:AX→St→Prop,(∀ env,lk env 0=.own 1 0→lk env 1=.int .i64 (a:Int)→lk env 2=.int .i64 (b:Int)→lk env 3=.int .i64 ((l:Nat):Int)→lk env 8=.bool wb→lk env 9=.bool wp→lk env 10=.int .i64 ((b:Int) - (a:Int))→lk env 11=.int .i64 ((p:Nat):Int) →
     Ev tab is5D ⟨env,[.row false (ints d3.toList)],1,ipqM⟩ (fun x st=>thn (unx 1 x) (gst (ghost (.norm 0) st) (Q .normal)) (Q (unx 1 x) st)))→Ev tab d1372_b0 (iqsS a b limit wb wp d) Q):=by
 have swo:=ordrI.swo
 cases wb with
 |true=>
  have s1:PermIn a b d d:=Go.Sort.permIn_refl _ _ _
  have B1:=hB
  have hb1:=hb
  have hs1:=hs
  obtain ⟨p,h,p1,p2,p3,gp⟩:=ipiv_run (d:=d) (a:=a) (b:=b) (by omega) hb (by omega)
  by_cases hd:h=2
  ·subst hd
   have gr:=irev_run (d:=d) (a:=a) (b:=b) (by omega) hb1 (by omega)
   have s2:PermIn a b d (reverseRange d a b):=Go.Sort.reverseRange_holds _ a b (by omega) hb1
   have B2:=B1.perm hb1 s2
   have hb2:b≤(reverseRange d a b).size:=by rw [s2.1];exact hb1
   have hs2:(reverseRange d a b).size≤60000:=by rw [s2.1];exact hs1
   have sp:=Go.Sort.permIn_trans _ _ _ a b s1 s2
   obtain ⟨p',hp'⟩:∃ p':Nat,((b:Int) - 1) - ((p:Int) - (a:Int))=(p':Int):=⟨(b - 1) - (p - a),by omega⟩
   generalize reverseRange d a b=d2 at *
   rw [Int.cast_ofNat_Int] at gp
   cases wp with
   |false=>
    refine ⟨d2,sp,B2,.inr ⟨p',limit,by omega,by omega,by omega,fun Q hq=>?_⟩⟩
    simp (disch:=omega) only [go_sem,at_i,ib0_eq,iqsS,ipqM,gp,gr,hp']
    exact hq _ rfl rfl rfl rfl rfl rfl rfl rfl
   |true=>
    have ga:=ipar_run (d:=d2) (a:=a) (b:=b) (by omega) hb2 (by omega)
    obtain ⟨s3,s3'⟩:=Go.Sort.partialInsertionSort_holds swo d2 a b (by omega) hb2 B2
    have B3:=B2.perm hb2 s3
    have sq:=Go.Sort.permIn_trans _ _ _ a b sp s3
    generalize partialInsertionSort ltI d2 a b=r at *
    obtain ⟨d3,ok⟩:=r
    simp only at *
    cases ok with
    |true=>
     refine ⟨d3,sq,B3,.inl ⟨s3' rfl,fun Q hq=>?_⟩⟩
     simp (disch:=omega) only [go_sem,at_i,ib0_eq,iqsS,ipqM,gp,gr,hp',ga]
     exact hq _
    |false=>
     refine ⟨d3,sq,B3,.inr ⟨p',limit,by omega,by omega,by omega,fun Q hq=>?_⟩⟩
     simp (disch:=omega) only [go_sem,at_i,ib0_eq,iqsS,ipqM,gp,gr,hp',ga]
     exact hq _ rfl rfl rfl rfl rfl rfl rfl rfl
  ·have hb2:=hb1
   have hs2:=hs1
   have B2:=B1
   have sp:=s1
   have hd':¬ ((h:Int)=2):=by omega
   cases wp with
   |false=>
    refine ⟨d,sp,B2,.inr ⟨p,limit,by omega,by omega,by omega,fun Q hq=>?_⟩⟩
    simp (disch:=omega) only [go_sem,at_i,ib0_eq,iqsS,ipqM,gp,hd']
    exact hq _ rfl rfl rfl rfl rfl rfl rfl rfl
   |true=>
    by_cases h1:h=1
    ·subst h1
     rw [Int.cast_ofNat_Int] at gp hd'
     have ga:=ipar_run (d:=d) (a:=a) (b:=b) (by omega) hb2 (by omega)
     obtain ⟨s3,s3'⟩:=Go.Sort.partialInsertionSort_holds swo d a b (by omega) hb2 B2
     have B3:=B2.perm hb2 s3
     have sq:=Go.Sort.permIn_trans _ _ _ a b sp s3
     generalize partialInsertionSort ltI d a b=r at *
     obtain ⟨d3,ok⟩:=r
     simp only at *
     cases ok with
     |true=>
      refine ⟨d3,sq,B3,.inl ⟨s3' rfl,fun Q hq=>?_⟩⟩
      simp (disch:=omega) only [go_sem,at_i,ib0_eq,iqsS,ipqM,gp,hd',ga]
      exact hq _
     |false=>
      refine ⟨d3,sq,B3,.inr ⟨p,limit,by omega,by omega,by omega,fun Q hq=>?_⟩⟩
      simp (disch:=omega) only [go_sem,at_i,ib0_eq,iqsS,ipqM,gp,hd',ga]
      exact hq _ rfl rfl rfl rfl rfl rfl rfl rfl
    ·have h1':¬ ((h:Int)=1):=by omega
     refine ⟨d,sp,B2,.inr ⟨p,limit,by omega,by omega,by omega,fun Q hq=>?_⟩⟩
     simp (disch:=omega) only [go_sem,at_i,ib0_eq,iqsS,ipqM,gp,hd',h1']
     exact hq _ rfl rfl rfl rfl rfl rfl rfl rfl
 |false=>
  obtain ⟨d1,s1,gb⟩:=ibrk_run (d:=d) (a:=a) (b:=b) (by omega) hb hs
  have B1:=hB.perm hb s1
  have hb1:b≤d1.size:=by rw [s1.1];exact hb
  have hs1:d1.size≤60000:=by rw [s1.1];exact hs
  obtain ⟨p,h,p1,p2,p3,gp⟩:=ipiv_run (d:=d1) (a:=a) (b:=b) (by omega) hb1 (by omega)
  obtain ⟨l,rfl⟩:∃ l,limit=l+1:=⟨limit - 1,by omega⟩
  by_cases hd:h=2
  ·subst hd
   have gr:=irev_run (d:=d1) (a:=a) (b:=b) (by omega) hb1 (by omega)
   have s2:PermIn a b d1 (reverseRange d1 a b):=Go.Sort.reverseRange_holds _ a b (by omega) hb1
   have B2:=B1.perm hb1 s2
   have hb2:b≤(reverseRange d1 a b).size:=by rw [s2.1];exact hb1
   have hs2:(reverseRange d1 a b).size≤60000:=by rw [s2.1];exact hs1
   have sp:=Go.Sort.permIn_trans _ _ _ a b s1 s2
   obtain ⟨p',hp'⟩:∃ p':Nat,((b:Int) - 1) - ((p:Int) - (a:Int))=(p':Int):=⟨(b - 1) - (p - a),by omega⟩
   generalize reverseRange d1 a b=d2 at *
   rw [Int.cast_ofNat_Int] at gp
   refine ⟨d2,sp,B2,.inr ⟨p',l,by omega,by omega,by omega,fun Q hq=>?_⟩⟩
   simp (disch:=omega) only [go_sem,at_i,ib0_eq,iqsS,ipqM,gb,gp,gr,hp']
   exact hq _ rfl rfl rfl rfl rfl rfl rfl rfl
  ·have hb2:=hb1
   have hs2:=hs1
   have B2:=B1
   have sp:=s1
   have hd':¬ ((h:Int)=2):=by omega
   refine ⟨d1,sp,B2,.inr ⟨p,l,by omega,by omega,by omega,fun Q hq=>?_⟩⟩
   simp (disch:=omega) only [go_sem,at_i,ib0_eq,iqsS,ipqM,gb,gp,hd']
   exact hq _ rfl rfl rfl rfl rfl rfl rfl rfl
theorem iqs_loop:∀ (n a b limit:Nat) (wb wp:Bool) (d:Array Int),b - a≤n→a≤b→b≤d.size→d.size≤60000→limit≤100→Below ltI a b d →
  ∃ d',PermIn a b d d'∧SortedIn ltI a b d'∧∀ Q:AX→St→Prop,(∀ env,Q .ret ⟨env,[.row false (ints d'.toList)],1,ipqM⟩)→Ev tab (.loop d1372_b0) (iqsS a b limit wb wp d) Q:=by
 intro n
 induction n with
 |zero=>
  intro a b limit wb wp d hn hab hb hs hl hB
  obtain ⟨i1,i2⟩:=Go.Sort.insertionSort_holds ordrI.swo d a b hab hb
  have g:=iins_run hab hb (by omega)
  refine ⟨_,i1,i2,fun Q hq=>Ev_stop ?_⟩
  generalize insertionSort ltI d a b=d' at *
  simp (disch:=omega) only [go_sem,at_i,ib0_eq,iqsS,ipqM,g]
  exact hq _
 |succ n ih=>
  intro a b limit wb wp d hn hab hb hs hl hB
  by_cases h12:b - a≤12
  ·obtain ⟨i1,i2⟩:=Go.Sort.insertionSort_holds ordrI.swo d a b hab hb
   have g:=iins_run hab hb (by omega)
   refine ⟨_,i1,i2,fun Q hq=>Ev_stop ?_⟩
   generalize insertionSort ltI d a b=d' at *
   simp (disch:=omega) only [go_sem,at_i,ib0_eq,iqsS,ipqM,g]
   exact hq _
  by_cases h0:limit=0
  ·obtain ⟨i1,i2⟩:=Go.Sort.heapSort_holds ordrI.swo d a b hab hb
   have g:=iheap_run hab hb (by omega) (by omega)
   refine ⟨_,i1,i2,fun Q hq=>Ev_stop ?_⟩
   generalize heapSort ltI d a b=d' at *
   subst h0
   simp (disch:=omega) only [go_sem,at_i,ib0_eq,iqsS,ipqM,g]
   exact hq _
  have IH:iIH n:=fun a b limit d h1 h2 h3 h4 h5 h6=>by
   obtain ⟨d',j1,j2,j3⟩:=ih a b limit true true d h1 h2 h3 h4 h5 h6
   refine ⟨d',j1,j2,runP_fn t1372 rfl ?_⟩
   simp (disch:=omega) only [go_sem,at_i,d1372]
   refine j3 _ (fun env=>?_)
   simp (disch:=omega) only [go_sem,at_i,ipqM]
  obtain ⟨d3,s1,B3,h⟩:=ihead (wb:=wb) (wp:=wp) (by omega) h0 hb hs hl hB
  rcases h with ⟨h1,h2⟩ | ⟨p,l,p1,p2,p3,h2⟩
  ·exact ⟨d3,s1,h1,fun Q hq=>Ev_stop (h2 _ fun env=>⟨nofun,hq env⟩)⟩
  ·have hb3:b≤d3.size:=by rw [s1.1];exact hb
   have hs3:d3.size≤60000:=by rw [s1.1];exact hs
   let env0:List (Nat × AV):=[(0,.own 1 0),(1,.int .i64 (a:Int)),(2,.int .i64 (b:Int)),(3,.int .i64 (l:Int)),(8,.bool wb),(9,.bool wp),(10,.int .i64 ((b:Int) - (a:Int))),(11,.int .i64 (p:Int))]
   obtain ⟨a',b',wb',wp',d4,c1,c2,c3,c4,c5,c6,c7⟩:=is5 (env:=env0) IH hn p1 p2 hb3 hs3 p3 B3 rfl rfl rfl rfl rfl rfl rfl rfl
   obtain ⟨d',j1,j2,j3⟩:=ih a' b' l wb' wp' d4 c1 c2 c3 (by omega) p3 c5
   obtain ⟨k1,k2⟩:=c6 d' j1 j2
   refine ⟨d',Go.Sort.permIn_trans _ _ _ a b s1 k1,k2,fun Q hq=>Ev_step (st':=iqsS a' b' l wb' wp' d4) (h2 _ fun env e0 e1 e2 e3 e10 e11 e12 e13=>?_) (j3 Q hq)⟩
   have hk:∀ Q',Ev tab is5D ⟨env0,[.row false (ints d3.toList)],1,ipqM⟩ Q'→Ev tab is5D ⟨env,[.row false (ints d3.toList)],1,ipqM⟩ Q':=fun Q' h=>by
    unfold is5D at h ⊢
    rw [Ev_ghost,ghost_keep] at h ⊢
    simp only [keepEnv_cons,keepEnv_nil,e0,e1,e2,e3,e10,e11,e12,e13]
    exact h
   refine hk _ (c7 _ fun env x hx f0 f1 f2 f3 f10 f11=>?_)
   rcases hx with rfl | rfl<;>simp (disch:=omega) only [go_sem,at_i,iqsS,ipqM,f0,f1,f2,f3,f10,f11]
theorem isf_run {l:List Int} (hl:l.length≤60000):runP tab 1358 [.own 1 0] [.row false (ints (l.toArray).toList)]=some (.tup [],[.row false (ints ((sorted ltI l).toArray).toList)]):=by
 refine runP_fn t1358 rfl ?_
 obtain ⟨k,k1,_,gk⟩:=len_run (n:=l.toArray.size) (by simp;omega)
 obtain ⟨d',j1,j2,j3⟩:=iqs_loop _ 0 l.toArray.size k true true l.toArray (Nat.le_refl _) (Nat.zero_le _) (Nat.le_refl _) (by simpa using hl) (by omega) (.inl rfl)
 have e:d'=(sorted ltI l).toArray:=by
  rw [←Array.toList_inj,sorted_uni ordrI j1 j2]
 subst e
 have gq:runP tab 1372 [.own 1 0,.int .i64 0,.int .i64 ((l.toArray.size:Nat):Int),.int .i64 (k:Int)] [.row false (ints (l.toArray).toList)]=some (.tup [],[.row false (ints ((sorted ltI l).toArray).toList)]):=by
  refine runP_fn t1372 rfl ?_
  rw [show (0:Int)=((0:Nat):Int) from rfl]
  simp (disch:=omega) only [go_sem,at_i,d1372]
  refine j3 _ (fun env=>?_)
  simp (disch:=omega) only [go_sem,at_i,ipqM]
 have hsz:l.toArray.size≤60000:=by simpa using hl
 generalize (sorted ltI l).toArray=d' at *
 generalize l.toArray=d at *
 simp (disch:=omega) only [go_sem,at_i,d1358,wrapu_id,gk,gq]
end Go.Proofs.Ytfbfbennheeglaa
