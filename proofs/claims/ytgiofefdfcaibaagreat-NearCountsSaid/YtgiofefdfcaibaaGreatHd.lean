import Derived.Test.YtgiofefdfcaibaaGreatSh
import Derived.Test.YtgiofefdfcaibaaGreatHq
namespace Go.Proofs.YtgiofefdfcaibaaGreat
set_option linter.unusedSimpArgs false
set_option linter.unusedVariables false
set_option maxHeartbeats 4000000
set_option maxRecDepth 100000
open Go.Sort (size_swp)
theorem prs_take_h (l:List Ed) (i:Nat):(prs l).take (i*2)=prs (l.take i):=by
 induction i generalizing l with
 |zero=>simp [prs]
 |succ i ih=>cases l with
  |nil=>simp [prs]
  |cons r l=>rw [prs_cons,show (i+1)*2=i*2+1+1 by omega,List.take_succ_cons,List.take_succ_cons,ih l,List.take_succ_cons,prs_cons]
theorem lk_nil (s:Nat):lk [] s=.unk:=rfl
attribute [go_sem] lk_nil
theorem hlen_n (l:List Ed):runP tab 1694 [.sl 2 (prs l)] []=some (.int .i64 (l.length:Int),[]):=by
 refine runP_fn t1694 rfl ?_
 simp (disch:=omega) only [go_sem,d1694]
theorem hless_n {d:Array Ed} {i j:Nat} (hi:i<d.size) (hj:j<d.size):runP tab 1695 [.sl 2 (prs d.toList),.int .i64 (i:Int),.int .i64 (j:Int)] []=some (.bool (ltH d[i]! d[j]!),[]):=by
 refine runP_fn t1695 rfl ?_
 simp (disch:=omega) only [go_sem,at_e,arr_len,d1695,hits_run,ordh_lt]
theorem hswp_n {d:Array Ed} {i j:Nat} (hi:i<d.size) (hj:j<d.size):runP tab 1697 [.own 2 0,.int .i64 (i:Int),.int .i64 (j:Int)] [.row false (prs d.toList)]=some (.tup [],[.row false (prs (Go.Sort.swp d i j).toList)]):=by
 refine runP_fn t1697 rfl ?_
 simp (disch:=omega) only [go_sem,at_e,arr_len,swp_e,d1697]
theorem arr_take_n (d:Array Ed):(prs d.toList).take ((d.size - 1)*2)=prs d.pop.toList:=by rw [prs_take_h];simp [List.dropLast_eq_take]
theorem hpop_n {d:Array Ed} (h:0<d.size) (hs:d.size≤1000000):runP tab 1696 [.ref 0 0] [.row false [.vec 2 (prs d.toList)]]=some (.ifc 35 (.agg [.int .i64 d[d.size - 1]!.1,.int .i64 d[d.size - 1]!.2]),[.row false [.vec 2 (prs d.pop.toList)]]):=by
 refine runP_fn t1696 rfl ?_
 have e:((d.size:Int) - 1)=((d.size - 1:Nat):Int):=by omega
 simp (disch:=omega) only [go_sem,at_e,arr_len,e,arr_take_n,d1696]
def hdS_n (i0 n i:Nat) (d:Array Ed):St:=⟨[(0,.ifc 52 (.ref 0 0)),(1,.int .i64 (i0:Int)),(2,.int .i64 (n:Int)),(7,.int .i64 (i:Int))],[.row false [.vec 2 (prs d.toList)]],1,[(0,1,[0,1,2,7],[])]⟩
theorem hdn_loop_n {i0 n:Nat} {Q:AX→St→Prop}:∀ (k i:Nat) (d:Array Ed),n - i=k→n≤d.size→d.size≤1000000→i≤1000000 →
  (∀ env hp,lk env 1=.int .i64 (i0:Int)→lk env 7=.int .i64 ((dn ltH n d i).2:Int)→(hp=[.row false [.vec 2 (prs (dn ltH n d i).1.toList)]]∨hp=[.row false [.own 2 1],.row false (prs (dn ltH n d i).1.toList)])→Q (.exit 0) ⟨env,hp,1,[(0,1,[0,1,2,7],[])]⟩)→Ev tab (.loop d1213_b0) (hdS_n i0 n i d) Q:=by
 intro k
 induction k using Nat.strongRecOn with
 |_ k ih=>
  intro i d hk hn hs hi hq
  rw [dn] at hq
  by_cases h1:2*i+1<n
  ·rw [if_pos h1] at hq
   have hkc:=kid_cases ltH n d i h1
   have g0:∀ c,c<n→runP tab 1695 [.sl 2 (prs d.toList),.int .i64 (c:Int),.int .i64 (i:Int)] []=some (.bool (ltH d[c]! d[i]!),[]):=fun c hc=>hless_n (by omega) (by omega)
   have s0:∀ c,c<n→runP tab 1697 [.own 2 0,.int .i64 (i:Int),.int .i64 (c:Int)] [.row false (prs d.toList)]=some (.tup [],[.row false (prs (Go.Sort.swp d i c).toList)]):=fun c hc=>hswp_n (by omega) (by omega)
   by_cases h2:2*i+2<n
   ·have g1:=hless_n (d:=d) (i:=2*i+2) (j:=2*i+1) (by omega) (by omega)
    rw [show ((2*i+2:Nat):Int)=2*(i:Int)+2 by omega,show ((2*i+1:Nat):Int)=2*(i:Int)+1 by omega] at g1
    cases h3:ltH d[2*i+2]! d[2*i+1]! with
    |true=>
     have hkd:kid ltH n d i=2*i+2:=by unfold kid;rw [if_pos ⟨h2,h3⟩]
     rw [hkd] at hq
     rw [h3] at g1
     have g2:=g0 (2*i+2) h2
     rw [show ((2*i+2:Nat):Int)=2*(i:Int)+2 by omega] at g2
     cases h4:ltH d[2*i+2]! d[i]! with
     |true=>
      rw [h4] at g2
      rw [if_pos h4] at hq
      have g3:=s0 (2*i+2) h2
      rw [show ((2*i+2:Nat):Int)=2*(i:Int)+2 by omega] at g3
      refine Ev_step (st':=hdS_n i0 n (2*i+2) (Go.Sort.swp d i (2*i+2))) ?_ (ih (n - (2*i+2)) (by omega) _ _ rfl (by rw [size_swp];exact hn) (by rw [size_swp];exact hs) (by omega) hq)
      simp (disch:=omega) only [go_sem,d1213_b0,hdS_n,g1,g2,g3,tnE,arr_len,show ((2*i+2:Nat):Int)=2*(i:Int)+2 by omega]
     |false=>
      rw [h4] at g2
      rw [if_neg (by rw [h4];simp)] at hq
      refine Ev_stop ?_
      simp (disch:=omega) only [go_sem,d1213_b0,hdS_n,tnE,g1,g2]
      exact hq _ _ rfl rfl (.inr rfl)
    |false=>
     have hkd:kid ltH n d i=2*i+1:=by unfold kid;rw [if_neg (by rw [h3];simp)]
     rw [hkd] at hq
     rw [h3] at g1
     have g2:=g0 (2*i+1) h1
     rw [show ((2*i+1:Nat):Int)=2*(i:Int)+1 by omega] at g2
     cases h4:ltH d[2*i+1]! d[i]! with
     |true=>
      rw [h4] at g2
      rw [if_pos h4] at hq
      have g3:=s0 (2*i+1) h1
      rw [show ((2*i+1:Nat):Int)=2*(i:Int)+1 by omega] at g3
      refine Ev_step (st':=hdS_n i0 n (2*i+1) (Go.Sort.swp d i (2*i+1))) ?_ (ih (n - (2*i+1)) (by omega) _ _ rfl (by rw [size_swp];exact hn) (by rw [size_swp];exact hs) (by omega) hq)
      simp (disch:=omega) only [go_sem,d1213_b0,hdS_n,g1,g2,g3,tnE,arr_len,show ((2*i+1:Nat):Int)=2*(i:Int)+1 by omega]
     |false=>
      rw [h4] at g2
      rw [if_neg (by rw [h4];simp)] at hq
      refine Ev_stop ?_
      simp (disch:=omega) only [go_sem,d1213_b0,hdS_n,tnE,g1,g2]
      exact hq _ _ rfl rfl (.inr rfl)
   ·have hkd:kid ltH n d i=2*i+1:=by unfold kid;rw [if_neg (fun h=>h2 h.1)]
    rw [hkd] at hq
    have g2:=g0 (2*i+1) h1
    rw [show ((2*i+1:Nat):Int)=2*(i:Int)+1 by omega] at g2
    cases h4:ltH d[2*i+1]! d[i]! with
    |true=>
     rw [h4] at g2
     rw [if_pos h4] at hq
     have g3:=s0 (2*i+1) h1
     rw [show ((2*i+1:Nat):Int)=2*(i:Int)+1 by omega] at g3
     refine Ev_step (st':=hdS_n i0 n (2*i+1) (Go.Sort.swp d i (2*i+1))) ?_ (ih (n - (2*i+1)) (by omega) _ _ rfl (by rw [size_swp];exact hn) (by rw [size_swp];exact hs) (by omega) hq)
     simp (disch:=omega) only [go_sem,d1213_b0,hdS_n,g2,g3,tnE,arr_len,show ((2*i+1:Nat):Int)=2*(i:Int)+1 by omega]
    |false=>
     rw [h4] at g2
     rw [if_neg (by rw [h4];simp)] at hq
     refine Ev_stop ?_
     simp (disch:=omega) only [go_sem,d1213_b0,hdS_n,tnE,g2]
     exact hq _ _ rfl rfl (.inr rfl)
  ·rw [if_neg h1] at hq
   refine Ev_stop ?_
   simp (disch:=omega) only [go_sem,d1213_b0,hdS_n]
   exact hq _ _ rfl rfl (.inl rfl)
theorem hdown_n {n i:Nat} {d:Array Ed} (hn:n≤d.size) (hs:d.size≤1000000) (hi:i≤1000000):runP tab 1213 [.ifc 52 (.ref 0 0),.int .i64 (i:Int),.int .i64 (n:Int)] [.row false [.vec 2 (prs d.toList)]]=some (.bool (decide ((i:Int)<((dn ltH n d i).2:Int))),[.row false [.vec 2 (prs (dn ltH n d i).1.toList)]]):=by
 refine runP_fn t1213 rfl ?_
 simp (disch:=omega) only [go_sem,d1213]
 refine hdn_loop_n (i0:=i) _ i d rfl hn hs hi (fun env hp h1 h7 hh=>?_)
 rcases hh with rfl | rfl<;>simp (disch:=omega) only [go_sem,h1,h7]
def hiS_n (n:Nat) (k:Int) (d:Array Ed):St:=⟨[(0,.ifc 52 (.ref 0 0)),(2,.int .i64 (n:Int)),(3,.int .i64 k)],[.row false [.vec 2 (prs d.toList)]],1,[(0,1,[0,2,3],[]),(7,1,[0,2],[])]⟩
theorem hin_loop_n {n:Nat} {Q:AX→St→Prop}:∀ (k:Nat) (d:Array Ed),n≤d.size→d.size≤1000000→k≤1000000 →
  (Ev tab d1203_b0 (hiS_n n (-1) (hpInit ltH n k d)) (fun x st=>x≠.normal∧Q x st))→Ev tab (.loop d1203_b0) (hiS_n n ((k:Int) - 1) d) Q
 |0,d,hn,hs,hk,hq=>Ev_stop hq
 |k+1,d,hn,hs,hk,hq=>by
  refine Ev_step (st':=hiS_n n ((k:Int) - 1) (dn ltH n d k).1) ?_ (hin_loop_n k _ (by rw [dn_size];exact hn) (by rw [dn_size];exact hs) (by omega) hq)
  have g:=hdown_n (i:=k) hn hs (by omega)
  generalize dn ltH n d k=d' at *
  simp (disch:=omega) only [go_sem,Int.add_sub_cancel,d1203_b0,hiS_n,g]
theorem hinit_n {d:Array Ed} (hs:d.size≤1000000):runP tab 1203 [.ifc 52 (.ref 0 0)] [.row false [.vec 2 (prs d.toList)]]=some (.tup [],[.row false [.vec 2 (prs (hpInit ltH d.size (d.size / 2) d).toList)]]):=by
 refine runP_fn t1203 rfl ?_
 have e:((d.size:Int)).tdiv 2=((d.size / 2:Nat):Int):=rfl
 simp (disch:=omega) only [go_sem,d1203,hlen_n,arr_len,e]
 refine hin_loop_n (n:=d.size) (d.size / 2) d (Nat.le_refl _) hs (by omega) ?_
 have hz:(hpInit ltH d.size (d.size / 2) d).size=d.size:=hpInit_size _ _ _
 generalize hpInit ltH d.size (d.size / 2) d=q at *
 simp (disch:=omega) only [go_sem,d1203_b0,hiS_n]
theorem hpopf_n {d:Array Ed} (h0:0<d.size) (hs:d.size≤1000000):runP tab 1204 [.ifc 52 (.ref 0 0)] [.row false [.vec 2 (prs d.toList)]]=some (.ifc 35 (.agg [.int .i64 d[0]!.1,.int .i64 d[0]!.2]),[.row false [.vec 2 (prs (hpPop ltH d).toList)]]):=by
 refine runP_fn t1204 rfl ?_
 have e:((d.size:Int) - 1)=((d.size - 1:Nat):Int):=by omega
 have g1:=hswp_n (d:=d) (i:=0) (j:=d.size - 1) h0 (by omega)
 have g2:=hdown_n (n:=d.size - 1) (i:=0) (d:=Go.Sort.swp d 0 (d.size - 1)) (by rw [size_swp];omega) (by rw [size_swp];exact hs) (by omega)
 have g3:=hpop_n (d:=(dn ltH (d.size - 1) (Go.Sort.swp d 0 (d.size - 1)) 0).1) (by rw [dn_size,size_swp];exact h0) (by rw [dn_size,size_swp];exact hs)
 rw [dn_size,size_swp,hpPop_last h0] at g3
 simp only [Int.cast_ofNat_Int] at g1 g2
 unfold hpPop
 generalize hq:dn ltH (d.size - 1) (Go.Sort.swp d 0 (d.size - 1)) 0=q at *
 simp (disch:=omega) only [go_sem,d1204,hlen_n,arr_len,e,g1,g2,g3]
end Go.Proofs.YtgiofefdfcaibaaGreat
