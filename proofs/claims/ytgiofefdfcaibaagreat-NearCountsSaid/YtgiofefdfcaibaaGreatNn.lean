import Derived.Test.YtgiofefdfcaibaaGreatNj
namespace Go.Proofs.YtgiofefdfcaibaaGreat
set_option linter.unusedSimpArgs false
set_option linter.unusedVariables false
set_option maxHeartbeats 4000000
set_option maxRecDepth 100000
theorem prs_nilN':prs []=[]:=rfl
theorem dput_run {l:List Ed} {x:Ed} (hl:l.length≤60000):runP tab 1704 [.sl 2 (prs l),htA x] []=some (.vec 2 (prs (insO ltH l x)),[]):=by
 refine runP_fn t1704 rfl ?_
 have hu:=upO_le (lt:=ltH) l x
 simp (disch:=omega) only [go_sem,htA,d1704]
 refine Ev_loop0 (fun i=>⟨[(0,.sl 2 (prs l)),(3,.ref 0 0),(5,.int .i64 (i:Int))],[.row false [.int .i64 x.1,.int .i64 x.2]],0,[(0,1,[0,3,5],[(3,0)])]⟩) (upO ltH l x) rfl (fun i hi=>?_) ?_
 ·have h1:=upO_before (lt:=ltH) hi
  have g:=aheadN_run (a:=x) (b:=l.getD i default)
  rw [h1] at g
  simp only [htA] at g
  simp (disch:=omega) only [go_sem,d1704_b0,prs_at,g]
 ·unfold insO
  have e1:(l.take (upO ltH l x)).length=upO ltH l x:=by rw [List.length_take];omega
  have e2:(l.drop (upO ltH l x)).length=l.length - upO ltH l x:=List.length_drop
  by_cases h:upO ltH l x<l.length
  ·have h1:=upO_at h
   have g:=aheadN_run (a:=x) (b:=l.getD (upO ltH l x) default)
   rw [h1] at g
   simp only [htA] at g
   generalize upO ltH l x=p at *
   simp (disch:=omega) only [go_sem,d1704_b0,prs_at,g,prs_snoc,prs_take_h,prs_drop,prs_app,e1,e2,List.length_append]
   rw [List.append_assoc];rfl
  ·generalize upO ltH l x=p at *
   simp (disch:=omega) only [go_sem,d1704_b0,prs_snoc,prs_take_h,prs_drop,prs_app,e1,e2]
   first | (rw [List.append_assoc];rfl) | skip
theorem dputs_len (r:Rw) (s rad:Int) (l:List Int):(l.foldl (dput r s rad) []).length≤l.length:=by
 rw [dput_all,sorted_len]
 exact Nat.le_trans (hitF_len ..) (plcs_len ..)
theorem rhits_run {r:Rw} {P:List Po} {s:Int} {ws:List Txt} {rad:Int} (hr:okR r) (hP:okP P) (hw:ws.length≤1000):runP tab 1701 [.agg (rwS r),.sl 2 (poS P),.int .i64 s,.sl 1 (strs ws),.int .i64 rad] []=some (htT r P s ws rad,[]):=by
 refine runP_fn t1701 rfl ?_
 have gl:=rlevels_run (s:=s) (b:=false) hr
 have ga:=qall_run hP (ws:=ws) (by omega)
 simp only [rwS] at gl
 unfold htT
 rcases ern_cases r s ws rad with ⟨e,h1⟩ | ⟨e,h1,h2⟩ | ⟨e,h1,h2,h3,h4⟩
 ·rw [e,if_neg (by decide)]
  rw [lvT_no h1] at gl
  simp (disch:=omega) only [go_sem,d1701,rwS,gl,prs_nilN']
 ·rw [e,if_neg (by decide)]
  by_cases h3:0≤s∧s<plc r
  ·rw [lvT_yes h1 h3] at gl
   have ll:=ints_length (levs (nbr r false) s (plc r))
   have la:=ints_length (allP P ws)
   generalize levs (nbr r false) s (plc r)=V at *
   generalize allP P ws=A at *
   by_cases h5:ws=[]
   ·rw [if_pos h5] at ga
    simp (disch:=omega) only [go_sem,d1701,rwS,gl,ga,prs_nilN']
   ·rw [if_neg h5] at ga
    have h6:rad<0:=(h2.resolve_left h5).resolve_right (fun q=>q h3)
    simp (disch:=omega) only [go_sem,d1701,rwS,gl,ga,prs_nilN']
  ·rw [lvT_far h1 h3] at gl
   simp (disch:=omega) only [go_sem,d1701,rwS,gl,prs_nilN']
 ·rw [e,if_pos rfl,hitsL,←dput_all]
  rw [lvT_yes h1 h4] at gl
  rw [if_neg h2] at ga
  have hl:=allP_len hP ws
  have ll:=levs_len (nbr r false) s (plc r)
  have hat:=fun (v:Int) (q1:0≤v) (q2:v<plc r)=>levs_at (nb:=nbr r false) (s:=s) q1 q2
  have hpl:=plc_small hr
  generalize allP P ws=A at *
  have La:=ints_length A
  generalize levs (nbr r false) s (plc r)=V at *
  have Lv:=ints_length V
  simp (disch:=omega) only [go_sem,d1701,rwS,gl,ga]
  refine Ev_loop0 (fun i=>⟨[(4,.int .i64 rad),(12,.own 1 1),(14,.own 1 2),(16,.own 2 3),(17,.int .i64 (i:Int))],[.row false (rwS r),.row false (ints V),.row false (ints A),.row false (prs ((A.take i).foldl (dput r s rad) []))],0,[(0,4,[4,12,14,16,17],[(12,1),(14,2),(16,3)])]⟩) A.length (by simp [rwS,prs]) (fun i hi=>?_) ?_
  ·have e1:=ints_rdc0 hi
   have ef:(A.take (i+1)).foldl (dput r s rad) []=dput r s rad ((A.take i).foldl (dput r s rad) []) (A.getD i 0):=foldl_snoc _ 0 hi []
   have lo:=dputs_len r s rad (A.take i)
   rw [List.length_take] at lo
   rw [ef]
   have hq:=hat (A.getD i 0)
   generalize (A.take i).foldl (dput r s rad) []=O at *
   generalize A.getD i 0=v at *
   have Lo:=prs_len O
   by_cases c1:0≤v
   ·by_cases c2:v<plc r
    ·have hv:=hq c1 c2
     obtain ⟨v,rfl⟩:∃ n:Nat,v=n:=⟨v.toNat,by omega⟩
     rw [Int.toNat_natCast] at hv
     have e2:=ints_rdc0 (l:=V) (i:=v) (by omega)
     have e3:V.getD v 0=gi V v:=rfl
     rw [e3,hv] at e2
     by_cases c3:0≤lev (nbr r false) s v
     ·by_cases c4:lev (nbr r false) s v≤rad
      ·rw [dput,if_pos ⟨⟨c1,c2⟩,c3,c4⟩]
       have g:=dput_run (l:=O) (x:=((v:Int),lev (nbr r false) s v)) (by omega)
       simp only [htA] at g
       simp (disch:=omega) only [go_sem,d1701_b0,rwS,La,Lv,ll,e1,e2,g]
      ·rw [dput,if_neg (fun h=>c4 h.2.2)]
       simp (disch:=omega) only [go_sem,d1701_b0,rwS,La,Lv,ll,e1,e2]
     ·rw [dput,if_neg (fun h=>c3 h.2.1)]
      simp (disch:=omega) only [go_sem,d1701_b0,rwS,La,Lv,ll,e1,e2]
    ·rw [dput,if_neg (fun h=>c2 h.1.2)]
     simp (disch:=omega) only [go_sem,d1701_b0,rwS,La,Lv,ll,e1]
   ·rw [dput,if_neg (fun h=>c1 h.1.1)]
    simp (disch:=omega) only [go_sem,d1701_b0,rwS,La,Lv,ll,e1]
  ·rw [List.take_length]
   simp (disch:=omega) only [go_sem,d1701_b0,rwS,La]
theorem rfirst_run {r:Rw} {P:List Po} {s:Int} {ws:List Txt} (hr:okR r) (hP:okP P) (hw:ws.length≤1000):runP tab 1702 [.agg (rwS r),.sl 2 (poS P),.int .i64 s,.sl 1 (strs ws)] []=some (fsT r P s ws,[]):=by
 refine runP_fn t1702 rfl ?_
 have g:=rhits_run (s:=s) (rad:=200) hr hP hw
 unfold htT at g
 unfold fsT
 simp only [rwS] at g
 have hl:(hitsL r P s ws 200).length≤1000:=Nat.le_trans (hitsL_len ..) (allP_len hP ws)
 by_cases he:ern r s ws 200=0
 ·rw [he,if_pos rfl] at g
  rw [he,if_pos rfl]
  generalize hitsL r P s ws 200=A at *
  have La:=prs_len A
  cases A with
  |nil=>
   simp (disch:=omega) only [go_sem,d1702,rwS,g,prs_nilN']
   rfl
  |cons x A=>
   rw [decide_eq_true (show (0:Int)=0∧x::A≠[] from ⟨rfl,by simp⟩)]
   have e:=prs_at (l:=x::A) (i:=0) (by simp)
   rw [List.drop_zero] at e
   rw [List.length_cons] at La hl
   have La2:(prs (x::A)).length / 2=A.length+1:=by omega
   generalize hB:x::A=B at *
   simp (disch:=omega) only [go_sem,d1702,rwS,g,e,La]
 ·rw [if_neg he] at g
  rw [if_neg he,decide_eq_false (fun h=>he h.1)]
  simp (disch:=omega) only [go_sem,d1702,rwS,g,he,prs_nilN']
  rfl
theorem hits_cnt {r:Rw} {P:List Po} {ws:List Txt} {rad:Int} (ok:r.ok) {v:Nat} (hv:v<plc r):((hitsL r P v ws rad).length:Int)=gi (cntL r rad (plcs r (allP P ws))) v:=by
 rw [cntL_at hv]
 unfold hitsL hitF
 rw [sorted_len,List.length_map]
 congr 2
 refine List.filter_congr fun w hw=>?_
 have hp:=(plcs_mem.1 hw).2
 obtain ⟨w,rfl⟩:∃ n:Nat,w=n:=⟨w.toNat,by omega⟩
 rw [nbr_rev ok hv (by omega)]
theorem rcount_run {r:Rw} {P:List Po} {ws:List Txt} {rad:Int} (hr:okR r) (hP:okP P) (hw:ws.length≤1000):runP tab 1703 [.agg (rwS r),.sl 2 (poS P),.sl 1 (strs ws),.int .i64 rad] []=some (ctT r P ws rad,[]):=by
 refine runP_fn t1703 rfl ?_
 have gc:=rcheck_run hr
 have Lw:=strs_length ws
 simp only [rwS] at gc
 unfold ctT
 cases hc:chk r with
 |false=>
  rw [hc] at gc
  simp (disch:=omega) only [go_sem,d1703,rwS,gc,Bool.false_eq_true]
 |true=>
  rw [hc] at gc
  rw [if_pos rfl]
  by_cases h0:ws=[]
  ·rw [if_pos (.inl h0)]
   have:ws.length=0:=by rw [h0];rfl
   simp (disch:=omega) only [go_sem,d1703,rwS,gc,Lw]
  have hw0:0<ws.length:=List.length_pos_iff.2 h0
  by_cases h1:rad<0
  ·rw [if_pos (.inr h1)]
   simp (disch:=omega) only [go_sem,d1703,rwS,gc,Lw]
  rw [if_neg (fun h=>h.elim h0 h1)]
  have ok:=chk_iff.1 hc
  have hm:=many9 hr hc
  have hpl:=plc_small hr
  have lc:=cntL_len r rad (plcs r (allP P ws))
  have hcn:=fun (v:Nat) (q:v<plc r)=>hits_cnt (P:=P) (ws:=ws) (rad:=rad) ok q
  have hen:∀ v:Nat,v<plc r→ern r v ws rad=0:=fun v q=>by
   rw [ern,if_pos hc,if_neg]
   simp only [not_or]
   exact ⟨h0,h1,by omega⟩
  generalize cntL r rad (plcs r (allP P ws))=C at *
  simp (disch:=omega) only [go_sem,d1703,rwS,gc,Lw]
  refine Ev_loop0 (fun i=>⟨[(1,.sl 2 (poS P)),(2,.sl 1 (strs ws)),(3,.int .i64 rad),(4,.ref 0 0),(10,.own 1 1),(11,.int .i64 (i:Int))],[.row false (rwS r),.row false (ints (C.take i))],0,[(0,2,[1,2,3,4,10,11],[(4,0),(10,1)])]⟩) (plc r) (by simp [rwS,ints]) (fun i hi=>?_) ?_
  ·have g:=rhits_run (s:=(i:Int)) (rad:=rad) hr hP hw
   rw [htT,hen i hi,if_pos rfl] at g
   have q:=hcn i hi
   have hl:(hitsL r P i ws rad).length≤1000:=Nat.le_trans (hitsL_len ..) (allP_len hP ws)
   have et:C.take (i+1)=C.take i++[C.getD i 0]:=take_snoc 0 (by omega)
   rw [et,show C.getD i 0=((hitsL r P i ws rad).length:Int) from q.symm]
   generalize hitsL r P i ws rad=H at *
   have Lh:=prs_len H
   have Lt:=ints_length (C.take i)
   have Lt2:(C.take i).length=i:=by rw [List.length_take];omega
   have ea:ints (C.take i)++[AV.int .i64 (H.length:Int)]=ints (C.take i++[(H.length:Int)]):=by simp [ints]
   simp only [rwS] at g
   simp (disch:=omega) only [go_sem,d1703_b0,rwS,hm,g,Lh,Lt,Lt2,ea]
  ·rw [List.take_of_length_le (by omega)]
   simp (disch:=omega) only [go_sem,d1703_b0,rwS,hm]
end Go.Proofs.YtgiofefdfcaibaaGreat
