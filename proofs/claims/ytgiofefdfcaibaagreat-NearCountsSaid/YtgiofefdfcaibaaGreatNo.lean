import Derived.Test.YtgiofefdfcaibaaGreatNn
namespace Go.Proofs.YtgiofefdfcaibaaGreat
set_option linter.unusedSimpArgs false
set_option linter.unusedVariables false
set_option maxHeartbeats 4000000
set_option maxRecDepth 100000
theorem hits_law {r:Rw} {P:List Po} {s:Int} {ws:List Txt} {rad:Int} (h:Ft r P ws):runP tab 1699 [.agg (rwS r),.sl 2 (poS P),.int .i64 s,.sl 1 (strs ws),.int .i64 rad] []=some (.bool true,[]):=by
 refine runP_fn t1699 rfl ?_
 have gf:=far_run h
 have gn:=nears_run
 simp only [rwS] at gf
 cases hb:farB r P ws with
 |true=>
  rw [hb] at gf
  simp (disch:=omega) only [go_sem,d1699,rwS,gf]
 |false=>
  rw [hb] at gf
  have N:=farB_no hb
  have hn:=N.n
  have go:=rown_run N.ok
  have gp:=pown_run N.p
  have g1:=nhits_run (s:=s) (rad:=rad) N.ok N.p (ws:=ws) (by omega)
  have g2:=rhits_run (s:=s) (rad:=rad) N.ok N.p (ws:=ws) (by omega)
  have g3:=nfirst_run (s:=s) N.ok N.p (ws:=ws) (by omega)
  have g4:=rfirst_run (s:=s) N.ok N.p (ws:=ws) (by omega)
  have s1:=rsame_run N.ok N.ok
  have s2:=psame_run N.p.w N.p.w
  rw [decide_eq_true rfl] at s1 s2
  have hl:(if ern r s ws rad=0 then hitsL r P s ws rad else []).length≤1000:=by
   split
   ·exact Nat.le_trans (hitsL_len ..) (allP_len N.p ws)
   ·exact Nat.zero_le _
  unfold htT at g1 g2
  unfold fsT at g3 g4
  generalize (if ern r s ws rad=0 then hitsL r P s ws rad else [])=A at *
  generalize (if ern r s ws 200=0 then (hitsL r P s ws 200).getD 0 default else default)=x at *
  generalize decide (ern r s ws 200=0∧hitsL r P s ws 200≠[])=b at *
  generalize ern r s ws rad=e at *
  generalize ern r s ws 200=e2 at *
  have s3:=hsame_run (a:=A) (b:=A) (by omega) (by omega)
  have c:=ed_eq x x
  rw [decide_eq_true rfl] at s3 c
  simp only [rwS,htA] at go g1 g2 g3 g4 s1
  simp (disch:=omega) only [go_sem,d1699,rwS,gf,go,gp,g1,g2,g3,g4,gn,s1,s2,s3,c,encA,digA]
theorem counts_law {r:Rw} {P:List Po} {ws:List Txt} {rad:Int} (h:Ft r P ws):runP tab 1700 [.agg (rwS r),.sl 2 (poS P),.sl 1 (strs ws),.int .i64 rad] []=some (.bool true,[]):=by
 refine runP_fn t1700 rfl ?_
 have gf:=far_run h
 have gn:=nears_run
 simp only [rwS] at gf
 cases hb:farB r P ws with
 |true=>
  rw [hb] at gf
  simp (disch:=omega) only [go_sem,d1700,rwS,gf]
 |false=>
  rw [hb] at gf
  have N:=farB_no hb
  have hn:=N.n
  have g1:=ncount_run (rad:=rad) N.ok N.p (ws:=ws) (by omega)
  have g2:=rcount_run (rad:=rad) N.ok N.p (ws:=ws) (by omega)
  have hA:∃ (A:List Int) (e:Int),ctT r P ws rad=.tup [.vec 1 (ints A),.int .i64 e]∧A.length<1000000:=by
   unfold ctT
   split
   ·split
    ·exact ⟨[],1,rfl,by decide⟩
    ·exact ⟨_,0,rfl,by rw [cntL_len];have:=plc_small N.ok;omega⟩
   ·exact ⟨[],40,rfl,by decide⟩
  obtain ⟨A,e,hA,hl⟩:=hA
  rw [hA] at g1 g2
  have i1:=ints_run (a:=A) (b:=A) hl hl
  rw [beq_self_eq_true] at i1
  simp only [rwS] at g1 g2
  simp (disch:=omega) only [go_sem,d1700,rwS,gf,g1,g2,gn,i1]
end Go.Proofs.YtgiofefdfcaibaaGreat
