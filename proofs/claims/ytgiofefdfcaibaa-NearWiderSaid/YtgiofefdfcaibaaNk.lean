import Derived.Test.YtgiofefdfcaibaaNj
namespace Go.Proofs.Ytgiofefdfcaibaa
set_option linter.unusedSimpArgs false
set_option linter.unusedVariables false
set_option maxHeartbeats 4000000
set_option maxRecDepth 100000
theorem hitsL_small {P:List Po} (hP:okP P) (r:Rw) (s:Int) (ws:List Txt) (rad:Int):(hitsL r P s ws rad).length≤1000:=Nat.le_trans (hitsL_len ..) (allP_len hP ws)
theorem ern_more {r:Rw} {s:Int} {ws:List Txt} {rad more:Int} (h:rad≤more) (e:ern r s ws rad=0):ern r s ws more=0:=by
 rcases ern_cases r s ws rad with ⟨q,_⟩ | ⟨q,_⟩ | ⟨_,h1,h2,h3,h4⟩
 ·omega
 ·omega
 ·rw [ern,if_pos h1,if_neg]
  simp only [not_or]
  exact ⟨h2,by omega,by simpa using h4⟩
theorem wider_law {r:Rw} {P:List Po} {s:Int} {ws:List Txt} {rad more:Int} (h:Ft r P ws):runP tab 1684 [.agg (rwS r),.sl 2 (poS P),.int .i64 s,.sl 1 (strs ws),.int .i64 rad,.int .i64 more] []=some (.bool true,[]):=by
 refine runP_fn t1684 rfl ?_
 have gf:=far_run h
 have gn:=nears_run
 simp only [rwS] at gf
 cases hb:farB r P ws with
 |true=>
  rw [hb] at gf
  simp (disch:=omega) only [go_sem,d1684,rwS,gf]
 |false=>
  rw [hb] at gf
  have N:=farB_no hb
  by_cases h1:more<rad
  ·simp (disch:=omega) only [go_sem,d1684,rwS,gf]
  have hn:=N.n
  have g1:=nhits_run (s:=s) (rad:=rad) N.ok N.p (ws:=ws) (by omega)
  have g2:=nhits_run (s:=s) (rad:=more) N.ok N.p (ws:=ws) (by omega)
  rw [htT] at g1 g2
  have l1:=hitsL_small N.p r s ws rad
  have l2:=hitsL_small N.p r s ws more
  by_cases e:ern r s ws rad=0
  ·rw [ern_more (by omega) e,if_pos rfl,hitsL_wider (show rad≤more by omega)] at g2
   rw [e,if_pos rfl] at g1
   rw [hitsL_wider (show rad≤more by omega)] at l2
   generalize hitsL r P s ws rad=A at *
   generalize (hitsL r P s ws more).filter (fun x=>decide (rad<x.2))=M at *
   have gs:=hsame_run (a:=A) (b:=A) (by omega) (by omega)
   rw [decide_eq_true rfl] at gs
   have et:(prs (A++M)).take (A.length*2)=prs A:=by rw [prs_take_h,List.take_left]
   have La:=prs_len A
   have Lm:=prs_len (A++M)
   rw [List.length_append] at Lm l2
   simp only [rwS] at g1 g2
   simp (disch:=omega) only [go_sem,d1684,rwS,gf,g1,g2,gn,La,Lm,et,gs]
  ·rw [if_neg e] at g1
   simp only [rwS] at g1 g2
   generalize (if ern r s ws more=0 then hitsL r P s ws more else [])=B at *
   simp (disch:=omega) only [go_sem,d1684,rwS,gf,g1,g2,gn,e,prs,List.flatMap_nil]
end Go.Proofs.Ytgiofefdfcaibaa
