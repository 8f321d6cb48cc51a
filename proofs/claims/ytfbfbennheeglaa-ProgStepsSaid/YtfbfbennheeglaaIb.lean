import Derived.Test.YtfbfbennheeglaaIa
import Derived.Test.YtfbfbennheeglaaHy
namespace Go.Proofs.Ytfbfbennheeglaa
set_option linter.unusedSimpArgs false
set_option linter.unusedVariables false
set_option maxHeartbeats 4000000
set_option maxRecDepth 100000
theorem rout_run {r:Rw} {v:Int} (hr:okR r) (hv:I64 v):runP tab 1328 [.agg (rwS r),.int .i64 v] []=some (told1 r r.off r.to v,[]):=by
 refine runP_fn t1328 rfl ?_
 have gc:=rcheck_run hr
 have h1:=hr.a
 simp only [rwS] at gc
 unfold told1
 cases hc:chk r with
 |false=>
  rw [hc] at gc
  rw [if_neg (by simp)]
  simp (disch:=omega) only [go_sem,d1328,rwS,gc]
 |true=>
  rw [hc] at gc
  have ok:=chk_iff.1 hc
  by_cases h0:v<0
  ·rw [if_neg (by omega)]
   simp (disch:=omega) only [go_sem,d1328,rwS,gc]
  ·by_cases h:v<(r.off.length:Int) - 1
   ·rw [if_pos ⟨rfl,by omega,h⟩]
    obtain ⟨w,rfl⟩:∃ w:Nat,v=w:=⟨v.toNat,by omega⟩
    have g:=rrow_run ok.f.lay (v:=w) (by omega)
    rw [Int.toNat_natCast]
    simp (disch:=omega) only [go_sem,d1328,rwS,gc,g]
   ·rw [if_neg (by omega)]
    simp (disch:=omega) only [go_sem,d1328,rwS,gc]
theorem rinn_run {r:Rw} {v:Int} (hr:okR r) (hv:I64 v):runP tab 1329 [.agg (rwS r),.int .i64 v] []=some (told1 r r.roff r.rev v,[]):=by
 refine runP_fn t1329 rfl ?_
 have gc:=rcheck_run hr
 have h1:=hr.a
 simp only [rwS] at gc
 unfold told1
 cases hc:chk r with
 |false=>
  rw [hc] at gc
  rw [if_neg (by simp)]
  simp (disch:=omega) only [go_sem,d1329,rwS,gc]
 |true=>
  rw [hc] at gc
  have ok:=chk_iff.1 hc
  have hl:=ok.l
  by_cases h0:v<0
  ·rw [if_neg (by omega)]
   simp (disch:=omega) only [go_sem,d1329,rwS,gc]
  ·by_cases h:v<(r.off.length:Int) - 1
   ·rw [if_pos ⟨rfl,by omega,by omega⟩]
    obtain ⟨w,rfl⟩:∃ w:Nat,v=w:=⟨v.toNat,by omega⟩
    have g:=rrow_run ok.b.lay (v:=w) (by omega)
    rw [Int.toNat_natCast]
    simp (disch:=omega) only [go_sem,d1329,rwS,gc,g]
   ·rw [if_neg (by omega)]
    simp (disch:=omega) only [go_sem,d1329,rwS,gc]
theorem rown_run {r:Rw} (hr:okR r):runP tab 1176 [.agg (rwS r)] []=some (.agg [.vec 1 (ints r.off),.vec 1 (ints r.to),.vec 1 (ints r.roff),.vec 1 (ints r.rev)],[]):=by
 refine runP_fn t1176 rfl ?_
 have g1:=owni_run (l:=r.off) (by have:=hr.a;omega)
 have g2:=owni_run (l:=r.to) (by have:=hr.b;omega)
 have g3:=owni_run (l:=r.roff) (by have:=hr.c;omega)
 have g4:=owni_run (l:=r.rev) (by have:=hr.d;omega)
 simp (disch:=omega) only [go_sem,d1176,rwS,g1,g2,g3,g4]
theorem eds_at (a b:List Ed) (hl:a.length=b.length):(∀ i,i<a.length→a.getD i default=b.getD i default)∧decide (a=b)=true∨∃ n,n<a.length∧(∀ i,i<n→a.getD i default=b.getD i default)∧a.getD n default≠b.getD n default∧decide (a=b)=false:=by
 rcases first_ix' (fun i=>a.getD i default=b.getD i default) a.length with h | ⟨m,h1,h2,h3⟩
 ·refine .inl ⟨h,?_⟩
  rw [decide_eq_true_eq]
  refine List.ext_getElem hl fun i h1 h2=>?_
  have:=h i h1
  rw [List.getD_eq_getElem?_getD,List.getD_eq_getElem?_getD,List.getElem?_eq_getElem h1,List.getElem?_eq_getElem h2] at this
  exact this
 ·exact .inr ⟨m,h1,h2,h3,by rw [decide_eq_false_iff_not];rintro rfl;exact h3 rfl⟩
theorem ed_beq (a b:Ed):(decide (a.1=b.1) && decide (a.2=b.2))=decide (a=b):=by
 rw [←Bool.decide_and];congr 1;exact propext Prod.ext_iff.symm
end Go.Proofs.Ytfbfbennheeglaa
