import Derived.Test.YtgiofefdfcaibaaGreatIa
import Derived.Test.YtgiofefdfcaibaaGreatHy
namespace Go.Proofs.YtgiofefdfcaibaaGreat
set_option linter.unusedSimpArgs false
set_option linter.unusedVariables false
set_option maxHeartbeats 4000000
set_option maxRecDepth 100000
theorem rown_run {r:Rw} (hr:okR r):runP tab 1176 [.agg (rwS r)] []=some (.agg [.vec 1 (ints r.off),.vec 1 (ints r.to),.vec 1 (ints r.roff),.vec 1 (ints r.rev)],[]):=by
 refine runP_fn t1176 rfl ?_
 have g1:=owni_run (l:=r.off) (by have:=hr.a;omega)
 have g2:=owni_run (l:=r.to) (by have:=hr.b;omega)
 have g3:=owni_run (l:=r.roff) (by have:=hr.c;omega)
 have g4:=owni_run (l:=r.rev) (by have:=hr.d;omega)
 simp (disch:=omega) only [go_sem,d1176,rwS,g1,g2,g3,g4]
theorem prs_snoc (l:List Ed) (a b:Int):prs l++[.int .i64 a,.int .i64 b]=prs (l++[(a,b)]):=by rw [←prs_app];rfl
def edV (r:Rw) (v:Nat):List Ed:=(rowI r.off r.to v).map fun w=>((v:Int),w)
def edU (r:Rw) (v:Nat):List Ed:=(List.range v).flatMap (edV r)
theorem edU_succ (r:Rw) (v:Nat):edU r (v+1)=edU r v++edV r v:=by simp [edU,List.range_succ]
theorem edU_len {r:Rw} (f:half r.off r.to):∀ {v:Nat},v<r.off.length→(edU r v).length=oi r.off v
 |0,_=>by rw [f.oz];rfl
 |v+1,h=>by
  rw [edU_succ,List.length_append,edU_len f (by omega),edV,List.length_map,f.row_len h]
  have:=f.om h
  omega
theorem edV_snoc {r:Rw} {v i:Nat} {L:List Int} (hL:L=rowI r.off r.to v) (h:i<L.length):(L.take (i+1)).map (fun w=>((v:Int),w))=(L.take i).map (fun w=>((v:Int),w))++[((v:Int),L.getD i 0)]:=by
 rw [take_snoc 0 h,List.map_append];rfl
noncomputable def toldE (r:Rw):AV:=if chk r=true then .tup [.vec 2 (prs (edU r (r.off.length - 1))),.int .i64 0] else .tup [.vec 2 [],.int .i64 40]
theorem redges_run {r:Rw} (hr:okR r):runP tab 1330 [.agg (rwS r)] []=some (toldE r,[]):=by
 refine runP_fn t1330 rfl ?_
 have gc:=rcheck_run hr
 simp only [rwS] at gc
 unfold toldE
 cases hc:chk r with
 |false=>
  rw [hc] at gc
  rw [if_neg (by simp)]
  simp (disch:=omega) only [go_sem,d1330,rwS,gc]
 |true=>
  rw [hc] at gc
  rw [if_pos rfl]
  have ok:=chk_iff.1 hc
  have h1:=ok.f.lo
  have h2:=ok.f.hi
  have h3:=ok.f.tl
  simp (disch:=omega) only [go_sem,d1330,rwS,gc]
  refine Ev_loop0 (fun v=>⟨[(1,.ref 0 0),(4,.own 2 1),(5,.int .i64 (v:Int))],[.row false (rwS r),.row false (prs (edU r v))],0,[(0,2,[1,4,5],[(1,0),(4,1)])]⟩) (r.off.length - 1) (by simp [rwS,edU,prs]) (fun v hv=>?_) ?_
  ·have g:=rrow_run ok.f.lay (v:=v) (by omega)
   have hl:=ok.f.row_len (v:=v) (by omega)
   have he:=edU_len ok.f (v:=v) (by omega)
   have h4:=ok.f.ole (v:=v+1) (by omega)
   have h5:=ok.f.om (v:=v) (by omega)
   have es:=edU_succ r v
   have ev:edV r v=(rowI r.off r.to v).map fun w=>((v:Int),w):=rfl
   simp (disch:=omega) only [go_sem,d1330_b0,rwS,g]
   generalize hL:rowI r.off r.to v=L at *
   refine Ev_loop0 (fun i=>⟨[(1,.ref 0 0),(4,.own 2 1),(5,.int .i64 (v:Int)),(6,.own 1 2),(7,.int .i64 (i:Int))],[.row false (rwS r),.row false (prs (edU r v++(L.take i).map fun w=>((v:Int),w))),.row false (ints L)],0,[(1,3,[1,4,5,6,7],[(1,0),(4,1),(6,2)]),(0,2,[1,4,5],[(1,0),(4,1)])]⟩) L.length (by simp [rwS]) (fun i hi=>?_) ?_
   ·have e:=edV_snoc (r:=r) (v:=v) hL.symm hi
    have el:((L.take i).map fun w=>((v:Int),w)).length=i:=by rw [List.length_map,List.length_take];omega
    rw [e]
    generalize (L.take i).map (fun w=>((v:Int),w))=X at *
    simp (disch:=omega) only [go_sem,d1330_b1,rwS,prs_snoc,el,he,List.append_assoc]
   ·rw [List.take_length]
    simp (disch:=omega) only [go_sem,d1330_b1,rwS,es,ev]
  ·simp (disch:=omega) only [go_sem,d1330_b0,rwS]
theorem eds_at (a b:List Ed) (hl:a.length=b.length):(∀ i,i<a.length→a.getD i default=b.getD i default)∧decide (a=b)=true∨∃ n,n<a.length∧(∀ i,i<n→a.getD i default=b.getD i default)∧a.getD n default≠b.getD n default∧decide (a=b)=false:=by
 rcases first_ix' (fun i=>a.getD i default=b.getD i default) a.length with h | ⟨m,h1,h2,h3⟩
 ·refine .inl ⟨h,?_⟩
  rw [decide_eq_true_eq]
  refine List.ext_getElem hl fun i h1 h2=>?_
  have:=h i h1
  rw [List.getD_eq_getElem?_getD,List.getD_eq_getElem?_getD,List.getElem?_eq_getElem h1,List.getElem?_eq_getElem h2] at this
  exact this
 ·exact .inr ⟨m,h1,h2,h3,by rw [decide_eq_false_iff_not];rintro rfl;exact h3 rfl⟩
theorem ed_beq (a b:Ed):(decide (a.1=b.1) && decide (a.2=b.2))=decide (a=b):=by
 rw [←Bool.decide_and];congr 1;exact propext Prod.ext_iff.symm
end Go.Proofs.YtgiofefdfcaibaaGreat
