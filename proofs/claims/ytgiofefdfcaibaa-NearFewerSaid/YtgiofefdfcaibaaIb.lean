import Derived.Test.YtgiofefdfcaibaaHu
import Derived.Test.YtgiofefdfcaibaaHy
namespace Go.Proofs.Ytgiofefdfcaibaa
set_option linter.unusedSimpArgs false
set_option linter.unusedVariables false
set_option maxHeartbeats 4000000
set_option maxRecDepth 100000
theorem prs_snoc (l:List Ed) (a b:Int):prs l++[.int .i64 a,.int .i64 b]=prs (l++[(a,b)]):=by rw [←prs_app];rfl
def edV (r:Rw) (v:Nat):List Ed:=(rowI r.off r.to v).map fun w=>((v:Int),w)
def edU (r:Rw) (v:Nat):List Ed:=(List.range v).flatMap (edV r)
theorem eds_at (a b:List Ed) (hl:a.length=b.length):(∀ i,i<a.length→a.getD i default=b.getD i default)∧decide (a=b)=true∨∃ n,n<a.length∧(∀ i,i<n→a.getD i default=b.getD i default)∧a.getD n default≠b.getD n default∧decide (a=b)=false:=by
 rcases first_ix' (fun i=>a.getD i default=b.getD i default) a.length with h | ⟨m,h1,h2,h3⟩
 ·refine .inl ⟨h,?_⟩
  rw [decide_eq_true_eq]
  refine List.ext_getElem hl fun i h1 h2=>?_
  have:=h i h1
  rw [List.getD_eq_getElem?_getD,List.getD_eq_getElem?_getD,List.getElem?_eq_getElem h1,List.getElem?_eq_getElem h2] at this
  exact this
 ·exact .inr ⟨m,h1,h2,h3,by rw [decide_eq_false_iff_not];rintro rfl;exact h3 rfl⟩
theorem ed_beq (a b:Ed):(decide (a.1=b.1) && decide (a.2=b.2))=decide (a=b):=by
 rw [←Bool.decide_and];congr 1;exact propext Prod.ext_iff.symm
end Go.Proofs.Ytgiofefdfcaibaa
