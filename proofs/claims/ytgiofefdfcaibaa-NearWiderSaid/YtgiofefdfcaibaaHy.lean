import Derived.Test.YtgiofefdfcaibaaHx
namespace Go.Proofs.Ytgiofefdfcaibaa
set_option linter.unusedSimpArgs false
set_option linter.unusedVariables false
set_option maxHeartbeats 4000000
set_option maxRecDepth 100000
def rwTy:List Ty:=[.sl 1 [.int .i64],.sl 1 [.int .i64],.sl 1 [.int .i64],.sl 1 [.int .i64]]
theorem fit_rw {vs:List AV} (h:FitL rwTy vs):∃ r:Rw,vs=rwS r∧rwFit r:=by
 unfold rwTy at h
 rw [FitL] at h
 obtain ⟨v1,us,rfl,h1,h⟩:=h
 rw [FitL] at h
 obtain ⟨v2,us,rfl,h2,h⟩:=h
 rw [FitL] at h
 obtain ⟨v3,us,rfl,h3,h⟩:=h
 rw [FitL] at h
 obtain ⟨v4,us,rfl,h4,h⟩:=h
 rw [FitL] at h
 subst h
 obtain ⟨a,rfl,ha,_⟩:=fit_ints h1
 obtain ⟨b,rfl,hb,_⟩:=fit_ints h2
 obtain ⟨c,rfl,hc,_⟩:=fit_ints h3
 obtain ⟨d,rfl,hd,_⟩:=fit_ints h4
 exact ⟨⟨a,b,c,d⟩,rfl,ha,hb,hc,hd⟩
theorem row_le {r:Rw} (h:r.ok) {v:Nat} (hv:v+1<r.off.length):(rowI r.off r.to v).length≤2000:=by
 rw [h.f.row_len hv]
 have:=h.f.ole hv
 have:=h.f.tl
 omega
theorem row_le' {r:Rw} (h:r.ok) {v:Nat} (hv:v+1<r.roff.length):(rowI r.roff r.rev v).length≤2000:=by
 rw [h.b.row_len hv]
 have:=h.b.ole hv
 have:=h.b.tl
 omega
end Go.Proofs.Ytgiofefdfcaibaa
