import Derived.Test.YtfbfbennheeglaaHx
namespace Go.Proofs.Ytfbfbennheeglaa
set_option linter.unusedSimpArgs false
set_option linter.unusedVariables false
set_option maxHeartbeats 4000000
set_option maxRecDepth 100000
theorem dec_beq {α:Type} [DecidableEq α] [BEq α] [LawfulBEq α] (a b:α):decide (a=b)=(a == b):=by
 by_cases h:a=b<;>simp [h]
theorem rsame_run {a b:Rw} (ha:okR a) (hb:okR b):runP tab 1187 [.agg (rwS a),.agg (rwS b)] []=some (.bool (decide (a=b)),[]):=by
 refine runP_fn t1187 rfl ?_
 have g1:=ints_run (a:=a.off) (b:=b.off) (by have:=ha.a;omega) (by have:=hb.a;omega)
 have g2:=ints_run (a:=a.to) (b:=b.to) (by have:=ha.b;omega) (by have:=hb.b;omega)
 have g3:=ints_run (a:=a.roff) (b:=b.roff) (by have:=ha.c;omega) (by have:=hb.c;omega)
 have g4:=ints_run (a:=a.rev) (b:=b.rev) (by have:=ha.d;omega) (by have:=hb.d;omega)
 have e:decide (a=b)=((a.off == b.off) && ((a.to == b.to) && ((a.roff == b.roff) && (a.rev == b.rev)))):=by
  cases a;cases b
  simp only [Rw.mk.injEq,Bool.decide_and]
  rw [dec_beq,dec_beq,dec_beq,dec_beq]
 rw [e]
 cases k1:a.off == b.off<;>rw [k1] at g1
 ·simp (disch:=omega) only [go_sem,d1187,rwS,g1,Bool.false_and]
 cases k2:a.to == b.to<;>rw [k2] at g2
 ·simp (disch:=omega) only [go_sem,d1187,rwS,g1,g2,Bool.false_and]
 cases k3:a.roff == b.roff<;>rw [k3] at g3
 ·simp (disch:=omega) only [go_sem,d1187,rwS,g1,g2,g3,Bool.false_and]
 cases k4:a.rev == b.rev<;>rw [k4] at g4
 ·simp (disch:=omega) only [go_sem,d1187,rwS,g1,g2,g3,g4]
 ·simp (disch:=omega) only [go_sem,d1187,rwS,g1,g2,g3,g4]
def rwTy:List Ty:=[.sl 1 [.int .i64],.sl 1 [.int .i64],.sl 1 [.int .i64],.sl 1 [.int .i64]]
theorem fit_rw {vs:List AV} (h:FitL rwTy vs):∃ r:Rw,vs=rwS r∧rwFit r:=by
 unfold rwTy at h
 rw [FitL] at h
 obtain ⟨v1,us,rfl,h1,h⟩:=h
 rw [FitL] at h
 obtain ⟨v2,us,rfl,h2,h⟩:=h
 rw [FitL] at h
 obtain ⟨v3,us,rfl,h3,h⟩:=h
 rw [FitL] at h
 obtain ⟨v4,us,rfl,h4,h⟩:=h
 rw [FitL] at h
 subst h
 obtain ⟨a,rfl,ha,_⟩:=fit_ints h1
 obtain ⟨b,rfl,hb,_⟩:=fit_ints h2
 obtain ⟨c,rfl,hc,_⟩:=fit_ints h3
 obtain ⟨d,rfl,hd,_⟩:=fit_ints h4
 exact ⟨⟨a,b,c,d⟩,rfl,ha,hb,hc,hd⟩
theorem row_le {r:Rw} (h:r.ok) {v:Nat} (hv:v+1<r.off.length):(rowI r.off r.to v).length≤2000:=by
 rw [h.f.row_len hv]
 have:=h.f.ole hv
 have:=h.f.tl
 omega
theorem row_le' {r:Rw} (h:r.ok) {v:Nat} (hv:v+1<r.roff.length):(rowI r.roff r.rev v).length≤2000:=by
 rw [h.b.row_len hv]
 have:=h.b.ole hv
 have:=h.b.tl
 omega
end Go.Proofs.Ytfbfbennheeglaa
