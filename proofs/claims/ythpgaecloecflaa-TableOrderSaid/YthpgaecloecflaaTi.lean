/- Layer 14: Drop. -/
import Derived.Test.YthpgaecloecflaaTh
namespace Go.Proofs.Ythpgaecloecflaa
set_option linter.unusedSimpArgs false
set_option linter.unusedVariables false
set_option maxHeartbeats 4000000
set_option maxRecDepth 100000
theorem closeA {m ks : Int} {c : Ky} {P : List Pl} {g e : Nat} (h : RH P g) (hg : g < P.length) (he : e < P.length) (hne : e ≠ g) (hf : (at_ P e).u = false) (hl : P.length ≤ 1000) :
    EvC tab 1051 [.ref 0 0, .int .i64 (g : Int)] (clH m ks c P) (fun v hp' => ∃ P' g', Clo P g P' g' ∧ v = .int .i64 (g' : Nat) ∧ hp' = clH m ks c P' ++ [zK]) := by
  refine EvC_fn t1051 rfl ?_
  simp (config := { maxSteps := 1000000 }) (disch := omega) only [go_sem, ↓reduceIte, Nat.reduceEqDiff, Nat.reduceAdd, Int.reduceToNat, reduceCtorEq, Nat.reduceLeDiff, Nat.reduceSub, Nat.reduceDiv, Nat.reduceMod, Nat.reduceMul, d1051, clH]
  refine Ev_mono (close_loop (m := m) (ks := ks) (c := c) h hg he hne hf hl) ?_
  rintro x ⟨env, hp, lo, mks⟩ ⟨rfl, P', g', C, h1, h2, h3⟩
  simp only at h1 h2 h3
  subst h2 h3
  simp (config := { maxSteps := 1000000 }) (disch := omega) only [go_sem, ↓reduceIte, Nat.reduceEqDiff, Nat.reduceAdd, Int.reduceToNat, reduceCtorEq, Nat.reduceLeDiff, Nat.reduceSub, Nat.reduceDiv, Nat.reduceMod, Nat.reduceMul, h1]
  exact ⟨P', g', C, rfl, rfl⟩
def Drp (P : List Pl) (r : Nat) (Q : List Pl) : Prop := ∃ P' g', Clo P r P' g' ∧ Q = P'.set g' default
theorem drop_run {m ks : Int} {P : List Pl} {k : Ky} {r e : Nat} (f : Fnd P k r) (hr : Ring P) (hk : okB k = true) (hl : P.length ≤ 1000) (hu : (at_ P r).u = true) (he : e < P.length) (hf : (at_ P e).u = false) (hks : 1 ≤ ks ∧ ks ≤ 1000) :
    ∃ Q, Drp P r Q ∧ runP tab 1039 [.ref 0 0, .agg (kyC k)] [tbB m ks P] = some (.bool true, [tbB m (ks - 1) Q]) := by
  have hne : e ≠ r := fun x => by rw [x, hu] at hf; cases hf
  obtain ⟨rr, hrun, P', g', C, hv, hh⟩ := closeA (m := m) (ks := ks) (c := k) (ring_RH hr f.lt) f.lt he hne hf hl
  have gc : EvC tab 1051 [.ref 0 0, .int .i64 (r : Int)] (clH m ks k P) (fun v hp' => v = .int .i64 (g' : Nat) ∧ hp' = clH m ks k P' ++ [zK]) := ⟨rr, hrun, hv, hh⟩
  refine ⟨P'.set g' default, ⟨P', g', C, rfl⟩, ?_⟩
  refine runP_fn t1039 rfl ?_
  have g1 := tlen_run (m := m) (ks := ks) (P := P)
  have g2 := rkey_run (k := k)
  rw [hk] at g2
  have g3 := find_run (m := m) (ks := ks) f hr (okB_iff.1 hk) hl
  have g4 := free_run (m := m) (ks := ks) f.lt hl
  rw [ring_free hr f.lt, hu] at g4
  have L := pls_len P
  have L' := pls_len P'
  have hC := C.len
  have hg' := C.lt
  have ps : ((((((pls P').set (g' * 5) (AV.bool false)).set (g' * 5 + 1) (AV.int .i64 0)).set (g' * 5 + 1 + 1) (AV.int .i64 0)).set (g' * 5 + 1 + 1 + 1) (AV.int .i64 0)).set (g' * 5 + 1 + 1 + 1 + 1) (AV.int .i64 0)) = pls (P'.set g' default) := pls_set default P' g'
  simp only [tbI, kyC, Bool.not_true] at g1 g2 g3 g4
  simp (config := { maxSteps := 1000000 }) (disch := omega) only [go_sem, ↓reduceIte, Nat.reduceEqDiff, Nat.reduceAdd, Int.reduceToNat, reduceCtorEq, Nat.reduceLeDiff, Nat.reduceSub, Nat.reduceDiv, Nat.reduceMod, Nat.reduceMul, d1039, tbB, kyC, g1, g2, g3, g4]
  refine EvO_allk ?_
  refine evC_imp gc ?_
  rintro v hp' ⟨rfl, rfl⟩
  refine ⟨by simp [keepOk, keepB, keepL, keepC, idsL, AV.ids, clH, St.ev, lk], ?_⟩
  simp (config := { maxSteps := 1000000 }) (disch := omega) only [go_sem, ↓reduceIte, Nat.reduceEqDiff, Nat.reduceAdd, Int.reduceToNat, reduceCtorEq, Nat.reduceLeDiff, Nat.reduceSub, Nat.reduceDiv, Nat.reduceMod, Nat.reduceMul, alQ, clH, zK, List.cons_append, List.nil_append, L', ps]
  simp [chkOk, lk, AV.ids]
theorem drop_no {m ks : Int} {P : List Pl} {k : Ky} {r : Nat} (f : Fnd P k r) (hr : Ring P) (hl : P.length ≤ 1000) (h : ks = 0 ∨ okB k = false ∨ (at_ P r).u = false) :
    runP tab 1039 [.ref 0 0, .agg (kyC k)] [tbB m ks P] = some (.bool false, [tbB m ks P]) := by
  refine runP_fn t1039 rfl ?_
  have g1 := tlen_run (m := m) (ks := ks) (P := P)
  have g2 := rkey_run (k := k)
  have g4 := free_run (m := m) (ks := ks) f.lt hl
  rw [ring_free hr f.lt] at g4
  have L := pls_len P
  simp only [tbI, kyC] at g1 g2 g4
  by_cases h0 : ks = 0
  · subst h0
    simp (config := { maxSteps := 1000000 }) (disch := omega) only [go_sem, ↓reduceIte, Nat.reduceEqDiff, Nat.reduceAdd, Int.reduceToNat, reduceCtorEq, Nat.reduceLeDiff, Nat.reduceSub, Nat.reduceDiv, Nat.reduceMod, Nat.reduceMul, d1039, tbB, kyC, g1, g2]
  · cases hk : okB k with
    | false =>
      rw [hk] at g2
      simp (config := { maxSteps := 1000000 }) (disch := omega) only [go_sem, ↓reduceIte, Nat.reduceEqDiff, Nat.reduceAdd, Int.reduceToNat, reduceCtorEq, Nat.reduceLeDiff, Nat.reduceSub, Nat.reduceDiv, Nat.reduceMod, Nat.reduceMul, d1039, tbB, kyC, g1, g2, h0]
    | true =>
      have hu : (at_ P r).u = false := by
        rcases h with h | h | h
        · exact absurd h h0
        · rw [hk] at h; cases h
        · exact h
      have g3 := find_run (m := m) (ks := ks) f hr (okB_iff.1 hk) hl
      rw [hk] at g2
      rw [hu] at g4
      simp only [tbI, kyC, Bool.not_false] at g3 g4
      simp (config := { maxSteps := 1000000 }) (disch := omega) only [go_sem, ↓reduceIte, Nat.reduceEqDiff, Nat.reduceAdd, Int.reduceToNat, reduceCtorEq, Nat.reduceLeDiff, Nat.reduceSub, Nat.reduceDiv, Nat.reduceMod, Nat.reduceMul, d1039, tbB, kyC, g1, g2, g3, g4, h0]
end Go.Proofs.Ythpgaecloecflaa
