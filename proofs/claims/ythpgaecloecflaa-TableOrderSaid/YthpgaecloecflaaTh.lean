/- Layer 14: close moves keys into the gap, one after the other. -/
import Derived.Test.YthpgaecloecflaaTg
namespace Go.Proofs.Ythpgaecloecflaa
set_option linter.unusedSimpArgs false
set_option linter.unusedVariables false
set_option maxHeartbeats 4000000
set_option maxRecDepth 100000
section
variable {m ks : Int} {c : Ky}
def clM0 : List Mark := [(0, 3, [0, 1], [(0, 0)])]
def clI (m ks : Int) (c : Ky) (P : List Pl) (g p : Nat) : St := ⟨[(0, .ref 0 0), (1, .int .i64 (g : Int)), (5, .int .i64 (p : Int))], clH m ks c P, 3, (1, 3, [0, 1, 5], [(0, 0)]) :: clM0⟩
def clS (m ks : Int) (c : Ky) (P : List Pl) (g : Nat) : St := ⟨[(0, .ref 0 0), (1, .int .i64 (g : Int))], clH m ks c P, 3, clM0⟩
theorem at_free {P : List Pl} {g i : Nat} (h : RH P g) (hi : i < P.length) (hne : i ≠ g) : decide (at_ P i = default) = !(at_ P i).u := by
  have := (h i hi hne).1
  cases hu : (at_ P i).u with
  | false => simp [this hu]
  | true =>
    have : at_ P i ≠ default := fun e => by rw [e] at hu; cases hu
    simp [this]
theorem at_okk {P : List Pl} {g i : Nat} (h : RH P g) (hi : i < P.length) (hne : i ≠ g) : okk (at_ P i).k := by
  cases hu : (at_ P i).u with
  | true => exact ((h i hi hne).2 hu).1
  | false => rw [(h i hi hne).1 hu]; exact ⟨by decide, by decide, by decide⟩
theorem cl_loop {P : List Pl} {g a : Nat} {Q : AX → St → Prop} (h : RH P g) (hg : g < P.length) (s : Scan P g a) (hl : P.length ≤ 1000)
    (hq : Ev tab d1051_b1 (clI m ks c P g a) (fun x st => x ≠ .normal ∧ Q x st)) : ∀ (n p : Nat), p < P.length → p ≠ g → cd P.length g p + n = cd P.length g a → Ev tab (.loop d1051_b1) (clI m ks c P g p) Q
  | 0, p, hp, hne, hc => by
    have := cd_inj hg hp s.lt (by omega)
    subst this
    exact Ev_stop hq
  | n + 1, p, hp, hne, hc => by
    have hcl := cd_lt hg s.lt
    obtain ⟨b1, b2⟩ := s.be p hp hne (by omega)
    have hcn := cd_nx hg hp (by omega)
    refine Ev_step (st' := clI m ks c P g (nx P.length p)) ?_ (cl_loop h hg s hl hq n (nx P.length p) (nx_lt hp) (fun e => by rw [e, cd_self] at hcn; omega) (by rw [hcn]; omega))
    have g1 := reachesA (m := m) (ks := ks) (c := c) hp hg (at_okk h hp hne) hl
    have g2 := fun J => freeA (m := m) (ks := ks) (c := c) (J := J) hp hl
    have g3 := fun J => behindA (m := m) (ks := ks) (c := c) (J := J) hp hl
    rw [at_free h hp hne, b1, decide_eq_false b2] at g1
    rw [at_free h hp hne, b1] at g2
    generalize kyC (at_ P p).k = Kc at *
    have L := pls_len P
    simp (config := { maxSteps := 1000000 }) (disch := omega) only [go_sem, ↓reduceIte, Nat.reduceEqDiff, Nat.reduceAdd, Int.reduceToNat, reduceCtorEq, Nat.reduceLeDiff, Nat.reduceSub, Nat.reduceDiv, Nat.reduceMod, Nat.reduceMul, d1051_b1, clI, clM0]
    refine EvO_all ?_
    refine evC_imp g1 ?_
    rintro v hp' ⟨rfl, rfl⟩
    simp (config := { maxSteps := 1000000 }) (disch := omega) only [go_sem, ↓reduceIte, Nat.reduceEqDiff, Nat.reduceAdd, Int.reduceToNat, reduceCtorEq, Nat.reduceLeDiff, Nat.reduceSub, Nat.reduceDiv, Nat.reduceMod, Nat.reduceMul, alQ]
    refine EvO_all ?_
    refine evC_imp (g2 _) ?_
    rintro v hp' ⟨rfl, rfl⟩
    simp (config := { maxSteps := 1000000 }) (disch := omega) only [go_sem, ↓reduceIte, Nat.reduceEqDiff, Nat.reduceAdd, Int.reduceToNat, reduceCtorEq, Nat.reduceLeDiff, Nat.reduceSub, Nat.reduceDiv, Nat.reduceMod, Nat.reduceMul, alQ, Bool.not_true]
    refine EvO_all ?_
    refine evC_imp (g3 _) ?_
    rintro v hp' ⟨rfl, rfl⟩
    simp (config := { maxSteps := 1000000 }) (disch := omega) only [go_sem, ↓reduceIte, Nat.reduceEqDiff, Nat.reduceAdd, Int.reduceToNat, reduceCtorEq, Nat.reduceLeDiff, Nat.reduceSub, Nat.reduceDiv, Nat.reduceMod, Nat.reduceMul, alQ, clH, List.cons_append, List.nil_append, L]
structure Clo (P : List Pl) (g : Nat) (P' : List Pl) (g' : Nat) : Prop where
  len : P'.length = P.length
  lt : g' < P.length
  ring : Ring (P'.set g' default)
  has : ∀ x, Has P' g' x ↔ Has P g x
  us : usN (P'.set g' default) = usN (P.set g default)
def zK : Blk := .row false [.int .i64 0, .int .i64 0, .int .i64 0]
theorem close_loop {P : List Pl} {g e : Nat} (h : RH P g) (hg : g < P.length) (he : e < P.length) (hne : e ≠ g) (hf : (at_ P e).u = false) (hl : P.length ≤ 1000) :
    Ev tab (.loop d1051_b0) (clS m ks c P g) (fun x st => x = .exit 0 ∧ ∃ P' g', Clo P g P' g' ∧ lk st.env 1 = .int .i64 (g' : Nat) ∧ st.hp = clH m ks c P' ++ [zK] ∧ st.lo = 3) := by
  refine close_ind (Q := fun P g => P.length ≤ 1000 → Ev tab (.loop d1051_b0) (clS m ks c P g) (fun x st => x = .exit 0 ∧ ∃ P' g', Clo P g P' g' ∧ lk st.env 1 = .int .i64 (g' : Nat) ∧ st.hp = clH m ks c P' ++ [zK] ∧ st.lo = 3)) ?_ ?_ (cd P.length g e) P g e h hg he hne hf rfl hl
  · intro P g a h hg s hu ih hl
    have ih := ih (by rw [List.length_set]; exact hl)
    refine Ev_step (st' := clS m ks c (P.set g (at_ P a)) a) ?_ (Ev_mono ih ?_)
    · have g1 := reachesA (m := m) (ks := ks) (c := c) s.lt hg (at_okk h s.lt s.ne) hl
      have g3 := behindA (m := m) (ks := ks) (c := c) (J := []) hg hl
      rw [at_free h s.lt s.ne, hu, decide_eq_true (s.en hu)] at g1
      have L := pls_len P
      have q := pls_at s.lt
      have e0 : P.getD a default = at_ P a := rfl
      rw [e0] at q
      have ps := pls_set (at_ P a) P g
      generalize kyC (at_ P a).k = Kc at *
      simp only [plC] at q
      simp (config := { maxSteps := 1000000 }) (disch := omega) only [go_sem, ↓reduceIte, Nat.reduceEqDiff, Nat.reduceAdd, Int.reduceToNat, reduceCtorEq, Nat.reduceLeDiff, Nat.reduceSub, Nat.reduceDiv, Nat.reduceMod, Nat.reduceMul, d1051_b0, clS, clM0]
      refine EvO_all ?_
      refine evC_imp g3 ?_
      rintro v hp' ⟨rfl, rfl⟩
      simp (config := { maxSteps := 1000000 }) (disch := omega) only [go_sem, ↓reduceIte, Nat.reduceEqDiff, Nat.reduceAdd, Int.reduceToNat, reduceCtorEq, Nat.reduceLeDiff, Nat.reduceSub, Nat.reduceDiv, Nat.reduceMod, Nat.reduceMul, alQ, clH, List.append_nil]
      have hn := nx_lt hg
      have hcn : nx P.length g ≠ g := by
        have := s.lt; have := s.ne
        unfold nx; split <;> omega
      have hca := cd_lt hg s.lt
      have hc1 : cd P.length g a ≠ 0 := fun q => s.ne (cd_zero hg s.lt q)
      have hcx := cd_nx hg hg (by rw [cd_self]; omega)
      rw [cd_self] at hcx
      refine cl_loop h hg s hl ?_ (cd P.length g a - 1) (nx P.length g) hn hcn (by omega)
      simp (config := { maxSteps := 1000000 }) (disch := omega) only [go_sem, ↓reduceIte, Nat.reduceEqDiff, Nat.reduceAdd, Int.reduceToNat, reduceCtorEq, Nat.reduceLeDiff, Nat.reduceSub, Nat.reduceDiv, Nat.reduceMod, Nat.reduceMul, d1051_b1, clI, clM0]
      refine EvO_all ?_
      refine evC_imp g1 ?_
      rintro v hp' ⟨rfl, rfl⟩
      have slt := s.lt
      simp (config := { maxSteps := 1000000 }) (disch := omega) only [go_sem, ↓reduceIte, Nat.reduceEqDiff, Nat.reduceAdd, Int.reduceToNat, reduceCtorEq, Nat.reduceLeDiff, Nat.reduceSub, Nat.reduceDiv, Nat.reduceMod, Nat.reduceMul, alQ, clH, List.cons_append, List.nil_append, Bool.not_true, Bool.not_false, Bool.true_and, L, q, ps]
    · rintro x st ⟨rfl, P', g', C, h1, h2, h3⟩
      refine ⟨rfl, P', g', ⟨by rw [C.len, List.length_set], by have := C.lt; rwa [List.length_set] at this, C.ring, fun x => (C.has x).trans (move_has hg s.lt s.ne hu x), C.us.trans (usN_move hg s.lt s.ne)⟩, h1, h2, h3⟩
  · intro P g a h hg s hu hl
    refine Ev_stop ?_
    have g1 := reachesA (m := m) (ks := ks) (c := c) s.lt hg (at_okk h s.lt s.ne) hl
    have g2 := fun J => freeA (m := m) (ks := ks) (c := c) (J := J) s.lt hl
    have g3 := behindA (m := m) (ks := ks) (c := c) (J := []) hg hl
    rw [at_free h s.lt s.ne, hu] at g1
    rw [at_free h s.lt s.ne, hu] at g2
    have hz : (at_ P a) = default := (h a s.lt s.ne).1 hu
    rw [show kyC (at_ P a).k = [.int .i64 0, .int .i64 0, .int .i64 0] by rw [hz]; rfl] at g1
    simp (config := { maxSteps := 1000000 }) (disch := omega) only [go_sem, ↓reduceIte, Nat.reduceEqDiff, Nat.reduceAdd, Int.reduceToNat, reduceCtorEq, Nat.reduceLeDiff, Nat.reduceSub, Nat.reduceDiv, Nat.reduceMod, Nat.reduceMul, d1051_b0, clS, clM0]
    refine EvO_all ?_
    refine evC_imp g3 ?_
    rintro v hp' ⟨rfl, rfl⟩
    simp (config := { maxSteps := 1000000 }) (disch := omega) only [go_sem, ↓reduceIte, Nat.reduceEqDiff, Nat.reduceAdd, Int.reduceToNat, reduceCtorEq, Nat.reduceLeDiff, Nat.reduceSub, Nat.reduceDiv, Nat.reduceMod, Nat.reduceMul, alQ, clH, List.append_nil]
    have hn := nx_lt hg
    have hcn : nx P.length g ≠ g := by
      have := s.lt; have := s.ne
      unfold nx; split <;> omega
    have hca := cd_lt hg s.lt
    have hc1 : cd P.length g a ≠ 0 := fun q => s.ne (cd_zero hg s.lt q)
    have hcx := cd_nx hg hg (by rw [cd_self]; omega)
    rw [cd_self] at hcx
    refine cl_loop h hg s hl ?_ (cd P.length g a - 1) (nx P.length g) hn hcn (by omega)
    simp (config := { maxSteps := 1000000 }) (disch := omega) only [go_sem, ↓reduceIte, Nat.reduceEqDiff, Nat.reduceAdd, Int.reduceToNat, reduceCtorEq, Nat.reduceLeDiff, Nat.reduceSub, Nat.reduceDiv, Nat.reduceMod, Nat.reduceMul, d1051_b1, clI, clM0]
    refine EvO_all ?_
    refine evC_imp g1 ?_
    rintro v hp' ⟨rfl, rfl⟩
    simp (config := { maxSteps := 1000000 }) (disch := omega) only [go_sem, ↓reduceIte, Nat.reduceEqDiff, Nat.reduceAdd, Int.reduceToNat, reduceCtorEq, Nat.reduceLeDiff, Nat.reduceSub, Nat.reduceDiv, Nat.reduceMod, Nat.reduceMul, alQ, Bool.not_true, Bool.not_false, Bool.true_and, Bool.false_and]
    refine EvO_all ?_
    refine evC_imp (g2 _) ?_
    rintro v hp' ⟨rfl, rfl⟩
    simp (config := { maxSteps := 1000000 }) (disch := omega) only [go_sem, ↓reduceIte, Nat.reduceEqDiff, Nat.reduceAdd, Int.reduceToNat, reduceCtorEq, Nat.reduceLeDiff, Nat.reduceSub, Nat.reduceDiv, Nat.reduceMod, Nat.reduceMul, alQ, Bool.not_true, Bool.not_false, clH, List.cons_append, List.nil_append]
    exact ⟨P, g, ⟨rfl, hg, scan_stop h hg s hu, fun _ => Iff.rfl, rfl⟩, rfl, rfl⟩
end
end Go.Proofs.Ythpgaecloecflaa
