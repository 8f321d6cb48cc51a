/- slices.Clone: a slice that is nil, or not, comes to the same contents. -/
import Derived.Test.YtjebbkpbaglooaaKat
namespace Go.Proofs.Ytjebbkpbaglooaa
set_option linter.unusedSimpArgs false
set_option linter.unusedVariables false
open Go.RowKit
mutual
theorem ren_noid {r : Nat → Nat} : ∀ x : AV, x.allv pnoid = true → ren r x = x
  | .sl sz cs, h => by simp only [AV.allv, Bool.and_eq_true] at h; simp only [ren, AV.mapv]; rw [show mapL (ren1 r) cs = cs from renL_noid cs h.2]; rfl
  | .ip cs, h => by simp only [AV.allv, Bool.and_eq_true] at h; simp only [ren, AV.mapv]; rw [show mapL (ren1 r) cs = cs from renL_noid cs h.2]; rfl
  | .vec sz cs, h => by simp only [AV.allv, Bool.and_eq_true] at h; simp only [ren, AV.mapv]; rw [show mapL (ren1 r) cs = cs from renL_noid cs h.2]; rfl
  | .box cs, h => by simp only [AV.allv, Bool.and_eq_true] at h; simp only [ren, AV.mapv]; rw [show mapL (ren1 r) cs = cs from renL_noid cs h.2]; rfl
  | .agg cs, h => by simp only [AV.allv, Bool.and_eq_true] at h; simp only [ren, AV.mapv]; rw [show mapL (ren1 r) cs = cs from renL_noid cs h.2]; rfl
  | .tup cs, h => by simp only [AV.allv, Bool.and_eq_true] at h; simp only [ren, AV.mapv]; rw [show mapL (ren1 r) cs = cs from renL_noid cs h.2]; rfl
  | .mp ks vs, h => by simp only [AV.allv, Bool.and_eq_true] at h; simp only [ren, AV.mapv]; rw [show mapL (ren1 r) ks = ks from renL_noid ks h.2.1, show mapL (ren1 r) vs = vs from renL_noid vs h.2.2]; rfl
  | .clo f ks vs, h => by simp only [AV.allv, Bool.and_eq_true] at h; simp only [ren, AV.mapv]; rw [show mapL (ren1 r) ks = ks from renL_noid ks h.2.1, show mapL (ren1 r) vs = vs from renL_noid vs h.2.2]; rfl
  | .ifc t v, h => by simp only [AV.allv, Bool.and_eq_true] at h; simp only [ren, AV.mapv]; rw [show v.mapv (ren1 r) = v from ren_noid v h.2]; rfl
  | .unk, _ => rfl
  | .any, _ => rfl
  | .maybe _ _, _ => rfl
  | .bool _, _ => rfl
  | .int _ _, _ => rfl
  | .str _, _ => rfl
  | .nils, _ => rfl
  | .nilp, _ => rfl
  | .nilf, _ => rfl
  | .nili, _ => rfl
  | .nilm, _ => rfl
  | .own _ _, h => by simp [AV.allv, pnoid] at h
  | .osl _ _ _ _, h => by simp [AV.allv, pnoid] at h
  | .ref _ _, h => by simp [AV.allv, pnoid] at h
  | .mref _, h => by simp [AV.allv, pnoid] at h
  | .yld _, h => by simp [AV.allv, pnoid] at h
theorem renL_noid {r : Nat → Nat} : ∀ l : List AV, allL pnoid l = true → renL r l = l
  | [], _ => rfl
  | x :: xs, h => by
    simp only [allL, Bool.and_eq_true] at h
    simp only [renL, mapL]
    rw [show x.mapv (ren1 r) = x from ren_noid x h.1, show mapL (ren1 r) xs = xs from renL_noid xs h.2]
end
mutual
theorem idlt_noid {n : Nat} : ∀ x : AV, x.allv pnoid = true → x.allv (pidlt n) = true
  | .sl sz cs, h => by simp only [AV.allv, Bool.and_eq_true] at h ⊢; exact ⟨rfl, idltL_noid cs h.2⟩
  | .ip cs, h => by simp only [AV.allv, Bool.and_eq_true] at h ⊢; exact ⟨rfl, idltL_noid cs h.2⟩
  | .vec sz cs, h => by simp only [AV.allv, Bool.and_eq_true] at h ⊢; exact ⟨rfl, idltL_noid cs h.2⟩
  | .box cs, h => by simp only [AV.allv, Bool.and_eq_true] at h ⊢; exact ⟨rfl, idltL_noid cs h.2⟩
  | .agg cs, h => by simp only [AV.allv, Bool.and_eq_true] at h ⊢; exact ⟨rfl, idltL_noid cs h.2⟩
  | .tup cs, h => by simp only [AV.allv, Bool.and_eq_true] at h ⊢; exact ⟨rfl, idltL_noid cs h.2⟩
  | .mp ks vs, h => by simp only [AV.allv, Bool.and_eq_true] at h ⊢; exact ⟨rfl, idltL_noid ks h.2.1, idltL_noid vs h.2.2⟩
  | .clo f ks vs, h => by simp only [AV.allv, Bool.and_eq_true] at h ⊢; exact ⟨rfl, idltL_noid ks h.2.1, idltL_noid vs h.2.2⟩
  | .ifc t v, h => by simp only [AV.allv, Bool.and_eq_true] at h ⊢; exact ⟨rfl, idlt_noid v h.2⟩
  | .unk, h => by simp [AV.allv, pnoid] at h
  | .any, _ => rfl
  | .maybe _ _, _ => rfl
  | .bool _, _ => rfl
  | .int _ _, _ => rfl
  | .str _, _ => rfl
  | .nils, _ => rfl
  | .nilp, _ => rfl
  | .nilf, _ => rfl
  | .nili, _ => rfl
  | .nilm, _ => rfl
  | .own _ _, h => by simp [AV.allv, pnoid] at h
  | .osl _ _ _ _, h => by simp [AV.allv, pnoid] at h
  | .ref _ _, h => by simp [AV.allv, pnoid] at h
  | .mref _, h => by simp [AV.allv, pnoid] at h
  | .yld _, h => by simp [AV.allv, pnoid] at h
theorem idltL_noid {n : Nat} : ∀ l : List AV, allL pnoid l = true → allL (pidlt n) l = true
  | [], _ => rfl
  | x :: xs, h => by
    simp only [allL, Bool.and_eq_true] at h ⊢
    exact ⟨idlt_noid x h.1, idltL_noid xs h.2⟩
end
section
variable {P : Program} {fid : FuncId → Option Nat} {T : Nat → Option Entry}
def RunsQ (P : Program) (fid : FuncId → Option Nat) (nt : Nat) (c : Code) (st : St) (Q : Res → Prop) : Prop := ∀ (fr0 fr : Nat → Prop) w0 m a w, SInv P fid fr0 fr w0 nt m st a w → c.wpIn (FF none) 0 P (fun ex a' w' => ∃ r, Q r ∧ Post P fid fr0 fr w0 nt m st.lo r ex a' w') a w
theorem runsQ_of (G : Good P fid T) {nt : Nat} {c : Code} {s : Stmt} {st : St} {r : Res} {Q : Res → Prop} (hc : CodeS P fid nt c s) (h : run T (.stmt s st) = some r) (hQ : Q r) : RunsQ P fid nt c st Q := by
  intro fr0 fr w0 m a w S
  obtain ⟨n, hn⟩ := run_some.1 h
  exact wpIn_mono (says G n _ _ hn c fr0 fr w0 nt m a w none hc (.inl rfl) S) (fun ex a w h => ⟨r, hQ, h⟩)
theorem runsQ_seq {nt : Nat} {cx cy : Code} {st : St} {Q1 Q2 : Res → Prop} (h1 : RunsQ P fid nt cx st Q1) (h2 : ∀ r, Q1 r → (r.1 = .normal → RunsQ P fid nt cy r.2 Q2) ∧ (r.1 ≠ .normal → Q2 r)) : RunsQ P fid nt (.seq cx cy) st Q2 := by
  intro fr0 fr w0 m a w S
  refine wpIn_seq (wpIn_mono (h1 fr0 fr w0 m a w S) ?_)
  rintro ex a1 w1 ⟨r1, hq, rfl, fr1, w1', m1, hW1, hF1, hlo1, S1⟩
  obtain ⟨k1, k2⟩ := h2 r1 hq
  cases hx : r1.1 with
  | normal =>
    refine wpIn_mono (k1 hx fr0 fr1 w1' m1 a1 w1 S1) ?_
    rintro ex a2 w2 ⟨r, hr, h⟩
    exact ⟨r, hr, h.after hW1 hF1 hlo1⟩
  | exit id => exact ⟨r1, k2 (by rw [hx]; simp), by rw [hx], fr1, w1', m1, hW1, hF1, hlo1, S1⟩
  | ret => exact ⟨r1, k2 (by rw [hx]; simp), by rw [hx], fr1, w1', m1, hW1, hF1, hlo1, S1⟩
theorem runsQ_cond {nt : Nat} {o : Operand} {x : SX} {cy cz : Code} {st : St} {Q : Res → Prop} (hx : opd fid o = some x) {e b : Bool} (hb : st.ev x = .maybe e b) (h1 : e = true ∨ b = true → RunsQ P fid nt cy st Q) (h2 : e = true ∨ b = false → RunsQ P fid nt cz st Q) : RunsQ P fid nt (.cond o cy cz) st Q := by
  intro fr0 fr w0 m a w S
  have hv := opd_ok (st := st) S.cd hx S.e
  rw [hb] at hv
  simp only [C] at hv
  obtain ⟨t, hv, ht⟩ := hv
  refine wpIn_cond hv ?_
  cases t with
  | false => exact h2 (by cases e with | true => exact .inl rfl | false => exact .inr (ht rfl).symm) fr0 fr w0 m a w S
  | true => exact h1 (by cases e with | true => exact .inl rfl | false => exact .inr (ht rfl).symm) fr0 fr w0 m a w S
theorem runsQ_call {f : FuncId} {fn : Func} {c : Code} {as : List AV} {hp : List Blk} {res : List RS} {r : Res} {ru : AV} {q : AV × List Blk} (h1 : P.funcs[f]? = some fn) (h2 : fn.body = some c) (h5 : cres P fn.results.toList = some (res.map RS.rv)) (hs : RunsQ P fid fn.ntmps c ⟨bindParams 0 as, hp, hp.length, []⟩ (· = r)) (hx : ∀ id, r.1 ≠ .exit id) (hres : results r.2.env r.2.hp res = some ru)
    (hf : fin hp.length (still r.2.hp (rsIds r.2.env r.2.hp res)) ru = some q) : CallOk P fid f as hp q := by
  refine fin_ok (hp' := still r.2.hp (rsIds r.2.env r.2.hp res)) (v := ru) ?_ hf
  intro fr w0 m w args hP hcd H hC hsz
  refine callsIn_of_wp_marks h1 h2 trivial ?_
  have S : SInv P fid fr fr w0 fn.ntmps m ⟨bindParams 0 as, hp, hp.length, []⟩ { tmps := args ++ Array.replicate (fn.ntmps - args.size) undef, defers := [] } w :=
    ⟨hP, hcd, H, env_params hC hsz _, by simp; omega, ⟨fun _ h => h, [], rfl, by simp, by simp⟩, Nat.le_refl _⟩
  refine wpIn_mono (hs fr fr w0 m _ w S) ?_
  rintro ex a' w' ⟨r', hr', he, fr', w1, m', hW, hF, hlo, S'⟩
  rw [hr'] at he hlo S'
  subst he
  obtain ⟨hsub, M, hM, hMn, hMm⟩ := S'.d
  have hMw : ∀ r ∈ M, w'.heap[r]? = some (.deferred (some [])) := fun q hq => by rw [(S'.h.fix q (hMm q hq).1).2]; exact (hMm q hq).2.2
  have hb : LeavesInM Fence.wide 0 P fn a'.tmps (fun e w'' => ∃ u m', e = .returned u ∧ Fwd fr hp.length m m' ∧ HInv fr w0 m' (still r.2.hp (rsIds r.2.env r.2.hp res)) w'' [] ∧ R m' w'' ru u []) a'.defers .returning w' := by
    refine leaves_ok a'.defers M w' hM hMn hMw ?_
    intro w2 e1 e2 e3 e4 e5
    have H2 : HInv fr w0 m' r.2.hp w2 [] := S'.h.narrow hW e1 e2 e3 e4 (fun g hne => by
      have hgM : g ∈ M := Classical.byContradiction fun h => hne (e5 g h)
      exact ⟨(hMm g hgM).1, (hMm g hgM).2.1, fun o => by simp [World.cell?, hMw g hgM]⟩)
    obtain ⟨v, hv1, hv2⟩ := results_ok (P := P) H2 S'.e h5 hres
    obtain ⟨m3, E3, H3⟩ := H2.still (rsIds r.2.env r.2.hp res)
    have hl : hp.length ≤ m'.bl.length := by
      have := S'.l
      rw [hlo] at this
      rw [H2.len]; exact this
    exact ⟨v, hv1, v, m3, rfl, hF.trans (E3.fwd hl), H3, R_mono E3.le (fun _ _ => rfl) hv2⟩
  cases hr : r.1 with
  | normal => exact hb
  | ret => exact hb
  | exit id => exact absurd hr (hx id)
def cloneG (sz bytes : Nat) (as : List AV) (hps : List Blk) : Option (AV × List Blk) :=
  match as, hps with
  | [.sl s cs], [] => if (s = sz ∨ cs = []) ∧ noinlL cs = true ∧ noidL cs = true ∧ cs.length / sz * bytes ≤ 140737488355328 ∧ cs.all AV.okc = true then some (.vec sz cs, []) else none
  | _, _ => none
def cloneD (sz bytes : Nat) (z : List AV) : Stmt := .seq (.ops false [⟨some 2, .move (.val .nils), none⟩]) (.seq (.seq (.ops false [⟨some 3, .move (.tmp 0), none⟩, ⟨some 4, .isnil false (.tmp 3), none⟩]) (.cond (.tmp 4) (.seq (.ops false [⟨some 2, .move (.val .nils), none⟩]) .ret) .skip)) (.seq (.ops false [⟨some 5, .lit false z sz 0 [], none⟩, ⟨some 6, .move (.tmp 0), none⟩, ⟨some 7, .append sz bytes (.tmp 5) (.tmp 6), none⟩, ⟨some 2, .move (.tmp 7), none⟩]) .ret))
def cloneA (sz : Nat) : Stmt := .after (.after (.ops false [⟨some 2, .move (.val .nils), none⟩]) (.own sz 2)) (.push 0 [0, 2])
def cloneC (sz : Nat) : Stmt := .seq (.ops false [⟨some 2, .move (.val .nils), none⟩]) (.ghost (.own sz 2) (.ghost (.norm 0) .ret))
def cloneE (sz bytes : Nat) (z : List AV) : Stmt := .seq (.ops false [⟨some 5, .lit true z sz 0 [], none⟩, ⟨some 6, .move (.tmp 0), none⟩, ⟨some 7, .append sz bytes (.tmp 5) (.tmp 6), none⟩, ⟨some 2, .move (.tmp 7), none⟩]) (.ghost (.norm 0) .ret)
def noT : Nat → Option Entry := fun _ => none
theorem run_of_Ev {s : Stmt} {st : St} {x : AX} {st' : St} (h : Ev T s st (fun y s => y = x ∧ s = st')) : run T (.stmt s st) = some (x, st') := by
  obtain ⟨⟨y, s⟩, h1, h2, h3⟩ := h
  simp only at h2 h3
  subst h2 h3
  exact h1
theorem codeS_like {nt : Nat} {c : Code} {s s' : Stmt} (h : CodeS P fid nt c s) (he : erase s' = erase s) (hd : drawS c s' = drawS c s) : CodeS P fid nt c s' := ⟨by rw [he]; exact h.1, by rw [hd]; exact h.2.1, h.2.2⟩
theorem clone_ok {f : FuncId} {fn : Func} {c : Code} {sz bytes : Nat} {z : List AV} (h1 : P.funcs[f]? = some fn) (h2 : fn.body = some c) (h3 : (fn.name == "runtime.NumGoroutine") = false) (h4 : CodeS P fid fn.ntmps c (cloneD sz bytes z)) (h5 : cres P fn.results.toList = some [.tmp 2]) : EntryOk P fid f (.orc (cloneG sz bytes)) := by
  refine ⟨⟨fn, h1, by rw [h2]; rfl, h3⟩, ?_⟩
  intro as hps r hr
  unfold cloneG at hr
  split at hr
  · rename_i s cs
    split at hr
    · rename_i hc
      obtain ⟨hs, hni, hno, hby, hok⟩ := hc
      injection hr with hr; subst hr
      have G : Good P fid noT := fun f k e _ h => by cases h
      obtain ⟨ca, c1, rfl, hca, hc1⟩ := cc_seq h4
      obtain ⟨c2, cr, rfl, hc2, hcr⟩ := cc_seq hc1
      obtain ⟨co, c3, rfl, hco, hc3⟩ := cc_seq hc2
      obtain ⟨oo, cy, cz, rfl, hoo, hcy, hcz⟩ := cc_cond hc3
      have hidn : ∀ n, allL (pidlt n) cs = true := fun n => idltL_noid cs hno
      have hren : ∀ r, mapL (ren1 r) cs = cs := fun r => renL_noid cs hno
      have hids : idsL cs = [] := noidL_ids cs hno
      let st1 : St := ⟨[(0, .sl s cs), (2, .own sz 0)], [.row false []], 0, [(0, 1, [0, 2], [(2, 0)])]⟩
      let st2 : St := ⟨(4, .maybe cs.isEmpty false) :: (3, .sl s cs) :: st1.env, [.row false []], 0, [(0, 1, [0, 2], [(2, 0)])]⟩
      let st3 : St := ⟨[(0, .sl s cs), (2, .own sz 0)], [.row false cs], 0, [(0, 1, [0, 2], [(2, 0)])]⟩
      have rA : run noT (.stmt (cloneA sz) ⟨bindParams 0 [.sl s cs], [], 0, []⟩) = some (.normal, st1) := run_of_Ev (by
        simp (config := { maxSteps := 1000000 }) (disch := omega) only [go_sem, ↓reduceIte, Nat.reduceEqDiff, Nat.reduceAdd, Int.reduceToNat, reduceCtorEq, Nat.reduceLeDiff, Nat.reduceSub, Nat.reduceDiv, Nat.reduceMod, Nat.reduceMul, cloneA, st1])
      have rB : run noT (.stmt (.ops false [⟨some 3, .move (.tmp 0), none⟩, ⟨some 4, .isnil false (.tmp 3), none⟩]) st1) = some (.normal, st2) := run_of_Ev (by
        simp (config := { maxSteps := 1000000 }) (disch := omega) only [go_sem, ↓reduceIte, Nat.reduceEqDiff, Nat.reduceAdd, Int.reduceToNat, reduceCtorEq, Nat.reduceLeDiff, Nat.reduceSub, Nat.reduceDiv, Nat.reduceMod, Nat.reduceMul, st1, st2])
      have rC : cs = [] → run noT (.stmt (cloneC sz) st2) = some (.ret, st3) := fun h => run_of_Ev (by
        subst h
        simp (config := { maxSteps := 1000000 }) (disch := omega) only [go_sem, ↓reduceIte, Nat.reduceEqDiff, Nat.reduceAdd, Int.reduceToNat, reduceCtorEq, Nat.reduceLeDiff, Nat.reduceSub, Nat.reduceDiv, Nat.reduceMod, Nat.reduceMul, cloneC, st1, st2, st3, hidn, hren])
      have rE : run noT (.stmt (cloneE sz bytes z) st2) = some (.ret, st3) := run_of_Ev (by
        have hni' : allL pnoinl cs = true := hni
        simp (config := { maxSteps := 1000000 }) (disch := omega) only [go_sem, ↓reduceIte, Nat.reduceEqDiff, Nat.reduceAdd, Int.reduceToNat, reduceCtorEq, Nat.reduceLeDiff, Nat.reduceSub, Nat.reduceDiv, Nat.reduceMod, Nat.reduceMul, cloneE, st1, st2, st3, hs, hni', hby, Nat.zero_div, hidn, hren, slc])
      have e1 : RunsQ P fid fn.ntmps (.seq ca (.seq (.seq co (.cond oo cy cz)) cr)) ⟨bindParams 0 [.sl s cs], [], 0, []⟩ (· = (.ret, st3)) := by
        refine runsQ_seq (runsQ_of (Q := (· = (.normal, st1))) G (codeS_like hca (s' := cloneA sz) rfl (by obtain ⟨id, ops, rfl, _⟩ := cc_ops hca; rfl)) rA rfl) ?_
        rintro _ rfl
        refine ⟨fun _ => ?_, fun h => absurd rfl h⟩
        refine runsQ_seq (Q1 := fun r => (cs = [] ∧ r = (.ret, st3)) ∨ r = (.normal, st2)) ?_ ?_
        · refine runsQ_seq (runsQ_of (Q := (· = (.normal, st2))) G hco rB rfl) ?_
          rintro _ rfl
          refine ⟨fun _ => ?_, fun h => absurd rfl h⟩
          refine runsQ_cond hoo (e := cs.isEmpty) (b := false) rfl (fun h => ?_) (fun _ => ?_)
          · have h : cs = [] := by simpa using h
            exact runsQ_of G (codeS_like hcy (s' := cloneC sz) rfl (by obtain ⟨x, y, rfl, hx, hy⟩ := cc_seq hcy; obtain rfl := cc_ret hy; obtain ⟨id, ops, rfl, _⟩ := cc_ops hx; rfl)) (rC h) (.inl ⟨h, rfl⟩)
          · exact runsQ_of G hcz (r := (.normal, st2)) (run_of_Ev (by rw [Ev_skip]; exact ⟨rfl, rfl⟩)) (.inr rfl)
        · rintro _ (⟨_, rfl⟩ | rfl)
          · exact ⟨fun h => (by cases h), fun _ => rfl⟩
          · refine ⟨fun _ => ?_, fun h => absurd rfl h⟩
            exact runsQ_of G (codeS_like hcr (s' := cloneE sz bytes z) rfl (by obtain ⟨x, y, rfl, hx, hy⟩ := cc_seq hcr; obtain rfl := cc_ret hy; obtain ⟨id, ops, rfl, _⟩ := cc_ops hx; rfl)) rE rfl
      refine runsQ_call (res := [⟨.tmp 2, []⟩]) (ru := .own sz 0) h1 h2 h5 e1 (by simp) rfl ?_
      have hno' : allL pnoid cs = true := hno
      have hni' : allL pnoinl cs = true := hni
      simp (config := { maxSteps := 1000000 }) (disch := omega) only [go_sem, ↓reduceIte, Nat.reduceEqDiff, Nat.reduceAdd, Int.reduceToNat, reduceCtorEq, Nat.reduceLeDiff, Nat.reduceSub, Nat.reduceDiv, Nat.reduceMod, Nat.reduceMul, st3, hidn, hren, hno']
    · cases hr
  · cases hr
end
end Go.Proofs.Ytjebbkpbaglooaa
