/-
  Each operation does what the evaluator says (1).
-/
import Derived.Test.YtmeakgiojhoofaaKf
import Derived.WalkSpells
import Derived.Laws.Slices
import Derived.Laws.Strings
import Derived.Laws.MakeOwn
import Derived.Laws.StructEq
namespace Go.Proofs.Ytmeakgiojhoofaa
open Go.RowKit

theorem RL_congr {m : Mem} {w : World} : ∀ {cs : List AV} {g g' : Nat → Option Value} {f : List Nat}, (∀ i, i < cs.length → g' i = g i) → RL m w cs g f → RL m w cs g' f
  | [], _, _, _, _, h => by simpa [RL] using h
  | x :: xs, g, g', f, hg, h => by
    simp only [RL] at h ⊢
    obtain ⟨f1, f2, rfl, ⟨u, h1, h2⟩, h3⟩ := h
    exact ⟨f1, f2, rfl, ⟨u, (hg 0 (by simp)).trans h1, h2⟩, RL_congr (fun i hi => hg (i + 1) (by simp; omega)) h3⟩

theorem setAll_length : ∀ (us cs : List AV) (o : Nat), (setAll cs o us).length = cs.length
  | [], _, _ => rfl
  | u :: us, cs, o => by simp only [setAll]; rw [setAll_length us]; simp

theorem setAll_eq : ∀ (us cs : List AV) (o : Nat), o + us.length ≤ cs.length → setAll cs o us = cs.take o ++ us ++ cs.drop (o + us.length)
  | [], cs, o, _ => by simp [setAll]
  | u :: us, cs, o, h => by
    simp only [List.length_cons] at h
    simp only [setAll]
    rw [setAll_eq us (cs.set o u) (o + 1) (by simp; omega)]
    apply List.ext_getElem?
    intro i
    simp only [List.getElem?_append, List.length_append, List.length_take, List.length_set, List.getElem?_take, List.getElem?_drop, List.getElem?_set, List.length_cons]
    by_cases c1 : i < o
    · simp [show i < min (o + 1) cs.length by omega, show i < min (o + 1) cs.length + us.length by omega, show i < o + 1 by omega, show ¬ o = i by omega, show i < min o cs.length by omega, show i < min o cs.length + (us.length + 1) by omega, c1]
    · by_cases c2 : i = o
      · subst c2
        simp [show i < min (i + 1) cs.length by omega, show i < min (i + 1) cs.length + us.length by omega, show i < cs.length by omega, show ¬ i < min i cs.length by omega, show i < min i cs.length + (us.length + 1) by omega, show i - min i cs.length = 0 by omega]
      · by_cases c3 : i < o + 1 + us.length
        · simp [show ¬ i < min (o + 1) cs.length by omega, show i < min (o + 1) cs.length + us.length by omega, show ¬ i < min o cs.length by omega, show i < min o cs.length + (us.length + 1) by omega]
          rw [show i - min o cs.length = (i - min (o + 1) cs.length) + 1 by omega]
          simp
        · simp [show ¬ i < min (o + 1) cs.length + us.length by omega, show ¬ i < min o cs.length + (us.length + 1) by omega, show ¬ o = o + 1 + us.length + (i - (min (o + 1) cs.length + us.length)) by omega]
          congr 1
          omega

theorem setAll_okc : ∀ (us cs : List AV) (o : Nat), cs.all AV.okc = true → us.all AV.okc = true → (setAll cs o us).all AV.okc = true
  | [], _, _, h, _ => h
  | u :: us, cs, o, h, k => by
    simp only [setAll]
    simp only [List.all_cons, Bool.and_eq_true] at k
    refine setAll_okc us _ _ ?_ k.2
    rw [List.all_eq_true] at h ⊢
    intro x hx
    rcases List.mem_or_eq_of_mem_set hx with hx | rfl
    · exact h x hx
    · exact k.1

theorem addr_add (b o i : Nat) : (⟨b, o, none⟩ : Addr).add i = ⟨b, o + i, none⟩ := by unfold Addr.add; split <;> simp_all

theorem len_div {cs : List AV} {n sz : Nat} (h : cs.length = n * sz) (h0 : cs = [] → n = 0) : cs.length / sz = n := by
  rcases Nat.eq_zero_or_pos sz with hs | hs
  · subst hs
    have : cs = [] := List.eq_nil_of_length_eq_zero (by simpa using h)
    rw [h0 this]; simp
  · rw [h, Nat.mul_div_cancel _ hs]

/-- The values of cells. -/
theorem CL_list {m : Mem} : ∀ (cs : List AV) (g : Nat → Option Value), CL m cs g → ∃ vs : List Value, vs.length = cs.length ∧ (∀ (i : Nat) u, vs[i]? = some u → g i = some u) ∧ CL m cs (fun i => vs[i]?)
  | [], _, _ => ⟨[], rfl, by simp, by simp [CL]⟩
  | x :: xs, g, h => by
    simp only [CL] at h
    obtain ⟨⟨u, hu, hC⟩, hCL⟩ := h
    obtain ⟨vs, h1, h2, h3⟩ := CL_list xs _ hCL
    refine ⟨u :: vs, by simp [h1], ?_, ?_⟩
    · intro i v hv
      cases i with
      | zero => simp at hv; subst hv; exact hu
      | succ i => simp at hv; exact h2 i v hv
    · simp only [CL]
      exact ⟨⟨u, by simp, hC⟩, by simpa using h3⟩

theorem RL_list {m : Mem} {w : World} : ∀ (cs : List AV) (g : Nat → Option Value) (f : List Nat), RL m w cs g f → ∃ vs : List Value, vs.length = cs.length ∧ (∀ (i : Nat) u, vs[i]? = some u → g i = some u) ∧ RL m w cs (fun i => vs[i]?) f
  | [], _, f, h => ⟨[], rfl, by simp, by simpa [RL] using h⟩
  | x :: xs, g, f, h => by
    simp only [RL] at h
    obtain ⟨f1, f2, rfl, ⟨u, hu, hR⟩, hRL⟩ := h
    obtain ⟨vs, h1, h2, h3⟩ := RL_list xs _ f2 hRL
    refine ⟨u :: vs, by simp [h1], ?_, ?_⟩
    · intro i v hv
      cases i with
      | zero => simp at hv; subst hv; exact hu
      | succ i => simp at hv; exact h2 i v hv
    · simp only [RL]
      exact ⟨f1, f2, rfl, ⟨u, by simp, hR⟩, by simpa using h3⟩

theorem RL_one {m : Mem} {w : World} : ∀ {cs : List AV} {g : Nat → Option Value} {f : List Nat}, RL m w cs g f → cs.all AV.okc = true → ∀ i u, i < cs.length → g i = some u → u.oneCell' = true
  | [], _, _, _, _, i, u, hi, _ => by simp at hi
  | x :: xs, g, f, h, hok, i, u, hi, hu => by
    simp only [RL] at h
    obtain ⟨f1, f2, rfl, ⟨u', h1, h2⟩, h3⟩ := h
    simp only [List.all_cons, Bool.and_eq_true] at hok
    cases i with
    | zero => rw [h1] at hu; injection hu with hu; subst hu; exact R_okc h2 hok.1
    | succ i => exact RL_one h3 hok.2 i u (by simpa using hi) hu

theorem vs_one {m : Mem} {w : World} {cs : List AV} {vs : List Value} {f : List Nat} (h : RL m w cs (fun i => vs[i]?) f) (hl : vs.length = cs.length) (hok : cs.all AV.okc = true) : ∀ u ∈ vs, u.oneCell' = true := by
  intro u hu
  obtain ⟨i, hi, rfl⟩ := List.mem_iff_getElem.1 hu
  exact RL_one h hok i _ (by omega) (List.getElem?_eq_getElem hi)

/-- A part is written over. -/
theorem RL_splice {m : Mem} {w : World} {cs us : List AV} {vs ws : List Value} {f fu : List Nat} {o : Nat} (h : RL m w cs (fun i => vs[i]?) f) (hv : cs.length ≤ vs.length) (hu : RL m w us (fun i => ws[i]?) fu) (hw : ws.length = us.length) (hl : o + us.length ≤ cs.length) :
    ∃ fa fb fc, f = fa ++ (fb ++ fc) ∧ RL m w (setAll cs o us) (fun i => (vs.take o ++ ws ++ vs.drop (o + ws.length))[i]?) (fa ++ (fu ++ fc)) := by
  obtain ⟨fa, f2, rfl, ha, h2⟩ := CL_get h o
  have hto : (cs.take o).length = o := by simp; omega
  rw [hto] at h2
  obtain ⟨fb, fc, rfl, hb, hc⟩ := CL_get h2 us.length
  have htu : ((cs.drop o).take us.length).length = us.length := by simp; omega
  rw [htu, List.drop_drop] at hc
  refine ⟨fa, fb, fc, rfl, ?_⟩
  rw [setAll_eq us cs o hl, List.append_assoc, RL_append]
  refine ⟨fa, fu ++ fc, rfl, RL_congr (fun i hi => ?_) ha, ?_⟩
  · rw [hto] at hi
    rw [List.append_assoc, List.getElem?_append_left (by simp; omega), List.getElem?_take, if_pos hi]
  · rw [RL_append]
    refine ⟨fu, fc, rfl, RL_congr (fun i hi => ?_) hu, RL_congr (fun i hi => ?_) hc⟩
    · rw [hto, List.append_assoc, List.getElem?_append_right (by simp; omega), List.getElem?_append_left (by simp; omega)]
      congr 1
      simp; omega
    · simp only [hto]
      rw [List.getElem?_append_right (by simp; omega), List.getElem?_drop]
      congr 1
      simp; omega

section
variable {P : Program} {fid : FuncId → Option Nat} {fr : Nat → Prop} {w0 w : World} {m : Mem} {hp hp' : List Blk} {env : List (Nat × AV)} {a : Act} {o : Oper} {v : AV} {l0 : Nat} {mk : List Mark} {fl : List Nat}

def Goes (P : Program) (o : Oper) (a : Act) (w : World) (fr : Nat → Prop) (w0 : World) (m : Mem) (v : AV) (hp' : List Blk) : Prop :=
  ∃ nx u w' m', (execOp a.eval o).run P w = .ok nx w' ∧ (nx = .value u ∨ (nx = .skip ∧ u = undef)) ∧ Ext fr m m' ∧ C m' v u ∧ HInv fr w0 m' hp' w' []

theorem goes_pure (H : HInv fr w0 m hp w []) {v : AV} {u : Value} (hr : (execOp a.eval o).run P w = .ok (.value u) w) (hC : C m v u) : Goes P o a w fr w0 m v hp :=
  ⟨_, u, w, m, hr, .inl rfl, Ext.refl fr m, hC, H⟩

theorem tidy_ok {n : Nat} : ∀ (k i : Nat) {hp hp' : List Blk} {m : Mem}, tidy n hp i k = some hp' → HInv fr w0 m hp w fl → ∃ m', Ext fr m m' ∧ m'.im = m.im ∧ m'.bl = m.bl ∧ HInv fr w0 m' hp' w fl ∧ hp'.length = hp.length
  | 0, i, hp, hp', m, h, H => by
    simp only [tidy] at h; injection h with h; subst h
    exact ⟨m, Ext.refl fr m, rfl, rfl, H, rfl⟩
  | k + 1, i, hp, hp', m, h, H => by
    simp only [tidy] at h
    split at h
    · rename_i cs hb
      split at h
      · exact tidy_ok k (i + 1) h H
      · rename_i hid
        simp only [Option.bind_eq_some_iff] at h
        obtain ⟨r, hr, h⟩ := h
        split at h
        · rename_i hok
          obtain ⟨e, he, h1, h2, h3, h4, h5⟩ := H.at_ hb
          rcases h5 with ⟨q1, q2, q3⟩ | ⟨g, q1, q2, q3, _⟩
          · exfalso
            have : cs = [] := List.eq_nil_of_length_eq_zero (by rw [h2, show e.n = 0 by omega]; simp)
            subst this
            exact hid rfl
          · obtain ⟨cur, t, f', r1, r2, r3, r4⟩ := q3 rfl
            have Hk := (H.kill i).perm (fl' := (g :: fl) ++ f') (by rw [r3]; simpa using List.perm_append_comm)
            obtain ⟨m1, f1, E1, i1, b1, H1, R1, l1, l2, _⟩ := pkL_ok (f0 := g :: fl) cs hr Hk (RL_mono (le_fp _) (fun _ _ => rfl) (fun _ _ h => h) r4)
            have hx : m1.bl[i]? = some e := by rw [b1]; exact he
            have H1n := H1.fnd
            have H2 := H1.turn (f := g :: f1) (g := fl) (i := i) (b := .row false r.1) hx (fun q hq => .inr (by simp at hq ⊢; rcases hq with h | h | h <;> simp [h])) (by
                refine (List.Perm.nodup_iff ?_).1 H1n
                simpa using List.perm_append_comm) ⟨hok, by rw [l2]; exact h2, fun h => h3 (List.eq_nil_of_length_eq_zero (by rw [← l2, h]; rfl)), h4, .inr ⟨g, q1, q2, fun _ => ⟨cur, t, f1, r1, r2, rfl, R1⟩, fun h => by cases h⟩⟩
            obtain ⟨m3, E3, i3, b3, H3, l3⟩ := tidy_ok k (i + 1) h H2
            exact ⟨m3, (((ext_fp _).trans E1).trans (ext_fp _)).trans E3, by rw [i3]; exact i1, by rw [b3]; exact b1, H3, by rw [l3]; simp [l1]⟩
        · cases h
    · exact tidy_ok k (i + 1) h H

theorem absv_ok (hcd : m.cd = fid) {v : Value} {x : AV} (h : absv fid v = some x) : C m x v ∧ x.okc = true := by
  unfold absv at h
  split at h
  case h_9 f fs cs =>
    split at h
    · rename_i hc
      obtain ⟨rfl, rfl⟩ := hc
      simp only [Option.map_eq_some_iff] at h
      obtain ⟨k, hk, rfl⟩ := h
      refine ⟨?_, rfl⟩
      simp only [C]
      exact ⟨f, #[], #[], rfl, by rw [hcd]; exact hk, rfl, rfl, by simp [CL], by simp [CL]⟩
    · cases h
  all_goals (simp at h; try (subst h; simp [C, AV.okc]))

theorem absL_ok (hcd : m.cd = fid) : ∀ (vs : List Value) (xs : List AV), absL fid vs = some xs → CL m xs (fun i => vs[i]?) ∧ xs.length = vs.length ∧ xs.all AV.okc = true
  | [], xs, h => by simp only [absL] at h; injection h with h; subst h; simp [CL]
  | v :: vs, xs, h => by
    simp only [absL, Option.bind_eq_some_iff, Option.map_eq_some_iff] at h
    obtain ⟨x, hx, ys, hys, rfl⟩ := h
    obtain ⟨k1, k2⟩ := absv_ok hcd hx
    obtain ⟨h1, h2, h3⟩ := absL_ok hcd vs ys hys
    refine ⟨?_, by simp [h2], by simp [k2, h3]⟩
    simp only [CL]
    exact ⟨⟨v, by simp, k1⟩, by simpa using h1⟩

theorem opd_ok {st : St} (hcd : m.cd = fid) {x : Operand} {y : SX} (h : opd fid x = some y) (E : EnvOk m st.env a.tmps) : C m (st.ev y) (a.eval x) := by
  unfold opd at h
  split at h
  · injection h with h; subst h; exact E _
  · simp only [Option.map_eq_some_iff] at h
    obtain ⟨v, hv, rfl⟩ := h
    exact (absv_ok hcd hv).1
  · rename_i f
    simp only [Option.map_eq_some_iff] at h
    obtain ⟨k, hk, rfl⟩ := h
    simp only [St.ev, C]
    exact ⟨f, #[], #[], rfl, by rw [hcd]; exact hk, rfl, rfl, by simp [CL], by simp [CL]⟩
  · cases h

theorem opds_ok {st : St} (hcd : m.cd = fid) : ∀ (xs : List Operand) (ys : List SX), opds fid xs = some ys → EnvOk m st.env a.tmps → CL m (ys.map st.ev) (fun i => (xs.map a.eval)[i]?) ∧ ys.length = xs.length
  | [], ys, h, E => by simp only [opds] at h; injection h with h; subst h; simp [CL]
  | x :: xs, ys, h, E => by
    simp only [opds, Option.bind_eq_some_iff, Option.map_eq_some_iff] at h
    obtain ⟨y, hy, zs, hzs, rfl⟩ := h
    obtain ⟨h1, h2⟩ := opds_ok hcd xs zs hzs E
    refine ⟨?_, by simp [h2]⟩
    simp only [List.map_cons, CL]
    exact ⟨⟨a.eval x, by simp, opd_ok hcd hy E⟩, by simpa using h1⟩

theorem opdo_ok {st : St} (hcd : m.cd = fid) {x : Option Operand} {y : Option SX} (h : opdo fid x = some y) (E : EnvOk m st.env a.tmps) : (x = none ∧ y = none) ∨ ∃ x' y', x = some x' ∧ y = some y' ∧ C m (st.ev y') (a.eval x') := by
  cases x with
  | none => simp only [opdo] at h; injection h with h; exact .inl ⟨rfl, h.symm⟩
  | some x =>
    simp only [opdo, Option.map_eq_some_iff] at h
    obtain ⟨y', hy, rfl⟩ := h
    exact .inr ⟨x, y', rfl, rfl, opd_ok hcd hy E⟩

theorem tc_bool {t : TypeId} (h : tcOf P t = some 1) : P.underlying t = some .bool := by
  unfold tcOf at h
  split at h <;> first | assumption | (simp at h; done) | (split at h <;> simp at h <;> omega)
theorem tc_ptr {t : TypeId} (h : tcOf P t = some 2) : ∃ e, P.underlying t = some (.pointer e) := by
  unfold tcOf at h
  split at h <;> first | exact ⟨_, by assumption⟩ | (simp at h; done) | (split at h <;> simp at h <;> omega)
theorem tc_struct {t : TypeId} {n : Nat} (h : tcOf P t = some (3 + n)) : ∃ fs, P.underlying t = some (.struct fs) ∧ encF P fs.toList = n ∧ flatF P 0 fs.toList = true ∧ P.stoodInHeld t = false ∧ P.eqGuardType P.depth t = false := by
  unfold tcOf at h
  split at h
  · simp at h; omega
  · simp at h; omega
  · simp at h; omega
  · simp at h; omega
  · rename_i fs hf
    split at h
    · rename_i hc
      simp only [Bool.and_eq_true, Bool.not_eq_true'] at hc
      injection h with h
      exact ⟨fs, hf, by omega, hc.1.1, hc.1.2, hc.2⟩
    · cases h
  · cases h

theorem isAgg_flat {t : TypeId} (h : (∃ k, P.underlying t = some (.int k)) ∨ P.underlying t = some .bool ∨ P.underlying t = some .string) (w : World) : (isAgg t).run P w = .ok false w := by
  rcases h with ⟨k, h⟩ | h | h <;> simp [isAgg, run_underlying h]

theorem eqFields_ok {d : Nat} {xs ys : Array Value} : ∀ (fs : List Field) (i : Nat) (as bs : List AV) (r : Bool), flatF P i fs = true → encF P fs = encA as → CL m as (fun j => xs[i + j]?) → CL m bs (fun j => ys[i + j]?) → aeqL as bs = some r → (Op.eqFields (d + 1) xs ys fs).run P w = .ok r w
  | [], i, as, bs, r, _, hl, _, _, h => by
    cases as with
    | cons a as => simp only [encF, encA] at hl; omega
    | nil =>
      cases bs with
      | nil => simp only [aeqL, Option.some.injEq] at h; subst h; simp [Op.eqFields]
      | cons b bs => simp [aeqL] at h
  | f :: fs, i, [], bs, r, _, hl, _, _, h => by simp only [encF, encA] at hl; omega
  | f :: fs, i, a :: as, [], r, _, hl, _, _, h => by simp [aeqL] at h
  | f :: fs, i, a :: as, b :: bs, r, hf, hl, h1, h2, h => by
    simp only [flatF, Bool.and_eq_true, bne_iff_ne, ne_eq, beq_iff_eq] at hf
    obtain ⟨⟨⟨f1, f2⟩, f3⟩, f4⟩ := hf
    simp only [CL] at h1 h2
    obtain ⟨⟨u, hu, hCu⟩, h1⟩ := h1
    obtain ⟨⟨v, hv, hCv⟩, h2⟩ := h2
    simp only [Nat.add_zero] at hu hv
    simp only [aeqL, Option.bind_eq_some_iff, Option.map_eq_some_iff] at h
    obtain ⟨x, hx, y, hy, rfl⟩ := h
    simp only [encF, encA] at hl
    have hd1 : digF P f.type ≤ 2 := by unfold digF; split <;> omega
    have hd2 : digA a ≤ 2 := by unfold digA; split <;> omega
    have htl : encF P fs = encA as := by omega
    have hdig : digF P f.type = digA a := by omega
    have ih := eqFields_ok (d := d) fs (i + 1) as bs y f4 htl (by simpa only [Nat.add_assoc, Nat.add_comm 1] using h1) (by simpa only [Nat.add_assoc, Nat.add_comm 1] using h2) hy
    have hkind : (∃ k, P.underlying f.type = some (.int k)) ∨ P.underlying f.type = some .bool ∨ P.underlying f.type = some .string := by
      split at f3
      · rename_i k hq; exact .inl ⟨k, hq⟩
      · rename_i hq; exact .inr (.inr hq)
      · rename_i hq; exact .inr (.inl hq)
      · cases f3
    have hagg := isAgg_flat hkind w
    have hp1 : (Go.part f.type xs f.offset).run P w = .ok u w := by rw [f2]; simp [Go.part, hagg, hu]
    have hp2 : (Go.part f.type ys f.offset).run P w = .ok v w := by rw [f2]; simp [Go.part, hagg, hv]
    have heq : (Op.equalIn (d + 1) f.type u v).run P w = .ok x w := by
      cases a <;> cases b <;> simp only [aeq, reduceCtorEq] at hx
      · simp only [C] at hCu hCv; subst hCu; subst hCv
        injection hx with hx; subst hx
        rcases hkind with ⟨k, hk⟩ | hk | hk
        · simp [digF, digA, hk] at hdig
        · exact run_equalIn_bool' w d _ _ _ hk
        · simp [digF, digA, hk] at hdig
      · simp only [C] at hCu hCv; subst hCu; subst hCv
        split at hx
        · rename_i hkk
          subst hkk
          injection hx with hx; subst hx
          rcases hkind with ⟨k, hk⟩ | hk | hk
          · exact run_equalIn_int w d _ _ _ _ _ hk
          · simp [digF, digA, hk] at hdig
          · simp [digF, digA, hk] at hdig
        · cases hx
      · simp only [C] at hCu hCv; subst hCu; subst hCv
        injection hx with hx; subst hx
        rcases hkind with ⟨k, hk⟩ | hk | hk
        · simp [digF, digA, hk] at hdig
        · simp [digF, digA, hk] at hdig
        · rw [run_equalIn_string w d _ _ _ hk]
          simp [ByteArray.toList_eq]
    simp only [Op.eqFields, if_pos f1, Sem.run_bind, hp1, hp2, heq, Result.andThen_ok]
    cases x
    · simp
    · simpa using ih

theorem run_eql_ptr_nil (w : World) {t e : TypeId} (h : P.underlying t = some (.pointer e)) (b : Option Addr) : (Op.equal t (.pointer b) (.pointer none)).run P w = .ok b.isNone w := by
  have key : ∀ d, (Op.equalIn (d + 1) t (.pointer b) (.pointer none)).run P w = .ok b.isNone w := by
    intro d
    cases b <;> simp [Op.equalIn, run_underlying h]
  exact key 9999

def toV : AV → Value
  | .bool b => .bool b
  | .int k n => .int k n
  | .str s => .string ⟨s.toArray⟩
  | _ => undef

theorem abin_ok {tc : Nat} {op : BinOp} {t : TypeId} {x y : AV} {u v : Value} {z : AV} (ht : tcOf P t = some tc) (hx : C m x u) (hy : C m y v) (h : abin tc op x y = some z) (px py : Operand) :
    ∃ r, (eqGuard op t px py u v).run P w = .ok () w ∧ (binOp op t u v).run P w = .ok r w ∧ C m z r := by
  refine ⟨toV z, ?_⟩
  cases x <;> cases y <;> simp only [abin, reduceCtorEq] at h
  · rename_i b1 b2
    simp only [C] at hx hy; subst hx; subst hy
    split at h
    · cases h
    · rename_i htc
      have htc : tc = 1 := by omega
      subst htc
      have hb := tc_bool ht
      refine ⟨by simp [go_sem], ?_⟩
      cases op <;> simp only [reduceCtorEq, Option.some.injEq] at h <;> subst h
      · exact ⟨run_eql_bool w t b1 b2 hb, by simp [C, toV]⟩
      · exact ⟨run_neq_bool w t b1 b2 hb, by simp [C, toV]⟩
  · rename_i k1 n1 k2 n2
    simp only [C] at hx hy; subst hx; subst hy
    refine ⟨by simp [go_sem], ?_⟩
    cases op <;> simp only at h
    all_goals first
      | (split at h
         · cases h
         · rename_i hb
           injection h with h
           subst h
           exact ⟨by simp [go_sem, binOp, Op.shift, hb, toV], by simp [C, toV]⟩)
      | (split at h
         · rename_i hk
           subst hk
           first
             | (injection h with h
                subst h
                exact ⟨by simp [go_sem, Op.intArith, toV], by simp [C, toV]⟩)
             | (split at h
                · cases h
                · rename_i h0
                  injection h with h
                  subst h
                  exact ⟨by simp [go_sem, Op.intDiv, h0, toV], by simp [C, toV]⟩)
             | cases h
         · cases h)
  · rename_i s1 s2
    simp only [C] at hx hy; subst hx; subst hy
    refine ⟨by simp [go_sem], ?_⟩
    have hbl : ∀ l : List UInt8, (ByteArray.mk l.toArray).size = l.length := fun l => by simp [ByteArray.size]
    have hap : ∀ l k : List UInt8, (ByteArray.mk l.toArray) ++ (ByteArray.mk k.toArray) = ByteArray.mk (l ++ k).toArray := fun l k => by
      apply ByteArray.ext; simp
    cases op <;> simp only [reduceCtorEq, Option.some.injEq] at h
    all_goals first
      | (split at h
         · rename_i hle
           injection h with h
           subst h
           refine ⟨?_, by simp [C, toV]⟩
           have hn : ¬ (9223372036854775807 : Int) < (s1.length : Int) + (s2.length : Int) := by omega
           simp [go_sem, Op.stringOp, hbl, hn, hap, toV]
         · cases h)
      | (subst h; exact ⟨by simp [binOp, Op.stringOp, toV], by simp [C, toV]⟩)
      | skip
  all_goals
    simp only [C] at hx hy
    split at h
    · cases h
    · rename_i htc
      first
        | (rename_i as bs
           have htc : tc = 3 + encA as := by omega
           subst htc
           obtain ⟨fs, q1, q2, q3, q4, q5⟩ := tc_struct ht
           obtain ⟨_, us, rfl, _, hu⟩ := hx
           obtain ⟨_, vs, rfl, _, hv⟩ := hy
           refine ⟨run_eqGuard_agg w op t px py us vs q5, ?_⟩
           have hfo : P.fieldsOf t = fs := by simp [Program.fieldsOf, q1]
           have key : ∀ b, aeqL as bs = some b → (Op.equalIn 10000 t (.agg us) (.agg vs)).run P w = .ok b w := by
             intro b hb
             rw [run_equalIn_struct w 9999 t us vs (by rw [hfo]; exact q1) q4, hfo]
             exact eqFields_ok fs.toList 0 as bs b q3 q2 (by simpa using hu) (by simpa using hv) hb
           cases op <;> simp only [reduceCtorEq, Option.map_eq_some_iff] at h
           · obtain ⟨b, hb, rfl⟩ := h
             exact ⟨by rw [run_eql_struct, key b hb]; rfl, by simp [C, toV]⟩
           · obtain ⟨b, hb, rfl⟩ := h
             exact ⟨by rw [run_neq_struct, key b hb]; rfl, by simp [C, toV]⟩)
        | (have htc : tc = 2 := by omega
           subst htc
           obtain ⟨e, he⟩ := tc_ptr ht
           first
             | (obtain ⟨_, b, o, rfl, _⟩ := hx)
             | (obtain ⟨e1, _, b, _, rfl⟩ := hx)
             | subst hx
           subst hy
           refine ⟨by simp [go_sem], ?_⟩
           cases op <;> simp only [reduceCtorEq, Option.some.injEq] at h <;> subst h
           all_goals exact ⟨by simp [binOp, run_eql_ptr_nil w he, toV], by simp [C, toV]⟩)
end
end Go.Proofs.Ytmeakgiojhoofaa
