/-
  Each operation does what the evaluator says (2): those that only look.
-/
import Derived.Test.YtmeakgiojhoofaaKg
namespace Go.Proofs.Ytmeakgiojhoofaa
open Go.RowKit

section
variable {P : Program} {fid : FuncId → Option Nat} {fr : Nat → Prop} {w0 w : World} {m : Mem} {hp hp' : List Blk} {env : List (Nat × AV)} {a : Act} {o : Oper} {v : AV} {l0 : Nat} {mk : List Mark} {fl : List Nat}

theorem row_at (H : HInv fr w0 m hp w fl) {id : Nat} {cs : List AV} (hb : rowc hp id = some cs) : ∃ e q, hp[id]? = some (.row q cs) ∧ m.bl[id]? = some e ∧ cs.all AV.okc = true ∧ cs.length = e.n * e.sz ∧ (cs = [] → e.n = 0) ∧ e.n ≤ e.cap ∧
    ((e.b = none ∧ e.cap = 0 ∧ cs = []) ∨ ∃ g f, e.b = some g ∧ e.a = some ⟨g, 0, none⟩ ∧ RL m w cs (fun i => w.cell? ⟨g, i, none⟩) f) := by
  simp only [rowc, Option.bind_eq_some_iff] at hb
  obtain ⟨b, hb, hc⟩ := hb
  cases b <;> simp only [Blk.cells, reduceCtorEq, Option.some.injEq] at hc
  subst hc
  rename_i q cs
  obtain ⟨e, he, h1, h2, h3, h4, h5⟩ := H.at_ hb
  refine ⟨e, q, hb, he, h1, h2, h3, h4, ?_⟩
  rcases h5 with ⟨q1, q2, q3⟩ | ⟨g, q1, q2, q3, q4⟩
  · exact .inl ⟨q1, q2, List.eq_nil_of_length_eq_zero (by rw [h2, show e.n = 0 by omega]; simp)⟩
  · refine .inr ⟨g, ?_⟩
    cases q with
    | false =>
      obtain ⟨cur, t, f', r1, r2, r3, r4⟩ := q3 rfl
      exact ⟨f', q1, q2, RL_mono (Mem.le.refl m) (fun _ _ => rfl) (fun i u hu => by simp [World.cell?, r1]; exact hu) r4⟩
    | true => exact ⟨[], q1, q2, RL_of_CL _ _ (CL_ext (fun i u hu => H.im _ _ _ hu) (q4 rfl).2)⟩

/-- A slice that is read: its value, and its cells. -/
theorem slc_ok (H : HInv fr w0 m hp w fl) {x : AV} {u : Value} {sz : Nat} {xs : List AV} (hsz : 0 < sz) (hC : C m x u) (hs : slc hp sz x = some xs) :
    ∃ (ad : Option Addr) (n c : Nat) (vs : List Value) (f : List Nat), u = .slice ad n c ∧ n ≤ c ∧ xs.length = n * sz ∧ vs.length = xs.length ∧ (∀ (j : Nat) v, vs[j]? = some v → ∃ a', ad = some a' ∧ w.cell? (a'.add j) = some v) ∧ RL m w xs (fun i => vs[i]?) f ∧ xs.all AV.okc = true := by
  cases x <;> simp only [slc, reduceCtorEq] at hs
  · injection hs with hs; subst hs
    simp only [C] at hC
    exact ⟨none, 0, 0, [], [], hC, Nat.le_refl _, by simp, rfl, by simp, by simp [RL], rfl⟩
  · rename_i s cs
    split at hs
    · rename_i hc
      injection hs with hs; subst hs
      simp only [C] at hC
      obtain ⟨h2, ad, n, c, rfl, h3, h4, h5, h6⟩ := hC
      by_cases hne : cs = []
      · subst hne
        have : n = 0 := h4 rfl
        subst this
        exact ⟨ad, 0, c, [], [], rfl, h5, by simp, rfl, by simp, by simp [RL], rfl⟩
      · have hss : s = sz := hc.resolve_right hne
        subst hss
        obtain ⟨b, o, rfl, h7⟩ := h6 hne
        obtain ⟨vs, k1, k2, k3⟩ := CL_list _ _ h7
        exact ⟨_, n, c, vs, [], rfl, h5, h3, k1, fun j v hv => ⟨_, rfl, by rw [addr_add]; exact H.im _ _ _ (k2 j v hv)⟩, RL_of_CL _ _ k3, h2⟩
    · cases hs
  · rename_i s id
    split at hs
    · rename_i hss
      subst hss
      simp only [C] at hC
      obtain ⟨e, he, rfl, hes⟩ := hC
      obtain ⟨e', q, hb, he', h1, h2, h3, h4, h5⟩ := row_at H hs
      rw [he] at he'; injection he' with he'; subst he'
      rw [hes] at h2
      rcases h5 with ⟨q1, q2, rfl⟩ | ⟨g, f, q1, q2, hR⟩
      · exact ⟨e.a, e.n, e.cap, [], [], rfl, h4, h2, rfl, by simp, by simp [RL], rfl⟩
      · obtain ⟨vs, k1, k2, k3⟩ := RL_list _ _ _ hR
        exact ⟨e.a, e.n, e.cap, vs, f, rfl, h4, h2, k1, fun j v hv => ⟨_, q2, by rw [addr_add, Nat.zero_add]; exact k2 j v hv⟩, k3, h1⟩
    · cases hs
  · rename_i s id o n
    split at hs
    · rename_i hss
      subst hss
      simp only [Option.bind_eq_some_iff] at hs
      obtain ⟨cs, hcs, hp1⟩ := hs
      simp only [C] at hC
      obtain ⟨e, he, hes, _, ad, c, rfl, hnc, hco, hca⟩ := hC
      obtain ⟨e', q, hb, he', h1, h2, h3, h4, h5⟩ := row_at H hcs
      rw [he] at he'; injection he' with he'; subst he'
      simp only [part] at hp1
      split at hp1
      · rename_i hle
        injection hp1 with hp1
        subst hp1
        have hlt : ((cs.drop (o * s)).take (n * s)).length = n * s := by simp; rw [Nat.add_mul] at hle; omega
        have hok := all_take (all_drop h1 (o * s)) (n * s)
        by_cases hn : n = 0
        · subst hn
          exact ⟨ad, 0, c, [], [], rfl, hnc, by simp, by simp, by simp, by simp [RL], by simp⟩
        · rcases hca with hc0 | ⟨g', hg', rfl⟩
          · omega
          · rcases h5 with ⟨q1, _⟩ | ⟨g, f, q1, q2, hR⟩
            · rw [q1] at hg'; cases hg'
            · rw [q1] at hg'; injection hg' with hg'; subst hg'
              obtain ⟨fa, fb, rfl, _, hb2⟩ := CL_get hR (o * s)
              obtain ⟨fc, fd, rfl, hc2, _⟩ := CL_get hb2 (n * s)
              have hto : (cs.take (o * s)).length = o * s := by simp; rw [Nat.add_mul] at hle; omega
              rw [hto] at hc2
              obtain ⟨vs, k1, k2, k3⟩ := RL_list _ _ _ hc2
              exact ⟨_, n, c, vs, fc, rfl, hnc, hlt, k1, fun j v hv => ⟨_, rfl, by rw [addr_add]; exact k2 j v hv⟩, k3, hok⟩
      · cases hp1
    · cases hs

theorem sln_ok (H : HInv fr w0 m hp w fl) {x : AV} {u : Value} {n : Nat} (hC : C m x u) (hs : sln hp x = some n) : ∃ ad c, u = .slice ad n c := by
  cases x <;> simp only [sln, reduceCtorEq] at hs
  · injection hs with hs; subst hs; simp only [C] at hC; exact ⟨_, _, hC⟩
  · injection hs with hs; subst hs
    simp only [C] at hC
    obtain ⟨h2, ad, n, c, rfl, h3, h4, h5, h6⟩ := hC
    exact ⟨ad, c, by rw [len_div h3 h4]⟩
  · rename_i s id
    simp only [Option.map_eq_some_iff] at hs
    obtain ⟨cs, hcs, rfl⟩ := hs
    simp only [C] at hC
    obtain ⟨e, he, rfl, hes⟩ := hC
    obtain ⟨e', q, hb, he', h1, h2, h3, h4, h5⟩ := row_at H hcs
    rw [he] at he'; injection he' with he'; subst he'
    rw [hes] at h2
    exact ⟨_, _, by rw [len_div h2 h3]⟩
  · injection hs with hs; subst hs
    simp only [C] at hC
    obtain ⟨e, he, hes, _, ad, c, rfl, _⟩ := hC
    exact ⟨ad, c, rfl⟩

theorem szOf_ok {t : TypeId} {s : Nat} (h : szOf P t = some s) (w : World) : (sizeOf t).run P w = .ok s w := by
  simp only [szOf, Option.map_eq_some_iff] at h
  obtain ⟨i, hi, rfl⟩ := h
  simp [sizeOf, typeInfo, hi]

theorem ldk_none {t : TypeId} (h : ldk P t = some none) (w : World) : (isAgg t).run P w = .ok false w := by
  unfold ldk at h
  split at h
  · simp [szOf] at h
  · simp [szOf] at h
  · rename_i d h1 h2 hd
    simp only [isAgg, Sem.run_bind, run_underlying hd, Result.andThen_ok]
    rfl
  · cases h

theorem ldk_some {t : TypeId} {k : Nat} (h : ldk P t = some (some k)) (w : World) : (isAgg t).run P w = .ok true w ∧ (sizeOf t).run P w = .ok k w := by
  unfold ldk at h
  split at h
  · rename_i fs hd
    simp only [szOf, Option.map_eq_some_iff] at h
    obtain ⟨_, ⟨i, hi, rfl⟩, hk⟩ := h
    injection hk with hk; subst hk
    simp [isAgg, run_underlying hd, sizeOf, typeInfo, hi]
  · rename_i n e hd
    simp only [szOf, Option.map_eq_some_iff] at h
    obtain ⟨_, ⟨i, hi, rfl⟩, hk⟩ := h
    injection hk with hk; subst hk
    simp [isAgg, run_underlying hd, sizeOf, typeInfo, hi]
  · simp at h
  · cases h

theorem run_fieldAt_ok (w : World) {t : TypeId} {f : Nat} {fd : Field} {s : Nat} (h : fieldOf P t f = some fd) (hs : szOf P fd.type = some s) (hs0 : s ≠ 0) (ad : Addr) :
    (Instr.fieldAt t (.pointer (some ad)) f).run P w = .ok (.pointer (some (ad.add fd.offset))) w := by
  unfold fieldOf at h
  split at h
  · rename_i fs hfs
    simp only [szOf, Option.map_eq_some_iff] at hs
    obtain ⟨i, hi, rfl⟩ := hs
    simp [Instr.fieldAt, run_underlying hfs, h, Instr.sureAddr, fieldPlace, sizeOf, typeInfo, hi, hs0]
  · cases h

theorem run_loadAt_ok {t : TypeId} {n : Option Nat} (hn : ldk P t = some n) {cs : List AV} {v : AV} (hr : rdc cs n = some v) (hok : cs.all AV.okc = true) {g : Nat → Option Value} (hg : CL m cs g) {b o : Nat}
    (hw : ∀ i v, g i = some v → w.cell? ⟨b, o + i, none⟩ = some v) : ∃ u, (Instr.loadAt t (.pointer (some ⟨b, o, none⟩))).run P w = .ok u w ∧ C m v u := by
  cases n with
  | none =>
    simp only [rdc] at hr
    cases cs with
    | nil => cases hr
    | cons x xs =>
      simp at hr; subst hr
      simp only [CL] at hg
      obtain ⟨⟨u, hu1, hC⟩, _⟩ := hg
      refine ⟨u, ?_, hC⟩
      have := hw 0 u hu1
      simp only [Nat.add_zero] at this
      simp [Instr.loadAt, Instr.sureAddr, loadVar, ldk_none hn, this]
  | some k =>
    have hagg := ldk_some hn w
    simp only [rdc] at hr
    split at hr
    · rename_i hk
      injection hr with hr; subst hr
      obtain ⟨vs, k1, k2, k3⟩ := CL_list _ _ (CL_take hg k)
      have hl : vs.length = k := by rw [k1]; simp; omega
      have hload := run_loadCells_list (P := P) w ⟨b, o, none⟩ vs (fun j v hv => by rw [addr_add]; exact hw _ _ (k2 j v hv))
      rw [hl] at hload
      refine ⟨.agg vs.toArray, ?_, ?_⟩
      · simp [Instr.loadAt, Instr.sureAddr, loadVar, hagg.1, hagg.2, hload]
      · simp only [C]
        exact ⟨all_take hok k, _, rfl, by simp [k1], by simpa using k3⟩
    · cases hr

theorem part_ok {t : TypeId} {n : Option Nat} (hn : ldk P t = some n) {cs : List AV} {off : Nat} {z : AV} (hr : rdc (cs.drop off) n = some z) (hok : cs.all AV.okc = true) {vs : Array Value} (hg : CL m cs (fun i => vs[i]?)) (hsz : vs.size = cs.length) :
    ∃ u, (Go.part t vs off).run P w = .ok u w ∧ C m z u := by
  have hd := CL_drop hg off
  cases n with
  | none =>
    simp only [rdc] at hr
    cases hq : cs.drop off with
    | nil => rw [hq] at hr; cases hr
    | cons x xs =>
      rw [hq] at hr hd
      simp at hr; subst hr
      simp only [CL] at hd
      obtain ⟨⟨u, hu, hC⟩, _⟩ := hd
      simp only [Nat.add_zero] at hu
      exact ⟨u, by simp [Go.part, ldk_none hn, hu], hC⟩
  | some k =>
    obtain ⟨h1, h2⟩ := ldk_some hn w
    simp only [rdc] at hr
    split at hr
    · rename_i hk
      injection hr with hr; subst hr
      refine ⟨.agg (vs.extract off (off + k)), by simp [Go.part, h1, h2], ?_⟩
      simp only [C]
      refine ⟨all_take (all_drop hok _) _, _, rfl, by simp at hk ⊢; omega, ?_⟩
      have := CL_take hd k
      rw [CL_iff] at this ⊢
      intro i x hx
      obtain ⟨u, hu, hC⟩ := this i x hx
      refine ⟨u, ?_, hC⟩
      have hi : i < k := by
        have := (List.getElem?_eq_some_iff.1 hx).1
        simp at this
        omega
      rw [Array.getElem?_extract, if_pos (by have := (Array.getElem?_eq_some_iff.1 hu).1; simp at hk; omega)]
      exact hu
    · cases hr

variable (hcd : m.cd = fid)
include hcd

theorem go_move {x : Operand} {y : SX} (hop : o.op = .move x ∨ o.op = .assign x) (hy : opd fid x = some y) (hs : astep hp (St.ev ⟨env, hp, l0, mk⟩) (.move y) = some (v, hp')) (H : HInv fr w0 m hp w []) (E : EnvOk m env a.tmps) :
    Goes P o a w fr w0 m v hp' := by
  simp only [astep, Option.some.injEq, Prod.mk.injEq] at hs
  obtain ⟨rfl, rfl⟩ := hs
  refine goes_pure H (u := a.eval x) ?_ (opd_ok (st := ⟨env, _, l0, mk⟩) hcd hy E)
  rcases hop with h | h <;> simp [execOp, h]

theorem go_pick {c x z : Operand} {c' x' z' : SX} (hop : o.op = .pick c x z) (h1 : opd fid c = some c') (h2 : opd fid x = some x') (h3 : opd fid z = some z') (hs : astep hp (St.ev ⟨env, hp, l0, mk⟩) (.pick c' x' z') = some (v, hp'))
    (H : HInv fr w0 m hp w []) (E : EnvOk m env a.tmps) : Goes P o a w fr w0 m v hp' := by
  have k1 := opd_ok (st := ⟨env, hp, l0, mk⟩) hcd h1 E
  have k2 := opd_ok (st := ⟨env, hp, l0, mk⟩) hcd h2 E
  have k3 := opd_ok (st := ⟨env, hp, l0, mk⟩) hcd h3 E
  simp only [astep] at hs
  split at hs
  · rename_i t ht
    rw [ht] at k1
    simp only [C] at k1
    simp only [Option.some.injEq, Prod.mk.injEq] at hs
    obtain ⟨rfl, rfl⟩ := hs
    refine goes_pure H (u := if t then a.eval x else a.eval z) ?_ ?_
    · simp [execOp, hop, k1, asBool]
    · cases t
      · exact k3
      · exact k2
  · cases hs

theorem go_nilCheck {x : Operand} {x' : SX} (hop : o.op = .nilCheck x) (h1 : opd fid x = some x') (hs : astep hp (St.ev ⟨env, hp, l0, mk⟩) (.nilCheck x') = some (v, hp')) (H : HInv fr w0 m hp w []) (E : EnvOk m env a.tmps) : Goes P o a w fr w0 m v hp' := by
  have k1 := opd_ok (st := ⟨env, hp, l0, mk⟩) hcd h1 E
  simp only [astep] at hs
  split at hs
  · rename_i id off hx
    rw [hx] at k1
    simp only [Option.some.injEq, Prod.mk.injEq] at hs
    obtain ⟨rfl, rfl⟩ := hs
    refine goes_pure H (u := a.eval x) ?_ k1
    simp only [C] at k1
    obtain ⟨e, _, b, _, hu⟩ := k1
    simp [execOp, hop, hu]
  · rename_i cs hx
    rw [hx] at k1
    simp only [Option.some.injEq, Prod.mk.injEq] at hs
    obtain ⟨rfl, rfl⟩ := hs
    refine goes_pure H (u := a.eval x) ?_ k1
    simp only [C] at k1
    obtain ⟨_, b, off, hu, _⟩ := k1
    simp [execOp, hop, hu]
  · rename_i f fs cs hx
    rw [hx] at k1
    simp only [Option.some.injEq, Prod.mk.injEq] at hs
    obtain ⟨rfl, rfl⟩ := hs
    refine goes_pure H (u := a.eval x) ?_ k1
    simp only [C] at k1
    obtain ⟨fn, fs', cs', hu, _⟩ := k1
    simp [execOp, hop, hu]
  · rename_i id hx
    rw [hx] at k1
    simp only [Option.some.injEq, Prod.mk.injEq] at hs
    obtain ⟨rfl, rfl⟩ := hs
    refine goes_pure H (u := a.eval x) ?_ k1
    simp only [C] at k1
    obtain ⟨e, _, g, _, hu⟩ := k1
    simp [execOp, hop, hu]
  · cases hs

theorem go_bin {op : BinOp} {t t' : TypeId} {tc : Nat} {x y : Operand} {x' y' : SX} (hop : o.op = .binOp op t x y t') (ht : tcOf P t = some tc) (h1 : opd fid x = some x') (h2 : opd fid y = some y') (hs : astep hp (St.ev ⟨env, hp, l0, mk⟩) (.bin tc op x' y') = some (v, hp'))
    (H : HInv fr w0 m hp w []) (E : EnvOk m env a.tmps) : Goes P o a w fr w0 m v hp' := by
  have k1 := opd_ok (st := ⟨env, hp, l0, mk⟩) hcd h1 E
  have k2 := opd_ok (st := ⟨env, hp, l0, mk⟩) hcd h2 E
  simp only [astep, Option.map_eq_some_iff, Prod.mk.injEq] at hs
  obtain ⟨z, hz, rfl, rfl⟩ := hs
  obtain ⟨r, h3, h4, h5⟩ := abin_ok (P := P) (w := w) ht k1 k2 hz x y
  exact goes_pure H (u := r) (by simp [execOp, hop, Sem.run_bind, h3, h4]) h5

theorem go_isnil {op : BinOp} {t t' e : TypeId} {x y : Operand} {x' : SX} {neg : Bool} (hop : o.op = .binOp op t x y t') (ht : P.underlying t = some (.slice e)) (hy : isNilSlice y = true) (hneg : (op = .eql ∧ neg = false) ∨ (op = .neq ∧ neg = true)) (h1 : opd fid x = some x')
    (hs : astep hp (St.ev ⟨env, hp, l0, mk⟩) (.isnil neg x') = some (v, hp')) (H : HInv fr w0 m hp w []) (E : EnvOk m env a.tmps) : Goes P o a w fr w0 m v hp' := by
  have k1 := opd_ok (st := ⟨env, hp, l0, mk⟩) hcd h1 E
  have hyv : a.eval y = .slice none 0 0 := by
    unfold isNilSlice at hy
    split at hy
    · rfl
    · cases hy
  have heq : ∀ ad n c, (Op.equal t (.slice ad n c) (.slice none 0 0)).run P w = .ok ad.isNone w := by
    intro ad n c
    have key : ∀ d, (Op.equalIn (d + 1) t (.slice ad n c) (.slice none 0 0)).run P w = .ok ad.isNone w := by
      intro d
      cases ad <;> simp [Op.equalIn, run_underlying ht]
    exact key 9999
  have hrun : ∀ ad n c, a.eval x = .slice ad n c → (execOp a.eval o).run P w = .ok (.value (.bool (ad.isNone != neg))) w := by
    intro ad n c hx
    rcases hneg with ⟨rfl, rfl⟩ | ⟨rfl, rfl⟩
    · simp [execOp, hop, hx, hyv, eqGuard, binOp, heq]
    · simp [execOp, hop, hx, hyv, eqGuard, binOp, heq]
  have fin : ∀ (b : Bool) ad n c, a.eval x = .slice ad n c → (b = false → ad.isNone = false) → Goes P o a w fr w0 m (.maybe b neg) hp := by
    intro b ad n c hx hb
    refine goes_pure H (hrun ad n c hx) ?_
    simp only [C]
    exact ⟨_, rfl, fun h => by rw [hb h]; cases neg <;> rfl⟩
  simp only [astep] at hs
  split at hs
  · rename_i hx
    rw [hx] at k1
    simp only [C] at k1
    simp only [Option.some.injEq, Prod.mk.injEq] at hs
    obtain ⟨rfl, rfl⟩ := hs
    refine goes_pure H (hrun _ _ _ k1) ?_
    simp only [C]
    cases neg <;> rfl
  · rename_i s cs hx
    rw [hx] at k1
    simp only [C] at k1
    obtain ⟨h2, ad, n, c, hu, h3, h4, h5, h6⟩ := k1
    simp only [Option.some.injEq, Prod.mk.injEq] at hs
    obtain ⟨rfl, rfl⟩ := hs
    refine fin _ ad n c hu (fun hb => ?_)
    obtain ⟨b, o, rfl, _⟩ := h6 (by rintro rfl; simp at hb)
    rfl
  · rename_i s id hx
    rw [hx] at k1
    simp only [Option.map_eq_some_iff, Prod.mk.injEq] at hs
    obtain ⟨cs, hcs, rfl, rfl⟩ := hs
    simp only [C] at k1
    obtain ⟨e, he, hu, hes⟩ := k1
    obtain ⟨e', q, hb, he', h1, h2, h3, h4, h5⟩ := row_at H hcs
    rw [he] at he'; injection he' with he'; subst he'
    refine fin _ _ _ _ hu (fun hb => ?_)
    rcases h5 with ⟨q1, q2, rfl⟩ | ⟨g, f, q1, q2, hR⟩
    · simp at hb
    · rw [q2]; rfl
  · rename_i s id o2 n hx
    rw [hx] at k1
    simp only [C] at k1
    obtain ⟨e, he, hes, _, ad, c, hu, hnc, hco, hca⟩ := k1
    simp only [Option.some.injEq, Prod.mk.injEq] at hs
    obtain ⟨rfl, rfl⟩ := hs
    refine fin _ ad n c hu (fun hb => ?_)
    have : n ≠ 0 := by simpa using hb
    rcases hca with h | ⟨g, _, rfl⟩
    · omega
    · rfl
  · cases hs

theorem go_un {op : UnOp} {t : TypeId} {x : Operand} {x' : SX} (hop : o.op = .unOp op t x) (h1 : opd fid x = some x') (hs : astep hp (St.ev ⟨env, hp, l0, mk⟩) (.un op x') = some (v, hp')) (H : HInv fr w0 m hp w []) (E : EnvOk m env a.tmps) : Goes P o a w fr w0 m v hp' := by
  have k1 := opd_ok (st := ⟨env, hp, l0, mk⟩) hcd h1 E
  simp only [astep] at hs
  split at hs
  · rename_i b hx
    rw [hx] at k1
    simp only [C] at k1
    simp only [Option.some.injEq, Prod.mk.injEq] at hs
    obtain ⟨rfl, rfl⟩ := hs
    exact goes_pure H (u := .bool !b) (by simp [execOp, hop, k1, Op.unary]) (by simp [C])
  · rename_i k n hx
    rw [hx] at k1
    simp only [C] at k1
    simp only [Option.some.injEq, Prod.mk.injEq] at hs
    obtain ⟨rfl, rfl⟩ := hs
    exact goes_pure H (u := .int k (k.wrap (0 - n))) (by simp [execOp, hop, k1, Op.unary, Op.intArith]) (by simp [C])
  · cases hs

theorem go_conv {s d : TypeId} {k k' : IntKind} {x : Operand} {x' : SX} (hop : o.op = .convert s d x) (hs' : P.underlying s = some (.int k')) (hd : P.underlying d = some (.int k)) (h1 : opd fid x = some x') (hs : astep hp (St.ev ⟨env, hp, l0, mk⟩) (.conv k x') = some (v, hp'))
    (H : HInv fr w0 m hp w []) (E : EnvOk m env a.tmps) : Goes P o a w fr w0 m v hp' := by
  have k1 := opd_ok (st := ⟨env, hp, l0, mk⟩) hcd h1 E
  simp only [astep] at hs
  split at hs
  · rename_i k2 n hx
    rw [hx] at k1
    simp only [C] at k1
    simp only [Option.some.injEq, Prod.mk.injEq] at hs
    obtain ⟨rfl, rfl⟩ := hs
    exact goes_pure H (u := .int k (k.wrap n)) (by simp [execOp, hop, k1, convert, run_underlying hs', run_underlying hd, Conv.intToInt]) (by simp [C])
  · cases hs

theorem go_same {s d : TypeId} {x : Operand} {x' : SX} (hop : o.op = .convert s d x) (hs' : P.underlying s = some .string) (hd : P.underlying d = some .string) (h1 : opd fid x = some x') (hs : astep hp (St.ev ⟨env, hp, l0, mk⟩) (.same x') = some (v, hp'))
    (H : HInv fr w0 m hp w []) (E : EnvOk m env a.tmps) : Goes P o a w fr w0 m v hp' := by
  have k1 := opd_ok (st := ⟨env, hp, l0, mk⟩) hcd h1 E
  simp only [astep] at hs
  split at hs
  · rename_i l hx
    rw [hx] at k1
    simp only [Option.some.injEq, Prod.mk.injEq] at hs
    obtain ⟨rfl, rfl⟩ := hs
    refine goes_pure H (u := a.eval x) ?_ k1
    simp only [C] at k1
    simp [execOp, hop, k1, convert, run_underlying hs', run_underlying hd]
  · cases hs

theorem go_fieldAddr {t : TypeId} {f : Nat} {fd : Field} {s : Nat} {x : Operand} {x' : SX} (hop : o.op = .fieldAddr t x f) (hf : fieldOf P t f = some fd) (hz : szOf P fd.type = some s) (hz0 : s ≠ 0) (h1 : opd fid x = some x')
    (hs : astep hp (St.ev ⟨env, hp, l0, mk⟩) (.fieldAddr fd.offset x') = some (v, hp')) (H : HInv fr w0 m hp w []) (E : EnvOk m env a.tmps) : Goes P o a w fr w0 m v hp' := by
  have k1 := opd_ok (st := ⟨env, hp, l0, mk⟩) hcd h1 E
  simp only [astep] at hs
  split at hs
  · rename_i cs hx
    rw [hx] at k1
    simp only [C] at k1
    obtain ⟨hok, b, off, hu, hCL⟩ := k1
    simp only [Option.some.injEq, Prod.mk.injEq] at hs
    obtain ⟨rfl, rfl⟩ := hs
    refine goes_pure H (u := .pointer (some ⟨b, off + fd.offset, none⟩)) (by simp [execOp, hop, hu, run_fieldAt_ok w hf hz hz0, addr_add]) ?_
    simp only [C]
    refine ⟨all_drop hok _, b, _, rfl, ?_⟩
    have := CL_drop hCL fd.offset
    simpa only [Nat.add_assoc] using this
  · rename_i id off hx
    rw [hx] at k1
    simp only [C] at k1
    obtain ⟨e, he, b, hb, hu⟩ := k1
    simp only [Option.some.injEq, Prod.mk.injEq] at hs
    obtain ⟨rfl, rfl⟩ := hs
    refine goes_pure H (u := .pointer (some ⟨b, off + fd.offset, none⟩)) (by simp [execOp, hop, hu, run_fieldAt_ok w hf hz hz0, addr_add]) ?_
    simp only [C]
    exact ⟨e, he, b, hb, rfl⟩
  · cases hs

theorem go_field {t : TypeId} {f : Nat} {fd : Field} {n : Option Nat} {x : Operand} {x' : SX} (hop : o.op = .field t x f) (hf : fieldOf P t f = some fd) (hn : ldk P fd.type = some n) (h1 : opd fid x = some x')
    (hs : astep hp (St.ev ⟨env, hp, l0, mk⟩) (.field n fd.offset x') = some (v, hp')) (H : HInv fr w0 m hp w []) (E : EnvOk m env a.tmps) : Goes P o a w fr w0 m v hp' := by
  have k1 := opd_ok (st := ⟨env, hp, l0, mk⟩) hcd h1 E
  simp only [astep] at hs
  split at hs
  · rename_i cs hx
    rw [hx] at k1
    simp only [C] at k1
    obtain ⟨hok, vs, hu, hsz, hCL⟩ := k1
    simp only [Option.map_eq_some_iff, Prod.mk.injEq] at hs
    obtain ⟨z, hz, rfl, rfl⟩ := hs
    obtain ⟨u, hr, hC⟩ := part_ok (P := P) (w := w) hn hz hok hCL hsz
    refine goes_pure H (u := u) ?_ hC
    unfold fieldOf at hf
    split at hf
    · rename_i fs hfs
      simp [execOp, hop, hu, Instr.field, run_underlying hfs, hf, asAgg, hr]
    · cases hf
  · cases hs

theorem go_indexAddr {t e : TypeId} {s : Nat} {x i : Operand} {x' i' : SX} (hop : o.op = .indexAddr t x i) (ht : P.underlying t = some (.slice e)) (hz : szOf P e = some s) (hz0 : s ≠ 0) (h1 : opd fid x = some x') (h2 : opd fid i = some i')
    (hs : astep hp (St.ev ⟨env, hp, l0, mk⟩) (.indexAddr s x' i') = some (v, hp')) (H : HInv fr w0 m hp w []) (E : EnvOk m env a.tmps) : Goes P o a w fr w0 m v hp' := by
  have k1 := opd_ok (st := ⟨env, hp, l0, mk⟩) hcd h1 E
  have k2 := opd_ok (st := ⟨env, hp, l0, mk⟩) hcd h2 E
  have hsz := szOf_ok hz
  simp only [astep] at hs
  split at hs
  · rename_i s' cs k j hx hi
    rw [hx] at k1; rw [hi] at k2
    simp only [C] at k1 k2
    split at hs
    · rename_i hss
      subst hss
      split at hs
      · rename_i hc
        obtain ⟨hj0, hjn⟩ := hc
        simp only [Option.some.injEq, Prod.mk.injEq] at hs
        obtain ⟨rfl, rfl⟩ := hs
        obtain ⟨hok, ad, n, c, hu, h3, h4, h5, h6⟩ := k1
        rw [len_div h3 h4] at hjn
        have hne : cs ≠ [] := by
          intro he
          have := h4 he
          omega
        obtain ⟨b, off, rfl, hCL⟩ := h6 hne
        refine goes_pure H (u := .pointer (some ⟨b, off + j.toNat * s', none⟩)) ?_ ?_
        · simp [execOp, hop, hu, k2, Instr.indexAt, asIntOf, run_underlying ht, hj0, hjn, hsz, addr_add]
        · simp only [C]
          refine ⟨all_drop hok _, b, _, rfl, ?_⟩
          have := CL_drop hCL (j.toNat * s')
          simpa only [Nat.add_assoc] using this
      · cases hs
    · cases hs
  · rename_i s' id k j hx hi
    rw [hx] at k1; rw [hi] at k2
    simp only [C] at k1 k2
    simp only [Option.bind_eq_some_iff] at hs
    obtain ⟨cs, hcs, hs⟩ := hs
    split at hs
    · rename_i hss
      subst hss
      split at hs
      · rename_i hc
        obtain ⟨hj0, hjn⟩ := hc
        simp only [Option.some.injEq, Prod.mk.injEq] at hs
        obtain ⟨rfl, rfl⟩ := hs
        obtain ⟨en, he, hu, hes⟩ := k1
        obtain ⟨e', q, hb, he', q1, q2, q3, q4, q5⟩ := row_at H hcs
        rw [he] at he'; injection he' with he'; subst he'
        rw [hes] at q2
        rw [len_div q2 q3] at hjn
        rcases q5 with ⟨_, r2, _⟩ | ⟨g, f, r1, r2, _⟩
        · omega
        · rw [r2] at hu
          refine goes_pure H (u := .pointer (some ⟨g, j.toNat * s', none⟩)) ?_ ?_
          · simp [execOp, hop, hu, k2, Instr.indexAt, asIntOf, run_underlying ht, hj0, hjn, hsz, addr_add]
          · simp only [C]
            exact ⟨en, he, g, r1, rfl⟩
      · cases hs
    · cases hs
  · rename_i s' id o2 n k j hx hi
    rw [hx] at k1; rw [hi] at k2
    simp only [C] at k1 k2
    split at hs
    · rename_i hss
      subst hss
      split at hs
      · rename_i hc
        obtain ⟨hj0, hjn⟩ := hc
        simp only [Option.some.injEq, Prod.mk.injEq] at hs
        obtain ⟨rfl, rfl⟩ := hs
        obtain ⟨en, he, hes, _, ad, c, hu, hnc, hco, hca⟩ := k1
        obtain ⟨b, heb, rfl⟩ := hca.resolve_left (by omega)
        refine goes_pure H (u := .pointer (some ⟨b, o2 * s' + j.toNat * s', none⟩)) ?_ ?_
        · simp [execOp, hop, hu, k2, Instr.indexAt, asIntOf, run_underlying ht, hj0, hjn, hsz, addr_add]
        · simp only [C]
          exact ⟨en, he, b, heb, rfl⟩
      · cases hs
    · cases hs
  · cases hs

theorem go_indexArr {t e : TypeId} {s len : Nat} {x i : Operand} {x' i' : SX} (hop : o.op = .indexAddr t x i) (ht : P.underlying t = some (.array len e)) (hz : szOf P e = some s) (h1 : opd fid x = some x') (h2 : opd fid i = some i')
    (hs : astep hp (St.ev ⟨env, hp, l0, mk⟩) (.indexArr len s x' i') = some (v, hp')) (H : HInv fr w0 m hp w []) (E : EnvOk m env a.tmps) : Goes P o a w fr w0 m v hp' := by
  have k1 := opd_ok (st := ⟨env, hp, l0, mk⟩) hcd h1 E
  have k2 := opd_ok (st := ⟨env, hp, l0, mk⟩) hcd h2 E
  have hsz := szOf_ok hz
  simp only [astep] at hs
  split at hs
  · rename_i cs k j hx hi
    rw [hx] at k1; rw [hi] at k2
    simp only [C] at k1 k2
    split at hs
    · rename_i hc
      obtain ⟨hj0, hjn⟩ := hc
      simp only [Option.some.injEq, Prod.mk.injEq] at hs
      obtain ⟨rfl, rfl⟩ := hs
      obtain ⟨hok, b, off, hu, hCL⟩ := k1
      refine goes_pure H (u := .pointer (some ⟨b, off + j.toNat * s, none⟩)) ?_ ?_
      · simp [execOp, hop, hu, k2, Instr.indexAt, asIntOf, run_underlying ht, hj0, hjn, hsz, addr_add, Instr.sureAddr]
      · simp only [C]
        refine ⟨all_drop hok _, b, _, rfl, ?_⟩
        have := CL_drop hCL (j.toNat * s)
        simpa only [Nat.add_assoc] using this
    · cases hs
  · rename_i id off k j hx hi
    rw [hx] at k1; rw [hi] at k2
    simp only [C] at k1 k2
    split at hs
    · rename_i hc
      obtain ⟨hj0, hjn⟩ := hc
      simp only [Option.some.injEq, Prod.mk.injEq] at hs
      obtain ⟨rfl, rfl⟩ := hs
      obtain ⟨en, he, b, heb, hu⟩ := k1
      refine goes_pure H (u := .pointer (some ⟨b, off + j.toNat * s, none⟩)) ?_ ?_
      · simp [execOp, hop, hu, k2, Instr.indexAt, asIntOf, run_underlying ht, hj0, hjn, hsz, addr_add, Instr.sureAddr]
      · simp only [C]
        exact ⟨en, he, b, heb, rfl⟩
    · cases hs
  · cases hs

theorem go_indexV {t e : TypeId} {s len : Nat} {q : Option Nat} {x i : Operand} {x' i' : SX} (hop : o.op = .index t x i) (ht : P.underlying t = some (.array len e)) (hz : szOf P e = some s) (hn : ldk P e = some q) (h1 : opd fid x = some x') (h2 : opd fid i = some i')
    (hs : astep hp (St.ev ⟨env, hp, l0, mk⟩) (.indexV q len s x' i') = some (v, hp')) (H : HInv fr w0 m hp w []) (E : EnvOk m env a.tmps) : Goes P o a w fr w0 m v hp' := by
  have k1 := opd_ok (st := ⟨env, hp, l0, mk⟩) hcd h1 E
  have k2 := opd_ok (st := ⟨env, hp, l0, mk⟩) hcd h2 E
  have hsz := szOf_ok hz
  simp only [astep] at hs
  split at hs
  · rename_i cs k j hx hi
    rw [hx] at k1; rw [hi] at k2
    simp only [C] at k1 k2
    obtain ⟨hok, vs, hu, hvs, hCL⟩ := k1
    split at hs
    · rename_i hc
      obtain ⟨hj0, hjn⟩ := hc
      simp only [Option.map_eq_some_iff, Prod.mk.injEq] at hs
      obtain ⟨z, hz2, rfl, rfl⟩ := hs
      obtain ⟨u, hr, hC⟩ := part_ok (P := P) (w := w) hn hz2 hok hCL hvs
      refine goes_pure H (u := u) ?_ hC
      simp [execOp, hop, hu, k2, Instr.index, asIntOf, run_underlying ht, hj0, hjn, hsz, hr]
    · cases hs
  · cases hs

theorem go_index {t : TypeId} {x i : Operand} {x' i' : SX} (hop : o.op = .index t x i) (ht : P.underlying t = some .string) (h1 : opd fid x = some x') (h2 : opd fid i = some i')
    (hs : astep hp (St.ev ⟨env, hp, l0, mk⟩) (.index x' i') = some (v, hp')) (H : HInv fr w0 m hp w []) (E : EnvOk m env a.tmps) : Goes P o a w fr w0 m v hp' := by
  have k1 := opd_ok (st := ⟨env, hp, l0, mk⟩) hcd h1 E
  have k2 := opd_ok (st := ⟨env, hp, l0, mk⟩) hcd h2 E
  simp only [astep] at hs
  split at hs
  · rename_i l k j hx hi
    rw [hx] at k1; rw [hi] at k2
    simp only [C] at k1 k2
    split at hs
    · rename_i hc
      simp only [Option.map_eq_some_iff, Prod.mk.injEq] at hs
      obtain ⟨bt, hb, rfl, rfl⟩ := hs
      have hg : (ByteArray.mk l.toArray)[j.toNat]? = some bt := by
        rw [ByteArray.getElem?_lt' _ _ (by simp [ByteArray.size]; omega)]
        congr 1
        have := (List.getElem?_eq_some_iff.1 hb).2
        rw [← this]
        rfl
      exact goes_pure H (u := .int .u8 bt.toNat) (by simp [execOp, hop, k1, k2, Instr.index, asIntOf, run_underlying ht, hc.1, hg]) (by simp [C])
    · cases hs
  · cases hs

theorem go_extract {i : Nat} {x : Operand} {x' : SX} (hop : o.op = .extract x i) (h1 : opd fid x = some x') (hs : astep hp (St.ev ⟨env, hp, l0, mk⟩) (.extract i x') = some (v, hp')) (H : HInv fr w0 m hp w []) (E : EnvOk m env a.tmps) : Goes P o a w fr w0 m v hp' := by
  have k1 := opd_ok (st := ⟨env, hp, l0, mk⟩) hcd h1 E
  simp only [astep] at hs
  split at hs
  · rename_i vs hx
    rw [hx] at k1
    simp only [C] at k1
    obtain ⟨us, hu, hsz, hCL⟩ := k1
    simp only [Option.map_eq_some_iff, Prod.mk.injEq] at hs
    obtain ⟨z, hz, rfl, rfl⟩ := hs
    obtain ⟨u, hu1, hC⟩ := CL_iff.1 hCL i z hz
    exact goes_pure H (u := u) (by simp [execOp, hop, hu, Instr.extract, hu1]) hC
  · cases hs

theorem go_lens {t : TypeId} {x : Operand} {x' : SX} (hop : o.op = .call { callee := .builtin .len, args := #[x], argTypes := #[t] }) (ht : P.underlying t = some .string) (h1 : opd fid x = some x')
    (hs : astep hp (St.ev ⟨env, hp, l0, mk⟩) (.len true x') = some (v, hp')) (H : HInv fr w0 m hp w []) (E : EnvOk m env a.tmps) : Goes P o a w fr w0 m v hp' := by
  have k1 := opd_ok (st := ⟨env, hp, l0, mk⟩) hcd h1 E
  simp only [astep] at hs
  split at hs
  · rename_i l hx
    rw [hx] at k1
    simp only [C] at k1
    simp only [if_true, Option.some.injEq, Prod.mk.injEq] at hs
    obtain ⟨rfl, rfl⟩ := hs
    have hl : (ByteArray.mk l.toArray).size = l.length := by simp [ByteArray.size]
    have hr := run_len_string (P := P) w t o.type ⟨l.toArray⟩ ht
    rw [hl] at hr
    refine goes_pure H (u := .int .i64 l.length) ?_ (by simp [C])
    simp only [execOp, hop, resolve, invoke, builtin, Sem.run_bind, Sem.run_pure, Result.andThen_ok, List.map_toArray, List.map_cons, List.map_nil, k1, hr]
    rfl
  · simp at hs

theorem go_lenl {t : TypeId} {d : TypeId} {x : Operand} {x' : SX} (hop : o.op = .call { callee := .builtin .len, args := #[x], argTypes := #[t] }) (ht : P.underlying t = some (.slice d)) (h1 : opd fid x = some x')
    (hs : astep hp (St.ev ⟨env, hp, l0, mk⟩) (.len false x') = some (v, hp')) (H : HInv fr w0 m hp w []) (E : EnvOk m env a.tmps) : Goes P o a w fr w0 m v hp' := by
  have k1 := opd_ok (st := ⟨env, hp, l0, mk⟩) hcd h1 E
  simp only [astep] at hs
  split at hs
  · simp at hs
  · simp only [Bool.false_eq_true, if_false, Option.map_eq_some_iff, Prod.mk.injEq] at hs
    obtain ⟨n, hn, rfl, rfl⟩ := hs
    obtain ⟨ad, c, hu⟩ := sln_ok H k1 hn
    exact goes_pure H (u := .int .i64 n) (by simp [execOp, hop, hu, resolve, invoke, builtin, Builtin.len_, run_underlying ht, goInt]) (by simp [C])

theorem go_mm {mx : Bool} {x y : Operand} {x' y' : SX} {ats : Array TypeId} (hop : o.op = .call { callee := .builtin (if mx then .max else .min), args := #[x, y], argTypes := ats }) (h1 : opd fid x = some x') (h2 : opd fid y = some y')
    (hs : astep hp (St.ev ⟨env, hp, l0, mk⟩) (.mm mx x' y') = some (v, hp')) (H : HInv fr w0 m hp w []) (E : EnvOk m env a.tmps) : Goes P o a w fr w0 m v hp' := by
  have k1 := opd_ok (st := ⟨env, hp, l0, mk⟩) hcd h1 E
  have k2 := opd_ok (st := ⟨env, hp, l0, mk⟩) hcd h2 E
  simp only [astep] at hs
  split at hs
  · rename_i k p k' q hx hy
    rw [hx] at k1; rw [hy] at k2
    simp only [C] at k1 k2
    split at hs
    · rename_i hk
      subst hk
      simp only [Option.some.injEq, Prod.mk.injEq] at hs
      obtain ⟨rfl, rfl⟩ := hs
      refine goes_pure H (u := .int k (if mx then max p q else min p q)) ?_ (by simp [C])
      cases mx
      · simp [execOp, hop, k1, k2, resolve, invoke, builtin, Builtin.min_, Builtin.min2]
        omega
      · simp [execOp, hop, k1, k2, resolve, invoke, builtin, Builtin.max_, Builtin.max2]
        omega
    · cases hs
  · cases hs

theorem go_fn {f : FuncId} {k : Nat} {fs cs : Array Operand} {fs' cs' : List SX} (hop : o.op = .makeFunc (.func f) fs cs) (hk : fid f = some k) (h1 : opds fid fs.toList = some fs') (h2 : opds fid cs.toList = some cs')
    (hs : astep hp (St.ev ⟨env, hp, l0, mk⟩) (.fn k fs' cs') = some (v, hp')) (H : HInv fr w0 m hp w []) (E : EnvOk m env a.tmps) : Goes P o a w fr w0 m v hp' := by
  obtain ⟨c1, c2⟩ := opds_ok (st := ⟨env, hp, l0, mk⟩) hcd _ _ h1 E
  obtain ⟨d1, d2⟩ := opds_ok (st := ⟨env, hp, l0, mk⟩) hcd _ _ h2 E
  simp only [astep, Option.some.injEq, Prod.mk.injEq] at hs
  obtain ⟨rfl, rfl⟩ := hs
  refine goes_pure H (u := .func (.func f) (fs.map a.eval) (cs.map a.eval)) (by simp [execOp, hop, Instr.makeFunc]) ?_
  simp only [C]
  exact ⟨f, _, _, rfl, by rw [hcd]; exact hk, by simp [c2], by simp [d2], by simpa using c1, by simpa using d1⟩
end
end Go.Proofs.Ytmeakgiojhoofaa
