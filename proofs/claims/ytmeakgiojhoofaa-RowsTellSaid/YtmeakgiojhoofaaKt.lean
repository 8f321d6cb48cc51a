/-
  Code as the evaluator has it; results; loops over functions: what is wanted of them.
-/
import Derived.Test.YtmeakgiojhoofaaKs
import Derived.RangeFuncRecord
import Derived.LoopNIn
import Derived.Scope
namespace Go.Proofs.Ytmeakgiojhoofaa
open Go.RowKit

section
variable {P : Program} {fid : FuncId → Option Nat} {nt : Nat} {c : Code}

theorem csops_get {ops : Array Oper} : ∀ (l : List Oper) (r : List SOp), csops P fid nt ops l = some r → r.length = l.length ∧ ∀ (k : Nat) (so : SOp), r[k]? = some so → ∃ o, l[k]? = some o ∧ csop P fid nt ops o = some so
  | [], r, h => by simp only [csops] at h; injection h with h; subst h; exact ⟨rfl, fun k so hk => by simp at hk⟩
  | o :: l, r, h => by
    simp only [csops, Option.bind_eq_some_iff, Option.map_eq_some_iff] at h
    obtain ⟨so, h1, q, h2, rfl⟩ := h
    obtain ⟨k1, k2⟩ := csops_get l q h2
    refine ⟨by simp [k1], fun k s hk => ?_⟩
    cases k with
    | zero => simp at hk; subst hk; exact ⟨o, rfl, h1⟩
    | succ k => exact k2 k s (by simpa using hk)

theorem cc_skip (h : CodeS P fid nt c .skip) : c = .skip ∨ ∃ l, c = .label l := by
  have h := h.1
  cases c with
  | skip => exact .inl rfl
  | label l => exact .inr ⟨l, rfl⟩
  | _ => simp [ccode, erase, Option.bind_eq_some_iff, Option.map_eq_some_iff] at h

theorem cc_ops {d : Bool} {l : List SOp} (h : CodeS P fid nt c (.ops d l)) : ∃ id ops, c = .region id ops d ∧ l.length = ops.size ∧ (∀ (k : Nat) (so : SOp), l[k]? = some so → ∃ o, ops[k]? = some o ∧ csop P fid nt ops o = some so.base) ∧ (d = true → (drawOk [] ops l || drawM ops l) = true ∧ P.follows .mixedOrders = true) := by
  obtain ⟨h, hd, hm⟩ := h
  cases c with
  | region id ops draw =>
    simp only [ccode, erase, Option.map_eq_some_iff, Stmt.ops.injEq] at h
    obtain ⟨q, hq, rfl, hl⟩ := h
    obtain ⟨k1, k2⟩ := csops_get _ _ hq
    refine ⟨id, ops, rfl, ?_, ?_, ?_⟩
    · have := congrArg List.length hl
      simp at this
      rw [← this, k1]; simp
    · intro k so hk
      have : q[k]? = some so.base := by rw [hl]; simp [hk]
      obtain ⟨o, h1, h2⟩ := k2 k _ this
      exact ⟨o, by simpa using h1, h2⟩
    · intro hdr
      subst hdr
      simp only [drawS, Bool.and_eq_true, Bool.or_eq_true] at hd
      exact ⟨by simpa [Bool.or_eq_true] using hd.2, hm rfl⟩
  | _ => simp [ccode, erase, Option.bind_eq_some_iff, Option.map_eq_some_iff] at h

theorem cc_opsC {chk : List (Nat × Nat)} {l : List SOp} (h : CodeS P fid nt c (.opsC chk l)) : ∃ id ops, c = .region id ops true ∧ l.length = ops.size ∧ (∀ (k : Nat) (so : SOp), l[k]? = some so → ∃ o, ops[k]? = some o ∧ csop P fid nt ops o = some so.base) ∧ drawOk chk ops l = true ∧ P.follows .mixedOrders = true := by
  obtain ⟨h, hd, hm⟩ := h
  cases c with
  | region id ops draw =>
    simp only [ccode, erase, Option.map_eq_some_iff, Stmt.ops.injEq] at h
    obtain ⟨q, hq, rfl, hl⟩ := h
    obtain ⟨k1, k2⟩ := csops_get _ _ hq
    refine ⟨id, ops, rfl, ?_, ?_, ?_, hm rfl⟩
    · have := congrArg List.length hl
      simp at this
      rw [← this, k1]; simp
    · intro k so hk
      have : q[k]? = some so.base := by rw [hl]; simp [hk]
      obtain ⟨o, h1, h2⟩ := k2 k _ this
      exact ⟨o, by simpa using h1, h2⟩
    · simp only [drawS, Bool.and_eq_true] at hd
      exact hd.2
  | _ => simp [ccode, erase, Option.bind_eq_some_iff, Option.map_eq_some_iff] at h

theorem cc_seq {x y : Stmt} (h : CodeS P fid nt c (.seq x y)) : ∃ a b, c = .seq a b ∧ CodeS P fid nt a x ∧ CodeS P fid nt b y := by
  obtain ⟨h, hd, hm⟩ := h
  cases c with
  | seq a b =>
    simp only [ccode, erase, Option.bind_eq_some_iff, Option.map_eq_some_iff, Stmt.seq.injEq] at h
    obtain ⟨p, h1, q, h2, rfl, rfl⟩ := h
    simp only [drawS, Bool.and_eq_true] at hd
    simp only [drawn, Bool.or_eq_true] at hm
    exact ⟨a, b, rfl, ⟨h1, hd.1, fun h => hm (.inl h)⟩, ⟨h2, hd.2, fun h => hm (.inr h)⟩⟩
  | _ => simp [ccode, erase, Option.bind_eq_some_iff, Option.map_eq_some_iff] at h

theorem cc_cond {q : SX} {x y : Stmt} (h : CodeS P fid nt c (.cond q x y)) : ∃ o a b, c = .cond o a b ∧ opd fid o = some q ∧ CodeS P fid nt a x ∧ CodeS P fid nt b y := by
  obtain ⟨h, hd, hm⟩ := h
  cases c with
  | cond o a b =>
    simp only [ccode, erase, Option.bind_eq_some_iff, Option.map_eq_some_iff, Stmt.cond.injEq] at h
    obtain ⟨q', h0, p, h1, r, h2, rfl, rfl, rfl⟩ := h
    simp only [drawS, Bool.and_eq_true] at hd
    simp only [drawn, Bool.or_eq_true] at hm
    exact ⟨o, a, b, rfl, h0, ⟨h1, hd.1, fun h => hm (.inl h)⟩, ⟨h2, hd.2, fun h => hm (.inr h)⟩⟩
  | _ => simp [ccode, erase, Option.bind_eq_some_iff, Option.map_eq_some_iff] at h

theorem cc_block {id : Nat} {x : Stmt} (h : CodeS P fid nt c (.block id x)) : ∃ a, c = .block id a ∧ CodeS P fid nt a x := by
  obtain ⟨h, hd, hm⟩ := h
  cases c with
  | block id' a =>
    simp only [ccode, erase, Option.map_eq_some_iff, Stmt.block.injEq] at h
    obtain ⟨p, h1, rfl, rfl⟩ := h
    exact ⟨a, rfl, h1, hd, hm⟩
  | _ => simp [ccode, erase, Option.bind_eq_some_iff, Option.map_eq_some_iff] at h

theorem cc_loop {x : Stmt} (h : CodeS P fid nt c (.loop x)) : ∃ a, c = .loop a ∧ CodeS P fid nt a x := by
  obtain ⟨h, hd, hm⟩ := h
  cases c with
  | loop a =>
    simp only [ccode, erase, Option.map_eq_some_iff, Stmt.loop.injEq] at h
    obtain ⟨p, h1, rfl⟩ := h
    exact ⟨a, rfl, h1, hd, hm⟩
  | _ => simp [ccode, erase, Option.bind_eq_some_iff, Option.map_eq_some_iff] at h

theorem cc_scope {x : Stmt} (h : CodeS P fid nt c (.scope x)) : ∃ a, c = .scope a ∧ CodeS P fid nt a x := by
  obtain ⟨h, hd, hm⟩ := h
  cases c with
  | scope a =>
    simp only [ccode, erase, Option.map_eq_some_iff, Stmt.scope.injEq] at h
    obtain ⟨p, h1, rfl⟩ := h
    exact ⟨a, rfl, h1, hd, hm⟩
  | _ => simp [ccode, erase, Option.bind_eq_some_iff, Option.map_eq_some_iff] at h

theorem cc_exit {id : Nat} (h : CodeS P fid nt c (.exit id)) : c = .exit id := by
  have h := h.1
  cases c with
  | exit id' => simp only [ccode, erase] at h; injection h with h; injection h with h; rw [h]
  | _ => simp [ccode, erase, Option.bind_eq_some_iff, Option.map_eq_some_iff] at h

theorem cc_ret (h : CodeS P fid nt c .ret) : c = .ret := by
  have h := h.1
  cases c with
  | ret => rfl
  | _ => simp [ccode, erase, Option.bind_eq_some_iff, Option.map_eq_some_iff] at h

theorem cc_rangef {q : SX} {ps : List Nat} {x y : Stmt} (h : CodeS P fid nt c (.rangef q ps x y)) : ∃ o ps' a b, c = .rangeFunc o ps' a b ∧ ps'.toList = ps ∧ (∀ t ∈ ps, t < nt) ∧ rangeless a = true ∧ rangeless b = true ∧ opd fid o = some q ∧ CodeS P fid nt a x ∧ CodeS P fid nt b y := by
  obtain ⟨h, hd, hm⟩ := h
  cases c with
  | rangeFunc o ps' a b =>
    simp only [ccode, erase] at h
    split at h
    · rename_i hc
      simp only [Bool.and_eq_true, List.all_eq_true, decide_eq_true_eq] at hc
      simp only [Option.bind_eq_some_iff, Option.map_eq_some_iff, Stmt.rangef.injEq] at h
      obtain ⟨q', h0, p, h1, r, h2, rfl, rfl, rfl, rfl⟩ := h
      simp only [drawS, Bool.and_eq_true] at hd
      simp only [drawn, Bool.or_eq_true] at hm
      exact ⟨o, ps', a, b, rfl, rfl, hc.1.1, hc.1.2, hc.2, h0, ⟨h1, hd.1, fun h => hm (.inl h)⟩, ⟨h2, hd.2, fun h => hm (.inr h)⟩⟩
    · cases h
  | _ => simp [ccode, erase, Option.bind_eq_some_iff, Option.map_eq_some_iff] at h

theorem cc_ghost {g : SG} {s : Stmt} (h : CodeS P fid nt c (.ghost g s)) : CodeS P fid nt c s := by
  obtain ⟨h, hd, hm⟩ := h
  exact ⟨h, by cases c <;> exact hd, hm⟩
theorem cc_after {g : SG} {s : Stmt} (h : CodeS P fid nt c (.after s g)) : CodeS P fid nt c s := by
  obtain ⟨h, hd, hm⟩ := h
  exact ⟨h, by cases c <;> exact hd, hm⟩
end

def AX.toExit : AX → Exit
  | .normal => .normal
  | .exit id => .exit id
  | .ret => .ret

section
variable {F : Fence} {n : Nat} {P : Program} {b : Frame} {a : Act} {k : List Item} {cs : List Frame} {w : World} {Q : Exit → Act → World → Prop}
theorem stepR_scope {c : Code} : step P (lone (b.atR a (.code (.scope c) :: k)) cs w) = .next (lone (b.atR a (.code c :: .inScope c :: k)) cs w) :=
  step_lone_go (by simp [stepG, stepG.exec, Frame.atR])
theorem stepR_inScope {c : Code} : step P (lone (b.atR a (.inScope c :: k)) cs w) = .next (lone (b.atR a k) cs w) :=
  step_lone_go (by simp [stepG, stepG.exec, Frame.atR])

theorem wpIn_scope {c : Code} (h : c.wpIn F n P (Exit.noGoto Q) a w) : (Code.scope c).wpIn F n P Q a w := by
  intro b k cs hro hb hr
  have h0 : (lone (b.atR a (.code (.scope c) :: k)) cs w).fenced P F := fenced_calm hb hr rfl
  obtain ⟨e, a₁, w₁, hq, harr⟩ := h b (.inScope c :: k) cs hro hb hr
  cases e with
  | normal => exact ⟨.normal, a₁, w₁, hq, .head h0 stepR_scope (StepsIn.trans harr (.one (fenced_calm hb hr rfl) stepR_inScope))⟩
  | exit id =>
    have hx : exitTo id (.inScope c :: k) = exitTo id k := by simp [exitTo]
    exact ⟨.exit id, a₁, w₁, hq, fun k' hk => .head h0 stepR_scope (harr.1 k' (by rw [hx]; exact hk)),
        fun hr' hk => let ⟨k₁, h1, h2⟩ := harr.2 hr' (by rw [hx]; exact hk); ⟨k₁, h1, .head h0 stepR_scope h2⟩⟩
  | goto l => exact hq.elim
  | ret => exact ⟨_, a₁, w₁, hq, .of_steps (.one h0 stepR_scope) harr⟩
  | panic ch => exact ⟨_, a₁, w₁, hq, .of_steps (.one h0 stepR_scope) harr⟩
  | outgrown => exact ⟨_, a₁, w₁, hq, .of_steps (.one h0 stepR_scope) harr⟩
end

/-! ### Wider frames -/

structure Wid (fr : Nat → Prop) (w0 : World) (fr' : Nat → Prop) (w1 : World) : Prop where
  sub : ∀ g, fr g → fr' g
  os : w1.os = w0.os
  tape : w1.tape = w0.tape
  output : w1.output = w0.output
  size : w0.heap.size ≤ w1.heap.size
  fix : ∀ g, fr g → w1.heap[g]? = w0.heap[g]?

section
variable {fr fr' fr2 : Nat → Prop} {w0 w1 w2 w w' : World} {m : Mem} {hp : List Blk} {fl : List Nat}

theorem Wid.refl (fr : Nat → Prop) (w0 : World) : Wid fr w0 fr w0 := ⟨fun _ h => h, rfl, rfl, rfl, Nat.le_refl _, fun _ _ => rfl⟩
theorem Wid.trans (h : Wid fr w0 fr' w1) (k : Wid fr' w1 fr2 w2) : Wid fr w0 fr2 w2 :=
  ⟨fun g q => k.sub g (h.sub g q), k.os.trans h.os, k.tape.trans h.tape, k.output.trans h.output, Nat.le_trans h.size k.size, fun g q => (k.fix g (h.sub g q)).trans (h.fix g q)⟩

/-- Less is framed; and what was framed besides may turn. -/
theorem HInv.narrow (H : HInv fr' w1 m hp w fl) (h : Wid fr w0 fr' w1) (h1 : w'.os = w.os) (h2 : w'.tape = w.tape) (h3 : w'.output = w.output) (hs : w'.heap.size = w.heap.size)
    (hb : ∀ g, w'.heap[g]? ≠ w.heap[g]? → fr' g ∧ ¬ fr g ∧ ∀ o, w.cell? ⟨g, o, none⟩ = none) : HInv fr w0 m hp w' fl := by
  have hsame : ∀ g, ¬ fr' g → w'.heap[g]? = w.heap[g]? := fun g hg => Classical.byContradiction fun h => hg (hb g h).1
  have hfr : ∀ g, fr g → w'.heap[g]? = w.heap[g]? := fun g hg => Classical.byContradiction fun h => (hb g h).2.1 hg
  refine ⟨h1.trans (H.os.trans h.os), h2.trans (H.tape.trans h.tape), h3.trans (H.output.trans h.output), by rw [hs]; exact Nat.le_trans h.size H.size, fun g hg => ⟨by rw [hs]; exact (H.fix g (h.sub g hg)).1, (hfr g hg).trans ((H.fix g (h.sub g hg)).2.trans (h.fix g hg))⟩, H.len, ?_, ?_, ?_, H.nd, H.dj, H.fpz, ?_, H.fnd, H.fdj⟩
  · intro b o u hu
    have hc := H.im b o u hu
    have : w'.heap[b]? = w.heap[b]? := Classical.byContradiction fun hne => by
      obtain ⟨_, _, q⟩ := hb b hne
      rw [q o] at hc; cases hc
    rw [World.cell?_of_block (w := w) (a := ⟨b, o, none⟩) this]; exact hc
  · intro id b e hbk he
    exact (H.blk id b e hbk he).mono (Mem.le.refl m) (fun g hg => hsame g (H.own id g hg).1)
  · intro id g hg
    exact ⟨fun q => (H.own id g hg).1 (h.sub g q), by rw [hs]; exact (H.own id g hg).2.1, (H.own id g hg).2.2⟩
  · intro g hg
    exact ⟨fun q => (H.fown g hg).1 (h.sub g q), by rw [hs]; exact (H.fown g hg).2.1, (H.fown g hg).2.2⟩

theorem HInv.less (H : HInv fr' w1 m hp w fl) (h : Wid fr w0 fr' w1) : HInv fr w0 m hp w fl :=
  ⟨H.os.trans h.os, H.tape.trans h.tape, H.output.trans h.output, Nat.le_trans h.size H.size, fun g hg => ⟨(H.fix g (h.sub g hg)).1, (H.fix g (h.sub g hg)).2.trans (h.fix g hg)⟩, H.len, H.im, H.blk,
    fun id g hg => ⟨fun q => (H.own id g hg).1 (h.sub g q), (H.own id g hg).2⟩, H.nd, H.dj, H.fpz, fun g hg => ⟨fun q => (H.fown g hg).1 (h.sub g q), (H.fown g hg).2⟩, H.fnd, H.fdj⟩

/-- From here on. -/
theorem HInv.rebase (H : HInv fr w0 m hp w fl) : HInv fr w m hp w fl :=
  ⟨rfl, rfl, rfl, Nat.le_refl _, fun g hg => ⟨(H.fix g hg).1, rfl⟩, H.len, H.im, H.blk, H.own, H.nd, H.dj, H.fpz, H.fown, H.fnd, H.fdj⟩

/-- What floats is framed. -/
theorem HInv.frame {r : Nat} (H : HInv fr w m hp w (r :: fl)) : HInv (fun g => fr g ∨ g = r) w m hp w fl := by
  have hn := List.nodup_cons.1 H.fnd
  refine ⟨rfl, rfl, rfl, Nat.le_refl _, fun g hg => ⟨?_, rfl⟩, H.len, H.im, H.blk, fun id g hg => ⟨?_, (H.own id g hg).2⟩, H.nd, H.dj, H.fpz, fun g hg => ⟨?_, (H.fown g (by simp [hg])).2⟩, hn.2, fun id g h1 h2 => H.fdj id g h1 (by simp [h2])⟩
  · rcases hg with hg | hg
    · exact (H.fix g hg).1
    · subst hg; exact (H.fown g (by simp)).2.1
  · rintro (h | h)
    · exact (H.own id g hg).1 h
    · subst h; exact H.fdj id g hg (by simp)
  · rintro (h | h)
    · exact (H.fown g (by simp [hg])).1 h
    · subst h; exact hn.1 hg

/-- What floats may turn. -/
theorem HInv.putFloat (H : HInv fr w0 m hp w fl) {g : Nat} (hg : g ∈ fl) (o : Obj) : HInv fr w0 m hp (w.putObj g o) fl := by
  have hne : ∀ k, k ≠ g → (w.putObj g o).heap[k]? = w.heap[k]? := fun k hk => World.putObj_heap_other hk
  have hs : (w.putObj g o).heap.size = w.heap.size := World.putObj_size
  refine ⟨H.os, H.tape, H.output, by rw [hs]; exact H.size, fun q hq => ⟨by rw [hs]; exact (H.fix q hq).1, (hne q (fun e => (H.fown g hg).1 (e ▸ hq))).trans (H.fix q hq).2⟩, H.len, ?_, ?_, fun id q hq => by rw [hs]; exact H.own id q hq, H.nd, H.dj, H.fpz, fun q hq => by rw [hs]; exact H.fown q hq, H.fnd, H.fdj⟩
  · intro b i u hu
    have : b ≠ g := fun e => by subst e; rw [(H.fown b hg).2.2 i] at hu; cases hu
    rw [World.cell?_of_block (w := w) (a := ⟨b, i, none⟩) (hne b this)]; exact H.im b i u hu
  · intro id b e hb he
    exact (H.blk id b e hb he).mono (Mem.le.refl m) (fun q hq => hne q (fun e => H.fdj id q hq (e ▸ hg)))

/-- A loop's record turns. -/
theorem HInv.putLoop (H : HInv fr w0 m hp w []) {id g : Nat} {e : Ent} {b : Blk} {o : Obj} (he : m.bl[id]? = some e) (hf : m.fp id = [g]) (hb : BlkOk m (w.putObj g o) b e [g]) :
    HInv fr w0 { m with fp := fun k => if k = id then [g] else m.fp k } (hp.set id b) (w.putObj g o) [] := by
  have H1 := (H.kill id)
  rw [hf] at H1
  have H2 := H1.putFloat (g := g) (by simp) o
  have H3 := H2.turn (f := [g]) (g := []) (i := id) (b := b) (x := e) he (fun q hq => .inr (by simpa using hq)) (by simp) (hb.mono (le_fp _) (fun _ _ => rfl))
  rw [List.set_set] at H3
  have : (fun k => if k = id then [g] else (fun k => if k = id then [] else m.fp k) k) = fun k => if k = id then [g] else m.fp k := fp_set m.fp id [g] []
  simp only at H3
  rw [show ({ P := m.P, cd := m.cd, im := m.im, bl := m.bl, fp := fun k => if k = id then [g] else if k = id then [] else m.fp k } : Mem) = { m with fp := fun k => if k = id then [g] else m.fp k } by congr 1] at H3
  exact H3
end
end Go.Proofs.Ytmeakgiojhoofaa
