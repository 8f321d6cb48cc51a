/-
  A call: what a callee has to be known for, and what comes of it where it is called.
-/
import Derived.Test.YtmeakgiojhoofaaKm
namespace Go.Proofs.Ytmeakgiojhoofaa
open Go.RowKit

/-- What was known goes on: cells that stay, and the blocks below lo. -/
structure Fwd (fr : Nat → Prop) (lo : Nat) (m m' : Mem) : Prop where
  P : m'.P = m.P
  cd : m'.cd = m.cd
  im : ∀ b o u, m.im b o = some u → m'.im b o = some u
  low : ∀ b, fr b → ∀ o, m'.im b o = m.im b o
  bl : ∀ id : Nat, id < lo → m'.bl[id]? = m.bl[id]?

theorem Fwd.refl (fr : Nat → Prop) (lo : Nat) (m : Mem) : Fwd fr lo m m := ⟨rfl, rfl, fun _ _ _ h => h, fun _ _ _ => rfl, fun _ _ => rfl⟩
theorem Fwd.trans {fr : Nat → Prop} {lo : Nat} {a b c : Mem} (h : Fwd fr lo a b) (k : Fwd fr lo b c) : Fwd fr lo a c :=
  ⟨k.P.trans h.P, k.cd.trans h.cd, fun x y z q => k.im _ _ _ (h.im _ _ _ q), fun x q y => (k.low x q y).trans (h.low x q y), fun x q => (k.bl x q).trans (h.bl x q)⟩
theorem Fwd.sub {fr fr' : Nat → Prop} {lo lo' : Nat} {a b : Mem} (h : Fwd fr lo a b) (hf : ∀ g, fr' g → fr g) (hl : lo' ≤ lo) : Fwd fr' lo' a b :=
  ⟨h.P, h.cd, h.im, fun b hb => h.low b (hf b hb), fun id hid => h.bl id (by omega)⟩
theorem Ext.fwd {fr : Nat → Prop} {lo : Nat} {m m' : Mem} (h : Ext fr m m') (hl : lo ≤ m.bl.length) : Fwd fr lo m m' :=
  ⟨h.le.P, h.le.cd, h.le.im, h.low, fun id hid => by
    have : m.bl[id]? = some (m.bl[id]'(by omega)) := List.getElem?_eq_getElem (by omega)
    rw [this]; exact h.le.bl id _ this⟩
theorem Fwd.ext {fr : Nat → Prop} {lo : Nat} {m m' : Mem} (h : Fwd fr lo m m') (hl : m.bl.length ≤ lo) : Ext fr m m' :=
  ⟨⟨h.P, h.cd, h.im, fun id e he => by rw [h.bl id (Nat.lt_of_lt_of_le (List.getElem?_eq_some_iff.1 he).1 hl)]; exact he⟩, h.low⟩

def FnThere (P : Program) (f : FuncId) : Prop := ∃ fn, P.funcs[f]? = some fn ∧ fn.body.isSome = true ∧ (fn.name == "runtime.NumGoroutine") = false

/-- What a function makes of values, in the memory of its caller. -/
def RawOk (P : Program) (fid : FuncId → Option Nat) (f : FuncId) (as : List AV) (hp : List Blk) (v : AV) (hp' : List Blk) : Prop :=
  ∀ (fr : Nat → Prop) w0 m w (args : Array Value), m.P = P → m.cd = fid → HInv fr w0 m hp w [] → CL m as (fun i => args[i]?) → args.size = as.length →
    CallsIn Fence.wide 0 P f args w fun e w' => ∃ u m', e = .returned u ∧ Fwd fr hp.length m m' ∧ HInv fr w0 m' hp' w' [] ∧ R m' w' v u []

/-- And once it has ended: as many blocks as there were; what is new lies in the answer. -/
def CallOk (P : Program) (fid : FuncId → Option Nat) (f : FuncId) (as : List AV) (hps : List Blk) (r : AV × List Blk) : Prop :=
  ∀ (fr : Nat → Prop) w0 m w (args : Array Value), m.P = P → m.cd = fid → HInv fr w0 m hps w [] → CL m as (fun i => args[i]?) → args.size = as.length →
    CallsIn Fence.wide 0 P f args w fun e w' => ∃ u m' fl, e = .returned u ∧ Ext fr m m' ∧ m'.bl = m.bl ∧ HInv fr w0 m' r.2 w' fl ∧ R m' w' r.1 u fl

def Good1 (P : Program) (fid : FuncId → Option Nat) (k : Nat) (as : List AV) (hps : List Blk) (r : AV × List Blk) : Prop := ∀ f, fid f = some k → FnThere P f ∧ CallOk P fid f as hps r
def Good2 (P : Program) (fid : FuncId → Option Nat) (k : Nat) (as : List AV) (hp : List Blk) (v : AV) (hp' : List Blk) : Prop := ∀ f, fid f = some k → FnThere P f ∧ RawOk P fid f as hp v hp'

inductive CStep (P : Program) (fid : FuncId → Option Nat) (dr : Bool) (k : Nat) (vs : List AV) (hp : List Blk) : Md → AV → List Blk → Prop
  | plain {ps r} (hf : fzL hp vs = some ps) (hr : Good1 P fid k ps [] r) (hd : (!dr || ((noimm r.1 || (idsL vs).isEmpty) && noid r.1)) = true) : CStep P fid dr k vs hp .plain (thaw (if noimm r.1 then hp else still hp (idsL vs)) r.1).1 (thaw (if noimm r.1 then hp else still hp (idsL vs)) r.1).2
  | quiet {ps r} (hf : fzL hp vs = some ps) (hr : Good1 P fid k ps [] r) (h1 : noinl r.1 = true) (h2 : noimm r.1 = true ∨ idsL vs = []) : CStep P fid dr k vs hp .quiet r.1 hp
  | mem {hps r} (hs : subHp hp (dedup (idsL vs) []) = some hps) (hr : Good1 P fid k (renL (idxOf (dedup (idsL vs) [])) vs) hps r) (hl : r.2.length = (dedup (idsL vs) []).length) (hn : r.2.all Blk.noidb = true) :
      CStep P fid dr k vs hp .mem (thaw (putHp hp (dedup (idsL vs) []) r.2) (ren (fun i => (dedup (idsL vs) []).getD i 0) r.1)).1 (thaw (putHp hp (dedup (idsL vs) []) r.2) (ren (fun i => (dedup (idsL vs) []).getD i 0) r.1)).2
  | all {v hp'} (hr : Good2 P fid k vs hp v hp') : CStep P fid dr k vs hp .all (thaw hp' v).1 (thaw hp' v).2

/-- What a call comes to where it is made. -/
def Shared (P : Program) (fid : FuncId → Option Nat) (f : FuncId) (as : List AV) (hp : List Blk) (v : AV) (hp' : List Blk) : Prop :=
  ∀ (fr : Nat → Prop) w0 m w (args : Array Value), m.P = P → m.cd = fid → HInv fr w0 m hp w [] → CL m as (fun i => args[i]?) → args.size = as.length →
    CallsIn Fence.wide 0 P f args w fun e w' => ∃ u m', e = .returned u ∧ Ext fr m m' ∧ HInv fr w0 m' hp' w' [] ∧ C m' v u

/-! ### Values -/

mutual
theorem frz_frz : ∀ x : AV, (x.mapv frz1).mapv frz1 = x.mapv frz1
  | .sl _ cs | .ip cs | .vec _ cs | .box cs | .agg cs | .tup cs => by simp only [AV.mapv, frz1, frzL_frzL cs]
  | .mp a b | .clo _ a b => by simp only [AV.mapv, frz1, frzL_frzL a, frzL_frzL b]
  | .ifc t v => by simp only [AV.mapv, frz1, AV.ifc.injEq, true_and]; exact frz_frz v
  | .unk | .any | .maybe _ _ | .bool _ | .int _ _ | .str _ | .nils | .nilp | .nilf | .nili | .nilm | .own _ _ | .osl _ _ _ _ | .ref _ _ | .mref _ | .yld _ => by simp [AV.mapv, frz1]
theorem frzL_frzL : ∀ l : List AV, mapL frz1 (mapL frz1 l) = mapL frz1 l
  | [] => rfl
  | x :: xs => by simp only [mapL, frzL_frzL xs, List.cons.injEq, and_true]; exact frz_frz x
end

theorem still_still (b : Blk) : b.still.still = b.still := by
  cases b <;> simp only [Blk.still]
  rename_i cs
  simp only [frzL, frzL_frzL]

theorem still_get : ∀ (l : List Nat) (hp : List Blk) (id : Nat), (still hp l)[id]? = (hp[id]?).map fun b => if id ∈ l then b.still else b
  | [], hp, id => by simp [still]
  | k :: l, hp, id => by
    simp only [still]
    rw [still_get l, mod_get]
    cases hp[id]? with
    | none => simp
    | some b =>
      by_cases hk : k = id
      · subst hk
        simp only [if_true, Option.map_some, List.mem_cons, true_or]
        split
        · rw [still_still]
        · rfl
      · rw [if_neg hk]
        simp only [Option.map_some, List.mem_cons]
        have : (id = k ∨ id ∈ l) ↔ id ∈ l := ⟨fun h => h.resolve_left (fun e => hk e.symm), .inr⟩
        simp only [this]

mutual
theorem noid_ids : ∀ x : AV, x.allv pnoid = true → x.ids = []
  | .sl _ cs, h | .ip cs, h | .vec _ cs, h | .box cs, h | .agg cs, h | .tup cs, h => by
    simp only [AV.allv, Bool.and_eq_true] at h
    simp only [AV.ids]; exact noidL_ids cs h.2
  | .mp a b, h | .clo _ a b, h => by
    simp only [AV.allv, Bool.and_eq_true] at h
    simp only [AV.ids, noidL_ids a h.2.1, noidL_ids b h.2.2, List.append_nil]
  | .ifc t v, h => by
    simp only [AV.allv, Bool.and_eq_true] at h
    simp only [AV.ids]; exact noid_ids v h.2
  | .own _ _, h | .osl _ _ _ _, h | .ref _ _, h | .mref _, h | .yld _, h => by simp [AV.allv, pnoid] at h
  | .unk, _ | .any, _ | .maybe _ _, _ | .bool _, _ | .int _ _, _ | .str _, _ | .nils, _ | .nilp, _ | .nilf, _ | .nili, _ | .nilm, _ => by simp [AV.ids]
theorem noidL_ids : ∀ l : List AV, allL pnoid l = true → idsL l = []
  | [], _ => rfl
  | x :: xs, h => by
    simp only [allL, Bool.and_eq_true] at h
    simp only [idsL, noid_ids x h.1, noidL_ids xs h.2, List.append_nil]
end

mutual
theorem frz_noid : ∀ x : AV, (x.mapv frz1).allv pnoid = x.allv pnoid
  | .sl _ cs | .ip cs | .vec _ cs | .box cs | .agg cs | .tup cs => by simp only [AV.mapv, frz1, AV.allv, pnoid, frzL_noid cs]
  | .mp a b | .clo _ a b => by simp only [AV.mapv, frz1, AV.allv, pnoid, frzL_noid a, frzL_noid b]
  | .ifc t v => by simp only [AV.mapv, frz1, AV.allv, pnoid]; rw [frz_noid v]
  | .unk | .any | .maybe _ _ | .bool _ | .int _ _ | .str _ | .nils | .nilp | .nilf | .nili | .nilm | .own _ _ | .osl _ _ _ _ | .ref _ _ | .mref _ | .yld _ => by simp [AV.mapv, frz1, AV.allv]
theorem frzL_noid : ∀ l : List AV, allL pnoid (mapL frz1 l) = allL pnoid l
  | [] => rfl
  | x :: xs => by simp only [mapL, allL]; rw [frz_noid x, frzL_noid xs]
end

theorem allL_all {p : AV → Bool} : ∀ {l : List AV}, allL p l = true ↔ ∀ x ∈ l, x.allv p = true
  | [] => by simp [allL]
  | x :: xs => by simp only [allL, Bool.and_eq_true, List.mem_cons, forall_eq_or_imp, allL_all (l := xs)]

theorem allL_take {p : AV → Bool} {l : List AV} (h : allL p l = true) (n : Nat) : allL p (l.take n) = true := allL_all.2 fun x hx => allL_all.1 h x (List.mem_of_mem_take hx)
theorem allL_drop {p : AV → Bool} {l : List AV} (h : allL p l = true) (n : Nat) : allL p (l.drop n) = true := allL_all.2 fun x hx => allL_all.1 h x (List.mem_of_mem_drop hx)

/-- No block is named: which ones there are is nothing to it. -/
theorem C_noid {m m' : Mem} (hP : m'.P = m.P) (hcd : m'.cd = m.cd) (him : ∀ b o u, m.im b o = some u → m'.im b o = some u) {x : AV} {v : Value} (hx : x.allv pnoid = true) (h : C m x v) : C m' x v := by
  have := C_sim (r := id) x v (m' := m') ⟨hP, hcd, him, fun i hi => by rw [noid_ids x hx] at hi; cases hi⟩ h
  rwa [ren_id] at this
theorem CL_noid {m m' : Mem} (hP : m'.P = m.P) (hcd : m'.cd = m.cd) (him : ∀ b o u, m.im b o = some u → m'.im b o = some u) {xs : List AV} {g : Nat → Option Value} (hx : allL pnoid xs = true) (h : CL m xs g) : CL m' xs g := by
  have := CL_sim2 (r := id) xs g g (m' := m') ⟨hP, hcd, him, fun i hi => by rw [noidL_ids xs hx] at hi; cases hi⟩ (fun _ _ h => h) h
  rwa [renL_id] at this
theorem RL_noid {m m' : Mem} {w w' : World} (hP : m'.P = m.P) (hcd : m'.cd = m.cd) (him : ∀ b o u, m.im b o = some u → m'.im b o = some u) {xs : List AV} {g : Nat → Option Value} {f : List Nat} (hx : allL pnoid xs = true) (hw : ∀ g ∈ f, w'.heap[g]? = w.heap[g]?) (h : RL m w xs g f) : RL m' w' xs g f := by
  have := RL_sim (r := id) xs g g f (m' := m') (w' := w') ⟨hP, hcd, him, fun i hi => by rw [noidL_ids xs hx] at hi; cases hi⟩ hw (fun _ _ h => h) h
  rwa [renL_id] at this

mutual
/-- What is known for certain has nothing in it that nobody else has. -/
theorem C_noinl {m : Mem} : ∀ (x : AV) (v : Value), C m x v → x.allv pnoinl = true
  | .sl _ cs, v, h => by
    simp only [C] at h
    obtain ⟨_, a, n, c, _, _, _, _, h⟩ := h
    simp only [AV.allv, pnoinl, Bool.true_and]
    by_cases hc : cs = []
    · subst hc; rfl
    · obtain ⟨b, o, _, h⟩ := h hc
      exact CL_noinl cs _ h
  | .ip cs, v, h => by
    simp only [C] at h
    obtain ⟨_, b, o, _, h⟩ := h
    simp only [AV.allv, pnoinl, Bool.true_and]
    exact CL_noinl cs _ h
  | .agg cs, v, h => by
    simp only [C] at h
    obtain ⟨_, vs, _, _, h⟩ := h
    simp only [AV.allv, pnoinl, Bool.true_and]
    exact CL_noinl cs _ h
  | .tup cs, v, h => by
    simp only [C] at h
    obtain ⟨vs, _, _, h⟩ := h
    simp only [AV.allv, pnoinl, Bool.true_and]
    exact CL_noinl cs _ h
  | .clo _ a b, v, h => by
    simp only [C] at h
    obtain ⟨_, _, _, _, _, _, _, h1, h2⟩ := h
    simp only [AV.allv, pnoinl, Bool.true_and, Bool.and_eq_true]
    exact ⟨CL_noinl a _ h1, CL_noinl b _ h2⟩
  | .ifc t x, v, h => by
    simp only [C] at h
    obtain ⟨u, _, h⟩ := h
    simp only [AV.allv, pnoinl, Bool.true_and]
    exact C_noinl x u h
  | .vec _ _, v, h | .box _, v, h | .mp _ _, v, h => by simp only [C] at h
  | .unk, _, _ | .any, _, _ | .maybe _ _, _, _ | .bool _, _, _ | .int _ _, _, _ | .str _, _, _ | .nils, _, _ | .nilp, _, _ | .nilf, _, _ | .nili, _, _ | .nilm, _, _ | .own _ _, _, _ | .osl _ _ _ _, _, _ | .ref _ _, _, _ | .mref _, _, _ | .yld _, _, _ => by simp [AV.allv, pnoinl]
theorem CL_noinl {m : Mem} : ∀ (l : List AV) (g : Nat → Option Value), CL m l g → allL pnoinl l = true
  | [], _, _ => rfl
  | x :: xs, g, h => by
    simp only [CL] at h
    obtain ⟨⟨u, _, h1⟩, h2⟩ := h
    simp only [allL, Bool.and_eq_true]
    exact ⟨C_noinl x u h1, CL_noinl xs _ h2⟩
end

mutual
theorem thaw_noinl {m : Mem} {w : World} : ∀ (x : AV) (v : Value) (f : List Nat) (hp : List Blk), R m w x v f → (thaw hp x).1.allv pnoinl = true
  | .vec _ _, _, _, _, _ | .box _, _, _, _, _ => by simp [thaw, AV.allv, pnoinl]
  | .mp _ _, v, f, hp, h => by simp only [R] at h
  | .agg cs, v, f, hp, h => by
    simp only [R] at h
    obtain ⟨_, vs, _, _, h⟩ := h
    simp only [thaw, AV.allv, pnoinl, Bool.true_and]
    exact thawL_noinl cs _ f hp h
  | .tup cs, v, f, hp, h => by
    simp only [R] at h
    obtain ⟨vs, _, _, h⟩ := h
    simp only [thaw, AV.allv, pnoinl, Bool.true_and]
    exact thawL_noinl cs _ f hp h
  | .clo _ a b, v, f, hp, h => by
    simp only [R] at h
    obtain ⟨_, _, _, f1, f2, _, _, _, _, _, h1, h2⟩ := h
    simp only [thaw, AV.allv, pnoinl, Bool.true_and, Bool.and_eq_true]
    exact ⟨thawL_noinl a _ f1 hp h1, thawL_noinl b _ f2 _ h2⟩
  | .ifc t x, v, f, hp, h => by
    simp only [R] at h
    obtain ⟨u, _, h⟩ := h
    simp only [thaw, AV.allv, pnoinl, Bool.true_and]
    exact thaw_noinl x u f hp h
  | .sl _ _, v, f, hp, h | .ip _, v, f, hp, h => by
    simp only [R] at h
    simp only [thaw]
    exact C_noinl _ v h.2
  | .unk, _, _, _, _ | .any, _, _, _, _ | .maybe _ _, _, _, _, _ | .bool _, _, _, _, _ | .int _ _, _, _, _, _ | .str _, _, _, _, _ | .nils, _, _, _, _ | .nilp, _, _, _, _ | .nilf, _, _, _, _ | .nili, _, _, _, _ | .nilm, _, _, _, _ | .own _ _, _, _, _, _ | .osl _ _ _ _, _, _, _, _ | .ref _ _, _, _, _, _ | .mref _, _, _, _, _ | .yld _, _, _, _, _ => by simp [thaw, AV.allv, pnoinl]
theorem thawL_noinl {m : Mem} {w : World} : ∀ (l : List AV) (g : Nat → Option Value) (f : List Nat) (hp : List Blk), RL m w l g f → allL pnoinl (thawL hp l).1 = true
  | [], _, _, _, _ => rfl
  | x :: xs, g, f, hp, h => by
    simp only [RL] at h
    obtain ⟨f1, f2, _, ⟨u, _, h1⟩, h2⟩ := h
    simp only [thawL, allL, Bool.and_eq_true]
    exact ⟨thaw_noinl x u f1 hp h1, thawL_noinl xs _ f2 _ h2⟩
end

mutual
/-- Nothing that is only read, and no blocks: what is known of memory is nothing to it. -/
theorem R_noimm {m m' : Mem} {w : World} (hb : m.bl = []) (hP : m'.P = m.P) (hcd : m'.cd = m.cd) : ∀ (x : AV) (v : Value) (f : List Nat), x.allv pnoimm = true → R m w x v f → R m' w x v f
  | .vec sz cs, v, f, hx, h => by
    simp only [AV.allv, Bool.and_eq_true] at hx
    simp only [R] at h ⊢
    obtain ⟨h1, a, n, c, h2, h3, h4, h5, h6⟩ := h
    refine ⟨h1, a, n, c, h2, h3, h4, h5, ?_⟩
    rcases h6 with h6 | ⟨g, cur, t, f', h7, h8, h9, h10, h11⟩
    · exact .inl h6
    · exact .inr ⟨g, cur, t, f', h7, h8, h9, h10, RL_noimm hb hP hcd cs _ f' hx.2 h11⟩
  | .box cs, v, f, hx, h => by
    simp only [AV.allv, Bool.and_eq_true] at hx
    simp only [R] at h ⊢
    obtain ⟨h1, g, cur, t, f', h7, h8, h10, h11⟩ := h
    exact ⟨h1, g, cur, t, f', h7, h8, h10, RL_noimm hb hP hcd cs _ f' hx.2 h11⟩
  | .mp _ _, v, f, hx, h => by simp only [R] at h
  | .agg cs, v, f, hx, h => by
    simp only [AV.allv, Bool.and_eq_true] at hx
    simp only [R] at h ⊢
    obtain ⟨h1, vs, h2, h3, h4⟩ := h
    exact ⟨h1, vs, h2, h3, RL_noimm hb hP hcd cs _ f hx.2 h4⟩
  | .tup cs, v, f, hx, h => by
    simp only [AV.allv, Bool.and_eq_true] at hx
    simp only [R] at h ⊢
    obtain ⟨vs, h2, h3, h4⟩ := h
    exact ⟨vs, h2, h3, RL_noimm hb hP hcd cs _ f hx.2 h4⟩
  | .clo _ a b, v, f, hx, h => by
    simp only [AV.allv, Bool.and_eq_true] at hx
    simp only [R] at h ⊢
    obtain ⟨fn, fs', cs', f1, f2, h1, h2, h3, h4, h5, h6, h7⟩ := h
    exact ⟨fn, fs', cs', f1, f2, h1, by rw [hcd]; exact h2, h3, h4, h5, RL_noimm hb hP hcd a _ f1 hx.2.1 h6, RL_noimm hb hP hcd b _ f2 hx.2.2 h7⟩
  | .ifc t x, v, f, hx, h => by
    simp only [AV.allv, Bool.and_eq_true] at hx
    simp only [R] at h ⊢
    obtain ⟨u, h1, h2⟩ := h
    exact ⟨u, h1, R_noimm hb hP hcd x u f hx.2 h2⟩
  | .sl _ _, _, _, hx, _ | .ip _, _, _, hx, _ => by simp [AV.allv, pnoimm] at hx
  | .own _ _, v, f, hx, h | .osl _ _ _ _, v, f, hx, h | .ref _ _, v, f, hx, h | .mref _, v, f, hx, h | .yld _, v, f, hx, h => by
    simp only [R, C, hb] at h
    obtain ⟨_, e, h, _⟩ := h
    simp at h
  | .unk, v, f, hx, h | .any, v, f, hx, h | .maybe _ _, v, f, hx, h | .bool _, v, f, hx, h | .int _ _, v, f, hx, h | .str _, v, f, hx, h | .nils, v, f, hx, h | .nilp, v, f, hx, h | .nilf, v, f, hx, h | .nili, v, f, hx, h | .nilm, v, f, hx, h => by
    simpa only [R, C] using h
theorem RL_noimm {m m' : Mem} {w : World} (hb : m.bl = []) (hP : m'.P = m.P) (hcd : m'.cd = m.cd) : ∀ (l : List AV) (g : Nat → Option Value) (f : List Nat), allL pnoimm l = true → RL m w l g f → RL m' w l g f
  | [], _, _, _, h => by simpa only [RL] using h
  | x :: xs, g, f, hx, h => by
    simp only [allL, Bool.and_eq_true] at hx
    simp only [RL] at h ⊢
    obtain ⟨f1, f2, h0, ⟨u, h1, h2⟩, h3⟩ := h
    exact ⟨f1, f2, h0, ⟨u, h1, R_noimm hb hP hcd x u f1 hx.1 h2⟩, RL_noimm hb hP hcd xs _ f2 hx.2 h3⟩
end

section
variable {P : Program} {fid : FuncId → Option Nat} {fr : Nat → Prop} {w0 w w' : World} {m : Mem} {hp hp' : List Blk} {fl : List Nat}

/-- A row that stays. -/
theorem frozen_at {l : List Nat} (H : HInv fr w0 m (still hp l) w fl) {id : Nat} {cs : List AV} (hid : id ∈ l) (hb : rowc hp id = some cs) :
    ∃ e, m.bl[id]? = some e ∧ cs.all AV.okc = true ∧ cs.length = e.n * e.sz ∧ (cs = [] → e.n = 0) ∧ e.n ≤ e.cap ∧ ((e.b = none ∧ e.cap = 0) ∨ ∃ g, e.b = some g ∧ e.a = some ⟨g, 0, none⟩ ∧ CL m (frzL cs) (fun i => m.im g i)) := by
  simp only [rowc, Option.bind_eq_some_iff] at hb
  obtain ⟨b, hb, hc⟩ := hb
  cases b <;> simp only [Blk.cells, reduceCtorEq, Option.some.injEq] at hc
  subst hc
  rename_i q cs
  have hg : (still hp l)[id]? = some (.row true (frzL cs)) := by
    rw [still_get, hb]; simp [hid, Blk.still]
  obtain ⟨e, he, h1, h2, h3, h4, h5⟩ := H.at_ hg
  obtain ⟨k1, k2, k3⟩ := frzL_len cs
  refine ⟨e, he, by rw [← k3]; exact h1, by rw [← k1]; exact h2, fun hc => h3 (by subst hc; rfl), h4, ?_⟩
  rcases h5 with ⟨q1, q2, _⟩ | ⟨g, q1, q2, _, q4⟩
  · exact .inl ⟨q1, q2⟩
  · exact .inr ⟨g, q1, q2, (q4 rfl).2⟩

theorem frzL_drop (cs : List AV) (n : Nat) : frzL (cs.drop n) = (frzL cs).drop n := by
  unfold frzL
  induction cs generalizing n with
  | nil => simp [mapL]
  | cons x xs ih => cases n with
    | zero => rfl
    | succ n => simpa [mapL] using ih n
theorem frzL_take (cs : List AV) (n : Nat) : frzL (cs.take n) = (frzL cs).take n := by
  unfold frzL
  induction cs generalizing n with
  | nil => simp [mapL]
  | cons x xs ih => cases n with
    | zero => rfl
    | succ n => simpa [mapL] using ih n

mutual
/-- Handed on by its contents. -/
theorem fz_ok {l : List Nat} (H : HInv fr w0 m (still hp l) w fl) : ∀ (x y : AV) (v : Value), (∀ id ∈ x.ids, id ∈ l) → C m x v → fz hp x = some y → C m y v ∧ y.allv pnoid = true ∧ y.okc = x.okc
  | .nils, y, v, _, hC, hf => by
    simp only [fz] at hf; injection hf with hf; subst hf
    simp only [C] at hC ⊢
    exact ⟨⟨rfl, none, 0, 0, hC, rfl, fun _ => rfl, Nat.le_refl _, fun h => absurd rfl h⟩, rfl, rfl⟩
  | .own sz id, y, v, hi, hC, hf => by
    simp only [fz, Option.bind_eq_some_iff] at hf
    obtain ⟨cs, hcs, hf⟩ := hf
    split at hf
    · rename_i hn
      injection hf with hf; subst hf
      obtain ⟨e, he, h1, h2, h3, h4, h5⟩ := frozen_at H (hi id (by simp [AV.ids])) hcs
      obtain ⟨k1, k2, k3⟩ := frzL_len cs
      simp only [C] at hC ⊢
      obtain ⟨e', he', rfl, hes⟩ := hC
      rw [he] at he'; injection he' with he'; subst he'
      refine ⟨⟨by rw [frzL, k3]; exact h1, e.a, e.n, e.cap, rfl, by rw [frzL, k1, h2, hes], fun hc => h3 (k2 hc), h4, fun hne => ?_⟩, ?_, rfl⟩
      · rcases h5 with ⟨q1, q2⟩ | ⟨g, q1, q2, q3⟩
        · exfalso; apply hne
          exact List.eq_nil_of_length_eq_zero (by rw [frzL, k1, h2, show e.n = 0 by omega]; simp)
        · exact ⟨g, 0, q2, by simpa using q3⟩
      · simp only [AV.allv, pnoid, Bool.true_and]
        rw [frzL, frzL_noid]; exact hn
    · cases hf
  | .osl sz id o n, y, v, hi, hC, hf => by
    simp only [fz, Option.bind_eq_some_iff] at hf
    obtain ⟨cs0, hcs, cs, hpt, hf⟩ := hf
    split at hf
    · rename_i hn
      injection hf with hf; subst hf
      obtain ⟨e, he, h1, h2, h3, h4, h5⟩ := frozen_at H (hi id (by simp [AV.ids])) hcs
      simp only [part] at hpt
      split at hpt
      · rename_i hle
        injection hpt with hpt
        have hok : cs.all AV.okc = true := by rw [← hpt]; exact all_take (all_drop h1 _) _
        have hlen : cs.length = n * sz := by rw [← hpt]; simp; rw [Nat.add_mul] at hle; omega
        obtain ⟨k1, k2, k3⟩ := frzL_len cs
        simp only [C] at hC ⊢
        obtain ⟨e', he', hes, hs0, ad, c, rfl, hnc, hco, hca⟩ := hC
        rw [he] at he'; injection he' with he'; subst he'
        refine ⟨⟨by rw [frzL, k3]; exact hok, ad, n, c, rfl, by rw [frzL, k1, hlen], fun hc => ?_, hnc, fun hne => ?_⟩, ?_, rfl⟩
        · have := k2 hc
          rw [this, List.length_nil] at hlen
          rcases Nat.mul_eq_zero.1 hlen.symm with h | h
          · exact h
          · omega
        · have hn0 : n ≠ 0 := by
            intro h0; subst h0
            apply hne
            exact List.eq_nil_of_length_eq_zero (by rw [frzL, k1, hlen]; simp)
          rcases hca with hc0 | ⟨g', hg', rfl⟩
          · omega
          · rcases h5 with ⟨q1, _⟩ | ⟨g, q1, q2, q3⟩
            · rw [q1] at hg'; cases hg'
            · rw [q1] at hg'; injection hg' with hg'; subst hg'
              refine ⟨g, o * sz, rfl, ?_⟩
              rw [← hpt, frzL_take, frzL_drop, CL_iff]
              intro i x hx
              rw [List.getElem?_take] at hx
              split at hx
              · rw [List.getElem?_drop] at hx
                exact CL_iff.1 q3 _ x hx
              · cases hx
        · simp only [AV.allv, pnoid, Bool.true_and]
          rw [frzL, frzL_noid]; exact hn
      · cases hpt
    · cases hf
  | .ref id off, y, v, hi, hC, hf => by
    simp only [fz, Option.bind_eq_some_iff] at hf
    obtain ⟨cs, hcs, hf⟩ := hf
    split at hf
    · rename_i hn
      injection hf with hf; subst hf
      obtain ⟨e, he, h1, h2, h3, h4, h5⟩ := frozen_at H (hi id (by simp [AV.ids])) hcs
      obtain ⟨k1, k2, k3⟩ := frzL_len (cs.drop off)
      simp only [C] at hC ⊢
      obtain ⟨e', he', g', hg', rfl⟩ := hC
      rw [he] at he'; injection he' with he'; subst he'
      rcases h5 with ⟨q1, _⟩ | ⟨g, q1, q2, q3⟩
      · rw [q1] at hg'; cases hg'
      · rw [q1] at hg'; injection hg' with hg'; subst hg'
        refine ⟨⟨by rw [frzL, k3]; exact all_drop h1 _, g, off, rfl, ?_⟩, ?_, rfl⟩
        · rw [frzL_drop, CL_iff]
          intro i x hx
          rw [List.getElem?_drop] at hx
          exact CL_iff.1 q3 _ x hx
        · simp only [AV.allv, pnoid, Bool.true_and]
          rw [frzL, frzL_noid]; exact allL_drop hn.1 _
    · cases hf
  | .sl sz cs, y, v, hi, hC, hf => by
    simp only [fz] at hf
    split at hf
    · rename_i hn
      injection hf with hf; subst hf
      exact ⟨hC, by simp only [AV.allv, pnoid, Bool.true_and]; exact hn, rfl⟩
    · cases hf
  | .ip cs, y, v, hi, hC, hf => by
    simp only [fz] at hf
    split at hf
    · rename_i hn
      injection hf with hf; subst hf
      exact ⟨hC, by simp only [AV.allv, pnoid, Bool.true_and]; exact hn, rfl⟩
    · cases hf
  | .agg cs, y, v, hi, hC, hf => by
    simp only [fz, Option.map_eq_some_iff] at hf
    obtain ⟨ys, hys, rfl⟩ := hf
    simp only [C] at hC ⊢
    obtain ⟨h1, vs, h2, h3, h4⟩ := hC
    obtain ⟨k1, k2, k3, k4⟩ := fzL_ok H cs ys _ (by simpa only [AV.ids] using hi) h4 hys
    exact ⟨⟨by rw [k4]; exact h1, vs, h2, by rw [k3]; exact h3, k1⟩, by simp only [AV.allv, pnoid, Bool.true_and]; exact k2, rfl⟩
  | .tup cs, y, v, hi, hC, hf => by
    simp only [fz, Option.map_eq_some_iff] at hf
    obtain ⟨ys, hys, rfl⟩ := hf
    simp only [C] at hC ⊢
    obtain ⟨vs, h2, h3, h4⟩ := hC
    obtain ⟨k1, k2, k3, k4⟩ := fzL_ok H cs ys _ (by simpa only [AV.ids] using hi) h4 hys
    exact ⟨⟨vs, h2, by rw [k3]; exact h3, k1⟩, by simp only [AV.allv, pnoid, Bool.true_and]; exact k2, rfl⟩
  | .clo q fs cs, y, v, hi, hC, hf => by
    simp only [fz, Option.bind_eq_some_iff, Option.map_eq_some_iff] at hf
    obtain ⟨ys, hys, zs, hzs, rfl⟩ := hf
    simp only [C] at hC ⊢
    obtain ⟨fn, fs', cs', h1, h2, h3, h4, h5, h6⟩ := hC
    obtain ⟨k1, k2, k3, k4⟩ := fzL_ok H fs ys _ (fun i h => hi i (by simp [AV.ids, h])) h5 hys
    obtain ⟨j1, j2, j3, j4⟩ := fzL_ok H cs zs _ (fun i h => hi i (by simp [AV.ids, h])) h6 hzs
    exact ⟨⟨fn, fs', cs', h1, h2, by rw [k3]; exact h3, by rw [j3]; exact h4, k1, j1⟩, by simp only [AV.allv, pnoid, Bool.true_and, Bool.and_eq_true]; exact ⟨k2, j2⟩, rfl⟩
  | .ifc t x, y, v, hi, hC, hf => by
    simp only [fz, Option.map_eq_some_iff] at hf
    obtain ⟨z, hz, rfl⟩ := hf
    simp only [C] at hC ⊢
    obtain ⟨u, h1, h2⟩ := hC
    obtain ⟨k1, k2, _⟩ := fz_ok H x z u (by simpa only [AV.ids] using hi) h2 hz
    exact ⟨⟨u, h1, k1⟩, by simp only [AV.allv, pnoid, Bool.true_and]; exact k2, rfl⟩
  | .unk, y, v, _, _, hf | .mref _, y, v, _, _, hf | .yld _, y, v, _, _, hf | .vec _ _, y, v, _, _, hf | .box _, y, v, _, _, hf | .mp _ _, y, v, _, _, hf => by simp [fz] at hf
  | .any, y, v, _, hC, hf | .maybe _ _, y, v, _, hC, hf | .bool _, y, v, _, hC, hf | .int _ _, y, v, _, hC, hf | .str _, y, v, _, hC, hf | .nilp, y, v, _, hC, hf | .nilf, y, v, _, hC, hf | .nili, y, v, _, hC, hf | .nilm, y, v, _, hC, hf => by
    simp only [fz] at hf; injection hf with hf; subst hf
    exact ⟨hC, by simp [AV.allv, pnoid], rfl⟩
theorem fzL_ok {l : List Nat} (H : HInv fr w0 m (still hp l) w fl) : ∀ (xs ys : List AV) (g : Nat → Option Value), (∀ id ∈ idsL xs, id ∈ l) → CL m xs g → fzL hp xs = some ys → CL m ys g ∧ allL pnoid ys = true ∧ ys.length = xs.length ∧ ys.all AV.okc = xs.all AV.okc
  | [], ys, g, _, hC, hf => by
    simp only [fzL] at hf; injection hf with hf; subst hf
    exact ⟨by simp [CL], rfl, rfl, rfl⟩
  | x :: xs, ys, g, hi, hC, hf => by
    simp only [fzL, Option.bind_eq_some_iff, Option.map_eq_some_iff] at hf
    obtain ⟨y, hy, zs, hzs, rfl⟩ := hf
    simp only [CL] at hC ⊢
    obtain ⟨⟨u, hu, h1⟩, h2⟩ := hC
    obtain ⟨k1, k2, k3⟩ := fz_ok H x y u (fun i h => hi i (by simp [idsL, h])) h1 hy
    obtain ⟨j1, j2, j3, j4⟩ := fzL_ok H xs zs _ (fun i h => hi i (by simp [idsL, h])) h2 hzs
    exact ⟨⟨⟨u, hu, k1⟩, j1⟩, by simp only [allL, Bool.and_eq_true]; exact ⟨k2, j2⟩, by simp [j3], by simp only [List.all_cons, k3, j4]⟩
end

/-- Blocks that come from elsewhere. -/
theorem HInv.floats (H : HInv fr w0 m hp w []) (hf : ∀ g ∈ fl, ¬ fr g ∧ g < w.heap.size ∧ ∀ o, m.im g o = none) (hn : fl.Nodup) (hd : ∀ id g, g ∈ m.fp id → g ∉ fl) : HInv fr w0 m hp w fl :=
  ⟨H.os, H.tape, H.output, H.size, H.fix, H.len, H.im, H.blk, H.own, H.nd, H.dj, H.fpz, hf, hn, hd⟩

/-- More is known of cells that stay. -/
theorem HInv.imle (H : HInv fr w0 m hp w fl) {im' : Nat → Nat → Option Value} (h1 : ∀ b o u, m.im b o = some u → im' b o = some u) (h2 : ∀ b o u, im' b o = some u → w.cell? ⟨b, o, none⟩ = some u)
    (h3 : ∀ id g, g ∈ m.fp id → ∀ o, im' g o = none) (h4 : ∀ g ∈ fl, ∀ o, im' g o = none) : HInv fr w0 { m with im := im' } hp w fl :=
  ⟨H.os, H.tape, H.output, H.size, H.fix, H.len, h2, fun id b e hb he => (H.blk id b e hb he).mono ⟨rfl, rfl, h1, fun _ _ h => h⟩ (fun _ _ => rfl),
    fun id g hg => ⟨(H.own id g hg).1, (H.own id g hg).2.1, h3 id g hg⟩, H.nd, H.dj, H.fpz, fun g hg => ⟨(H.fown g hg).1, (H.fown g hg).2.1, h4 g hg⟩, H.fnd, H.fdj⟩

/-- What comes back is laid down. -/
theorem thawed (H : HInv fr w0 m hp w fl) {x : AV} {v : Value} (k : R m w x v fl) : ∃ m', Ext fr m m' ∧ HInv fr w0 m' (thaw hp x).2 w [] ∧ C m' (thaw hp x).1 v := by
  obtain ⟨m', f', hE, _, H', hR, _⟩ := thaw_ok (f0 := []) x (by simpa using H) k
  obtain ⟨hC, rfl⟩ := C_of_R _ _ _ (thaw_noinl x v fl hp k) hR
  exact ⟨m', hE, by simpa using H', hC⟩

theorem still_nil (hp : List Blk) : still hp [] = hp := rfl

/-- A callee that is handed contents only. -/
theorem plain_ok {f : FuncId} {vs ps : List AV} {r : AV × List Blk} {args : Array Value} (hP : m.P = P) (hcd : m.cd = fid) (H : HInv fr w0 m hp w []) (hC : CL m vs (fun i => args[i]?)) (hs : args.size = vs.length) (hf : fzL hp vs = some ps) (hr : CallOk P fid f ps [] r) :
    CallsIn Fence.wide 0 P f args w fun e w' => ∃ u fl, e = .returned u ∧
      (noimm r.1 = true → HInv fr w0 m hp w' fl ∧ R m w' r.1 u fl) ∧
      ∃ m', Ext fr m m' ∧ HInv fr w0 m' (still hp (idsL vs)) w' fl ∧ R m' w' r.1 u fl := by
  obtain ⟨m1, E1, H1⟩ := H.still (idsL vs)
  obtain ⟨d1, d2, d3, _⟩ := fzL_ok H1 vs ps _ (fun _ h => h) (CL_mono E1.le _ _ _ (fun _ _ h => h) hC) hf
  have Hc : HInv (fun g => g < w.heap.size) w { m1 with bl := [], fp := fun _ => [] } [] w [] :=
    ⟨rfl, rfl, rfl, Nat.le_refl _, fun g hg => ⟨hg, rfl⟩, rfl, H1.im, fun id b e hb _ => by simp at hb, fun id g hg => by simp at hg, fun id => by simp, fun i j g hg => by simp at hg, fun _ _ => rfl, fun g hg => by simp at hg, by simp, fun id g hg => by simp at hg⟩
  refine (hr _ w _ w args (by rw [← hP]; exact E1.le.P) (by rw [← hcd]; exact E1.le.cd) Hc (CL_noid (m := m1) (m' := { m1 with bl := [], fp := fun _ => [] }) rfl rfl (fun _ _ _ h => h) d2 d1) (by rw [hs, d3])).mono ?_
  rintro e w' ⟨u, m', fl, rfl, E', hbl, H', hR⟩
  have hbl' : m'.bl = [] := hbl
  have hheap : ∀ g, g < w.heap.size → w'.heap[g]? = w.heap[g]? := fun g hg => (H'.fix g hg).2
  have hsize := H'.size
  have G1 : HInv fr w0 m1 (still hp (idsL vs)) w' [] := H1.world H'.os H'.tape H'.output hsize hheap
  have hfl : ∀ g ∈ fl, ¬ g < w.heap.size := fun g hg => (H'.fown g hg).1
  refine ⟨u, fl, rfl, fun hi => ⟨?_, R_noimm hbl' (by rw [E'.le.P]; exact E1.le.P.symm) (by rw [E'.le.cd]; exact E1.le.cd.symm) _ _ _ hi hR⟩, ?_⟩
  · have G0 : HInv fr w0 m hp w' [] := H.world H'.os H'.tape H'.output hsize hheap
    refine G0.floats (fun g hg => ⟨fun h => hfl g hg (H.fix g h).1, (H'.fown g hg).2.1, fun o => ?_⟩) H'.fnd (fun id g h1 h2 => hfl g h2 (H.own id g h1).2.1)
    cases hq : m.im g o with
    | none => rfl
    | some u' => have := H.imlt hq; exact absurd this (hfl g hg)
  · have hl : ∀ g, g < w.heap.size → ∀ o, m'.im g o = m1.im g o := fun g hg o => E'.low g hg o
    have G2 := G1.imle (im' := m'.im) (fun b o u h => E'.le.im b o u h) H'.im (fun id g hg o => by rw [hl g (H1.own id g hg).2.1 o]; exact (H1.own id g hg).2.2 o) (fun g hg => by simp at hg)
    refine ⟨{ m1 with im := m'.im }, ⟨⟨E1.le.P, E1.le.cd, fun b o u h => E'.le.im b o u (E1.le.im b o u h), E1.le.bl⟩, fun b hb o => (hl b (H.fix b hb).1 o).trans (E1.low b hb o)⟩, G2.floats (fun g hg => ⟨fun h => hfl g hg (H.fix g h).1, (H'.fown g hg).2.1, (H'.fown g hg).2.2⟩) H'.fnd (fun id g h1 h2 => hfl g h2 (H1.own id g h1).2.1), ?_⟩
    exact R_mono (m := m') (m' := { m1 with im := m'.im }) ⟨E'.le.P.symm, E'.le.cd.symm, fun _ _ _ h => h, fun id e h => by rw [hbl'] at h; simp at h⟩ (fun _ _ => rfl) hR
end
end Go.Proofs.Ytmeakgiojhoofaa
