/-
  What plain values say of the program's values, and of its memory.
-/
import Derived.Test.YtmeakgiojhoofaaKd
import Derived.Below
import Derived.Lib.Hide
namespace Go.Proofs.Ytmeakgiojhoofaa
open Go.RowKit

/-- Where a block lies: b its cells' block (none: nowhere, it is empty); n elements of sz cells; cap: for how many there is room. -/
structure Ent where
  a : Option Addr
  b : Option Nat
  cap : Nat
  n : Nat
  sz : Nat

/-- Cells that stay as they are; where the evaluator's blocks lie; and which of the program's blocks are theirs alone. -/
structure Mem where
  P : Program
  cd : FuncId → Option Nat
  im : Nat → Nat → Option Value
  bl : List Ent
  fp : Nat → List Nat

mutual
def C (m : Mem) : AV → Value → Prop
  | .unk, _ => True
  | .any, v => v.oneCell' = true
  | .maybe e b, v => ∃ c, v = .bool c ∧ (e = false → c = b)
  | .bool b, v => v = .bool b
  | .int k n, v => v = .int k n
  | .str s, v => v = .string ⟨s.toArray⟩
  | .nils, v => v = .slice none 0 0
  | .nilp, v => v = .pointer none
  | .nilf, v => v = .nilFunc
  | .nili, v => v = .nilIface
  | .nilm, v => v = .map none
  | .sl sz cs, v => cs.all AV.okc = true ∧ ∃ a n c, v = .slice a n c ∧ cs.length = n * sz ∧ (cs = [] → n = 0) ∧ n ≤ c ∧ (cs ≠ [] → ∃ b o, a = some ⟨b, o, none⟩ ∧ CL m cs (fun i => m.im b (o + i)))
  | .ip cs, v => cs.all AV.okc = true ∧ ∃ b o, v = .pointer (some ⟨b, o, none⟩) ∧ CL m cs (fun i => m.im b (o + i))
  | .own sz id, v => ∃ e, m.bl[id]? = some e ∧ v = .slice e.a e.n e.cap ∧ e.sz = sz
  | .osl sz id o n, v => ∃ e, m.bl[id]? = some e ∧ e.sz = sz ∧ 0 < sz ∧ ∃ a c, v = .slice a n c ∧ n ≤ c ∧ c + o = e.cap ∧ (c = 0 ∨ ∃ g, e.b = some g ∧ a = some ⟨g, o * sz, none⟩)
  | .ref id off, v => ∃ e, m.bl[id]? = some e ∧ ∃ g, e.b = some g ∧ v = .pointer (some ⟨g, off, none⟩)
  | .mref id, v => ∃ e, m.bl[id]? = some e ∧ ∃ g, e.b = some g ∧ v = .map (some g)
  | .yld id, v => ∃ e, m.bl[id]? = some e ∧ ∃ g, e.b = some g ∧ v = .func (.yield g) #[] #[]
  | .vec _ _, _ | .box _, _ | .mp _ _, _ => False
  | .clo k fs cs, v => ∃ fn fs' cs', v = .func (.func fn) fs' cs' ∧ m.cd fn = some k ∧ fs'.size = fs.length ∧ cs'.size = cs.length ∧ CL m fs (fun i => fs'[i]?) ∧ CL m cs (fun i => cs'[i]?)
  | .ifc t x, v => ∃ u, v = .iface t u ∧ C m x u
  | .agg cs, v => cs.all AV.okc = true ∧ ∃ vs, v = .agg vs ∧ vs.size = cs.length ∧ CL m cs (fun i => vs[i]?)
  | .tup cs, v => ∃ vs, v = .tuple vs ∧ vs.size = cs.length ∧ CL m cs (fun i => vs[i]?)
def CL (m : Mem) : List AV → (Nat → Option Value) → Prop
  | [], _ => True
  | x :: xs, g => (∃ u, g 0 = some u ∧ C m x u) ∧ CL m xs (fun i => g (i + 1))
end

theorem CL_iff {m : Mem} {cs : List AV} {g : Nat → Option Value} : CL m cs g ↔ ∀ i x, cs[i]? = some x → ∃ u, g i = some u ∧ C m x u := by
  induction cs generalizing g with
  | nil => simp [CL]
  | cons x xs ih =>
    simp only [CL, ih]
    constructor
    · rintro ⟨h1, h2⟩ i y hy
      cases i with
      | zero => simp at hy; subst hy; exact h1
      | succ i => simp at hy; exact h2 i y hy
    · intro h
      exact ⟨h 0 x (by simp), fun i y hy => h (i + 1) y (by simpa using hy)⟩

/-- What is known goes on, by other numbers: a block is the same, or gone. -/
structure Sim (r : Nat → Nat) (L : List Nat) (m m' : Mem) : Prop where
  P : m'.P = m.P
  cd : m'.cd = m.cd
  im : ∀ b o u, m.im b o = some u → m'.im b o = some u
  bl : ∀ id ∈ L, ∀ e, m.bl[id]? = some e → m'.bl[r id]? = some e

theorem Sim.sub {r : Nat → Nat} {L L' : List Nat} {m m' : Mem} (h : Sim r L m m') (hs : ∀ x ∈ L', x ∈ L) : Sim r L' m m' := ⟨h.P, h.cd, h.im, fun id hi => h.bl id (hs id hi)⟩

mutual
theorem C_sim {r : Nat → Nat} {m m' : Mem} : ∀ (x : AV) (v : Value), Sim r x.ids m m' → C m x v → C m' (ren r x) v
  | .unk, _, _, _ => by simp [ren, AV.mapv, ren1, C]
  | .any, v, _, k | .maybe _ _, v, _, k | .bool _, v, _, k | .int _ _, v, _, k | .str _, v, _, k | .nils, v, _, k | .nilp, v, _, k | .nilf, v, _, k | .nili, v, _, k | .nilm, v, _, k => by simpa only [ren, AV.mapv, ren1, C] using k
  | .sl sz cs, v, h, k => by
    simp only [C, ren, AV.mapv, ren1] at k ⊢
    obtain ⟨h1, a, n, c, h2, h3, h4, h5, h6⟩ := k
    obtain ⟨e1, e2⟩ := CL_sim (r := r) (m := m) (m' := m') cs (fun _ => none) (fun _ => none) (by simpa only [AV.ids] using h)
    refine ⟨by rw [e2]; exact h1, a, n, c, h2, by rw [e1.1]; exact h3, fun h => h4 (e1.2 h), h5, fun hne => ?_⟩
    obtain ⟨b, o, h7, h8⟩ := h6 (fun e => hne (by subst e; rfl))
    exact ⟨b, o, h7, (CL_sim2 cs _ _ (by simpa only [AV.ids] using h) (fun i u => h.im _ _ _) h8)⟩
  | .ip cs, v, h, k => by
    simp only [C, ren, AV.mapv, ren1] at k ⊢
    obtain ⟨h1, b, o, h2, h3⟩ := k
    obtain ⟨e1, e2⟩ := CL_sim (r := r) (m := m) (m' := m') cs (fun _ => none) (fun _ => none) (by simpa only [AV.ids] using h)
    exact ⟨by rw [e2]; exact h1, b, o, h2, (CL_sim2 cs _ _ (by simpa only [AV.ids] using h) (fun i u => h.im _ _ _) h3)⟩
  | .own sz id, v, h, k => by
    simp only [C, ren, AV.mapv, ren1] at k ⊢
    obtain ⟨e, h1, h2⟩ := k
    exact ⟨e, h.bl id (by simp [AV.ids]) e h1, h2⟩
  | .osl sz id o n, v, h, k => by
    simp only [C, ren, AV.mapv, ren1] at k ⊢
    obtain ⟨e, h1, h2⟩ := k
    exact ⟨e, h.bl id (by simp [AV.ids]) e h1, h2⟩
  | .ref id o, v, h, k => by
    simp only [C, ren, AV.mapv, ren1] at k ⊢
    obtain ⟨e, h1, h2⟩ := k
    exact ⟨e, h.bl id (by simp [AV.ids]) e h1, h2⟩
  | .mref id, v, h, k => by
    simp only [C, ren, AV.mapv, ren1] at k ⊢
    obtain ⟨e, h1, h2⟩ := k
    exact ⟨e, h.bl id (by simp [AV.ids]) e h1, h2⟩
  | .yld id, v, h, k => by
    simp only [C, ren, AV.mapv, ren1] at k ⊢
    obtain ⟨e, h1, h2⟩ := k
    exact ⟨e, h.bl id (by simp [AV.ids]) e h1, h2⟩
  | .vec _ _, v, _, k | .box _, v, _, k | .mp _ _, v, _, k => by simp only [C] at k
  | .clo f fs cs, v, h, k => by
    simp only [C, ren, AV.mapv, ren1] at k ⊢
    obtain ⟨fn, fs', cs', h1, h2, h3, h4, h5, h6⟩ := k
    have ha : Sim r (idsL fs) m m' := h.sub (fun x hx => by simp [AV.ids, hx])
    have hb : Sim r (idsL cs) m m' := h.sub (fun x hx => by simp [AV.ids, hx])
    obtain ⟨e1, _⟩ := CL_sim (r := r) (m := m) (m' := m') fs (fun _ => none) (fun _ => none) ha
    obtain ⟨e2, _⟩ := CL_sim (r := r) (m := m) (m' := m') cs (fun _ => none) (fun _ => none) hb
    exact ⟨fn, fs', cs', h1, by rw [h.cd]; exact h2, by rw [e1.1]; exact h3, by rw [e2.1]; exact h4, CL_sim2 fs _ _ ha (fun _ _ h => h) h5, CL_sim2 cs _ _ hb (fun _ _ h => h) h6⟩
  | .ifc t x, v, h, k => by
    simp only [C, ren, AV.mapv, ren1] at k ⊢
    obtain ⟨u, h1, h2⟩ := k
    exact ⟨u, h1, C_sim x u (by simpa only [AV.ids] using h) h2⟩
  | .agg cs, v, h, k => by
    simp only [C, ren, AV.mapv, ren1] at k ⊢
    obtain ⟨h1, vs, h2, h3, h4⟩ := k
    obtain ⟨e1, e2⟩ := CL_sim (r := r) (m := m) (m' := m') cs (fun _ => none) (fun _ => none) (by simpa only [AV.ids] using h)
    exact ⟨by rw [e2]; exact h1, vs, h2, by rw [e1.1]; exact h3, CL_sim2 cs _ _ (by simpa only [AV.ids] using h) (fun _ _ h => h) h4⟩
  | .tup cs, v, h, k => by
    simp only [C, ren, AV.mapv, ren1] at k ⊢
    obtain ⟨vs, h2, h3, h4⟩ := k
    obtain ⟨e1, e2⟩ := CL_sim (r := r) (m := m) (m' := m') cs (fun _ => none) (fun _ => none) (by simpa only [AV.ids] using h)
    exact ⟨vs, h2, by rw [e1.1]; exact h3, CL_sim2 cs _ _ (by simpa only [AV.ids] using h) (fun _ _ h => h) h4⟩
theorem CL_sim {r : Nat → Nat} {m m' : Mem} : ∀ (cs : List AV) (g g' : Nat → Option Value), Sim r (idsL cs) m m' → ((mapL (ren1 r) cs).length = cs.length ∧ (mapL (ren1 r) cs = [] → cs = [])) ∧ (mapL (ren1 r) cs).all AV.okc = cs.all AV.okc
  | [], _, _, _ => by simp [mapL]
  | x :: xs, g, g', h => by
    obtain ⟨⟨e1, _⟩, e2⟩ := CL_sim (r := r) (m := m) (m' := m') xs g g' (h.sub (fun x hx => by simp [idsL, hx]))
    refine ⟨⟨by simp [mapL, e1], by simp [mapL]⟩, ?_⟩
    simp only [mapL, List.all_cons, e2]
    congr 1
    cases x <;> simp [AV.mapv, ren1, AV.okc]
theorem CL_sim2 {r : Nat → Nat} {m m' : Mem} : ∀ (cs : List AV) (g g' : Nat → Option Value), Sim r (idsL cs) m m' → (∀ i u, g i = some u → g' i = some u) → CL m cs g → CL m' (mapL (ren1 r) cs) g'
  | [], _, _, _, _, _ => by simp [mapL, CL]
  | x :: xs, g, g', h, hg, k => by
    simp only [CL, mapL] at k ⊢
    obtain ⟨⟨u, h1, h2⟩, h3⟩ := k
    exact ⟨⟨u, hg _ _ h1, C_sim x u (h.sub (fun x hx => by simp [idsL, hx])) h2⟩, CL_sim2 xs _ _ (h.sub (fun x hx => by simp [idsL, hx])) (fun i => hg _) h3⟩
end

mutual
theorem ren_id : ∀ x : AV, ren id x = x
  | .sl _ cs | .ip cs | .vec _ cs | .box cs | .agg cs | .tup cs => by simp only [ren, AV.mapv, ren1, renL_id cs]
  | .mp a b | .clo _ a b => by simp only [ren, AV.mapv, ren1, renL_id a, renL_id b]
  | .ifc t v => by simp only [ren, AV.mapv, ren1, AV.ifc.injEq, true_and]; exact ren_id v
  | .unk | .any | .maybe _ _ | .bool _ | .int _ _ | .str _ | .nils | .nilp | .nilf | .nili | .nilm | .own _ _ | .osl _ _ _ _ | .ref _ _ | .mref _ | .yld _ => by simp [ren, AV.mapv, ren1]
theorem renL_id : ∀ l : List AV, mapL (ren1 id) l = l
  | [] => rfl
  | x :: xs => by simp only [mapL, renL_id xs, List.cons.injEq, and_true]; exact ren_id x
end

/-- What is known goes on. -/
structure Mem.le (m m' : Mem) : Prop where
  P : m'.P = m.P
  cd : m'.cd = m.cd
  im : ∀ b o u, m.im b o = some u → m'.im b o = some u
  bl : ∀ (id : Nat) e, m.bl[id]? = some e → m'.bl[id]? = some e

theorem Mem.le.sim {m m' : Mem} (h : m.le m') (L : List Nat) : Sim id L m m' := ⟨h.P, h.cd, h.im, fun i _ => h.bl i⟩
theorem Mem.le.refl (m : Mem) : m.le m := ⟨rfl, rfl, fun _ _ _ h => h, fun _ _ h => h⟩
theorem Mem.le.trans {a b c : Mem} (h : a.le b) (k : b.le c) : a.le c := ⟨k.P.trans h.P, k.cd.trans h.cd, fun x y z q => k.im _ _ _ (h.im _ _ _ q), fun id e q => k.bl id e (h.bl id e q)⟩

theorem C_mono {m m' : Mem} (h : m.le m') (x : AV) (v : Value) (k : C m x v) : C m' x v := by
  have := C_sim (r := id) x v (h.sim _) k
  rwa [ren_id] at this
theorem CL_mono {m m' : Mem} (h : m.le m') (cs : List AV) (g g' : Nat → Option Value) (hg : ∀ i u, g i = some u → g' i = some u) (k : CL m cs g) : CL m' cs g' := by
  have := CL_sim2 (r := id) cs g g' (h.sim _) hg k
  rwa [renL_id] at this
theorem CL_ext {m : Mem} {cs : List AV} {g g' : Nat → Option Value} (hg : ∀ i u, g i = some u → g' i = some u) (k : CL m cs g) : CL m cs g' := CL_mono (Mem.le.refl m) cs g g' hg k

theorem ren_okc (r : Nat → Nat) (x : AV) : (ren r x).okc = x.okc := by cases x <;> simp [ren, AV.mapv, ren1, AV.okc]

theorem C_okc {m : Mem} {x : AV} {v : Value} (h : C m x v) (hx : x.okc = true) : v.oneCell' = true := by
  cases x <;> simp only [AV.okc, C, reduceCtorEq] at h hx
  case any => exact h
  case maybe => obtain ⟨c, rfl, _⟩ := h; rfl
  case sl => obtain ⟨_, a, n, c, rfl, _⟩ := h; rfl
  case ip => obtain ⟨_, b, o, rfl, _⟩ := h; rfl
  case clo => obtain ⟨fn, a, b, rfl, _⟩ := h; rfl
  case ifc => obtain ⟨u, rfl, _⟩ := h; rfl
  case own sz id => obtain ⟨e, _, rfl, _⟩ := h; rfl
  case osl sz id o n => obtain ⟨e, _, _, _, a, c, rfl, _⟩ := h; rfl
  case ref id o => obtain ⟨e, _, g, _, rfl⟩ := h; rfl
  case mref id => obtain ⟨e, _, g, _, rfl⟩ := h; rfl
  case yld id => obtain ⟨e, _, g, _, rfl⟩ := h; rfl
  all_goals (subst h; rfl)

/-! ### With what nobody else has -/

mutual
def R (m : Mem) (w : World) : AV → Value → List Nat → Prop
  | .vec sz cs, v, f => cs.all AV.okc = true ∧ ∃ a n c, v = .slice a n c ∧ cs.length = n * sz ∧ (cs = [] → n = 0) ∧ n ≤ c ∧
      ((c = 0 ∧ f = []) ∨ ∃ g cur t f', a = some ⟨g, 0, none⟩ ∧ w.heap[g]? = some (.cells cur t (0, 0)) ∧ cur.size = c * sz ∧ f = g :: f' ∧ RL m w cs (fun i => cur[i]?) f')
  | .box cs, v, f => cs.all AV.okc = true ∧ ∃ g cur t f', v = .pointer (some ⟨g, 0, none⟩) ∧ w.heap[g]? = some (.cells cur t (0, 0)) ∧ f = g :: f' ∧ RL m w cs (fun i => cur[i]?) f'
  | .mp _ _, _, _ => False
  | .clo k fs cs, v, f => ∃ fn fs' cs' f1 f2, v = .func (.func fn) fs' cs' ∧ m.cd fn = some k ∧ fs'.size = fs.length ∧ cs'.size = cs.length ∧ f = f1 ++ f2 ∧ RL m w fs (fun i => fs'[i]?) f1 ∧ RL m w cs (fun i => cs'[i]?) f2
  | .ifc t x, v, f => ∃ u, v = .iface t u ∧ R m w x u f
  | .agg cs, v, f => cs.all AV.okc = true ∧ ∃ vs, v = .agg vs ∧ vs.size = cs.length ∧ RL m w cs (fun i => vs[i]?) f
  | .tup cs, v, f => ∃ vs, v = .tuple vs ∧ vs.size = cs.length ∧ RL m w cs (fun i => vs[i]?) f
  | .unk, v, f => f = [] ∧ C m .unk v
  | .any, v, f => f = [] ∧ C m .any v
  | .maybe e b, v, f => f = [] ∧ C m (.maybe e b) v
  | .bool b, v, f => f = [] ∧ C m (.bool b) v
  | .int k n, v, f => f = [] ∧ C m (.int k n) v
  | .str s, v, f => f = [] ∧ C m (.str s) v
  | .nils, v, f => f = [] ∧ C m .nils v
  | .nilp, v, f => f = [] ∧ C m .nilp v
  | .nilf, v, f => f = [] ∧ C m .nilf v
  | .nili, v, f => f = [] ∧ C m .nili v
  | .nilm, v, f => f = [] ∧ C m .nilm v
  | .sl sz cs, v, f => f = [] ∧ C m (.sl sz cs) v
  | .ip cs, v, f => f = [] ∧ C m (.ip cs) v
  | .own sz id, v, f => f = [] ∧ C m (.own sz id) v
  | .osl sz id o n, v, f => f = [] ∧ C m (.osl sz id o n) v
  | .ref id o, v, f => f = [] ∧ C m (.ref id o) v
  | .mref id, v, f => f = [] ∧ C m (.mref id) v
  | .yld id, v, f => f = [] ∧ C m (.yld id) v
def RL (m : Mem) (w : World) : List AV → (Nat → Option Value) → List Nat → Prop
  | [], _, f => f = []
  | x :: xs, g, f => ∃ f1 f2, f = f1 ++ f2 ∧ (∃ u, g 0 = some u ∧ R m w x u f1) ∧ RL m w xs (fun i => g (i + 1)) f2
end

mutual
theorem R_of_C {m : Mem} {w : World} : ∀ (x : AV) (v : Value), C m x v → R m w x v []
  | .vec _ _, v, k | .box _, v, k | .mp _ _, v, k => by simp only [C] at k
  | .clo f fs cs, v, k => by
    simp only [C] at k
    simp only [R]
    obtain ⟨fn, fs', cs', h1, h2, h3, h4, h5, h6⟩ := k
    exact ⟨fn, fs', cs', [], [], h1, h2, h3, h4, rfl, RL_of_CL fs _ h5, RL_of_CL cs _ h6⟩
  | .ifc t x, v, k => by
    simp only [C] at k
    simp only [R]
    obtain ⟨u, h1, h2⟩ := k
    exact ⟨u, h1, R_of_C x u h2⟩
  | .agg cs, v, k => by
    simp only [C] at k
    simp only [R]
    obtain ⟨h1, vs, h2, h3, h4⟩ := k
    exact ⟨h1, vs, h2, h3, RL_of_CL cs _ h4⟩
  | .tup cs, v, k => by
    simp only [C] at k
    simp only [R]
    obtain ⟨vs, h2, h3, h4⟩ := k
    exact ⟨vs, h2, h3, RL_of_CL cs _ h4⟩
  | .unk, v, k | .any, v, k | .maybe _ _, v, k | .bool _, v, k | .int _ _, v, k | .str _, v, k | .nils, v, k | .nilp, v, k | .nilf, v, k | .nili, v, k | .nilm, v, k | .sl _ _, v, k | .ip _, v, k | .own _ _, v, k | .osl _ _ _ _, v, k | .ref _ _, v, k | .mref _, v, k | .yld _, v, k => by
    simp only [R]; exact ⟨trivial, k⟩
theorem RL_of_CL {m : Mem} {w : World} : ∀ (cs : List AV) (g : Nat → Option Value), CL m cs g → RL m w cs g []
  | [], _, _ => by simp [RL]
  | x :: xs, g, k => by
    simp only [CL] at k
    simp only [RL]
    obtain ⟨⟨u, h1, h2⟩, h3⟩ := k
    exact ⟨[], [], rfl, ⟨u, h1, R_of_C x u h2⟩, RL_of_CL xs _ h3⟩
end

mutual
theorem C_of_R {m : Mem} {w : World} : ∀ (x : AV) (v : Value) (f : List Nat), noinl x = true → R m w x v f → C m x v ∧ f = []
  | .vec _ _, v, f, h, _ | .box _, v, f, h, _ | .mp _ _, v, f, h, _ => by simp [noinl, AV.allv, pnoinl] at h
  | .clo q fs cs, v, f, h, k => by
    simp only [R] at k
    simp only [noinl, AV.allv, Bool.and_eq_true] at h
    obtain ⟨fn, fs', cs', f1, f2, h1, h2, h3, h4, h5, h6, h7⟩ := k
    obtain ⟨a1, a2⟩ := CL_of_RL fs _ f1 h.2.1 h6
    obtain ⟨b1, b2⟩ := CL_of_RL cs _ f2 h.2.2 h7
    simp only [C]
    exact ⟨⟨fn, fs', cs', h1, h2, h3, h4, a1, b1⟩, by rw [h5, a2, b2]; rfl⟩
  | .ifc t x, v, f, h, k => by
    simp only [R] at k
    simp only [noinl, AV.allv, Bool.and_eq_true] at h
    obtain ⟨u, h1, h2⟩ := k
    obtain ⟨a1, a2⟩ := C_of_R x u f h.2 h2
    simp only [C]
    exact ⟨⟨u, h1, a1⟩, a2⟩
  | .agg cs, v, f, h, k => by
    simp only [R] at k
    simp only [noinl, AV.allv, Bool.and_eq_true] at h
    obtain ⟨h1, vs, h2, h3, h4⟩ := k
    obtain ⟨a1, a2⟩ := CL_of_RL cs _ f h.2 h4
    simp only [C]
    exact ⟨⟨h1, vs, h2, h3, a1⟩, a2⟩
  | .tup cs, v, f, h, k => by
    simp only [R] at k
    simp only [noinl, AV.allv, Bool.and_eq_true] at h
    obtain ⟨vs, h2, h3, h4⟩ := k
    obtain ⟨a1, a2⟩ := CL_of_RL cs _ f h.2 h4
    simp only [C]
    exact ⟨⟨vs, h2, h3, a1⟩, a2⟩
  | .unk, v, f, _, k | .any, v, f, _, k | .maybe _ _, v, f, _, k | .bool _, v, f, _, k | .int _ _, v, f, _, k | .str _, v, f, _, k | .nils, v, f, _, k | .nilp, v, f, _, k | .nilf, v, f, _, k | .nili, v, f, _, k | .nilm, v, f, _, k | .sl _ _, v, f, _, k | .ip _, v, f, _, k | .own _ _, v, f, _, k | .osl _ _ _ _, v, f, _, k | .ref _ _, v, f, _, k | .mref _, v, f, _, k | .yld _, v, f, _, k => by
    simp only [R] at k; exact ⟨k.2, k.1⟩
theorem CL_of_RL {m : Mem} {w : World} : ∀ (cs : List AV) (g : Nat → Option Value) (f : List Nat), allL pnoinl cs = true → RL m w cs g f → CL m cs g ∧ f = []
  | [], _, f, _, k => by simp only [RL] at k; exact ⟨by simp [CL], k⟩
  | x :: xs, g, f, h, k => by
    simp only [RL] at k
    simp only [allL, Bool.and_eq_true] at h
    obtain ⟨f1, f2, rfl, ⟨u, h1, h2⟩, h3⟩ := k
    obtain ⟨a1, a2⟩ := C_of_R x u f1 h.1 h2
    obtain ⟨b1, b2⟩ := CL_of_RL xs _ f2 h.2 h3
    simp only [CL]
    exact ⟨⟨⟨u, h1, a1⟩, b1⟩, by rw [a2, b2]; rfl⟩
end

mutual
theorem R_sim {r : Nat → Nat} {m m' : Mem} {w w' : World} : ∀ (x : AV) (v : Value) (f : List Nat), Sim r x.ids m m' → (∀ g ∈ f, w'.heap[g]? = w.heap[g]?) → R m w x v f → R m' w' (ren r x) v f
  | .vec sz cs, v, f, h, hw, k => by
    simp only [R, ren, AV.mapv, ren1] at k ⊢
    obtain ⟨h1, a, n, c, h2, h3, h4, h5, h6⟩ := k
    obtain ⟨e1, e2⟩ := CL_sim (r := r) (m := m) (m' := m') cs (fun _ => none) (fun _ => none) (by simpa only [AV.ids] using h)
    refine ⟨by rw [e2]; exact h1, a, n, c, h2, by rw [e1.1]; exact h3, fun h => h4 (e1.2 h), h5, ?_⟩
    rcases h6 with h6 | ⟨g, cur, t, f', h7, h8, h9, rfl, h10⟩
    · exact .inl h6
    · exact .inr ⟨g, cur, t, f', h7, by rw [hw g (by simp)]; exact h8, h9, rfl, RL_sim cs _ _ f' (by simpa only [AV.ids] using h) (fun x hx => hw x (by simp [hx])) (fun _ _ h => h) h10⟩
  | .box cs, v, f, h, hw, k => by
    simp only [R, ren, AV.mapv, ren1] at k ⊢
    obtain ⟨h1, g, cur, t, f', h7, h8, rfl, h10⟩ := k
    obtain ⟨e1, e2⟩ := CL_sim (r := r) (m := m) (m' := m') cs (fun _ => none) (fun _ => none) (by simpa only [AV.ids] using h)
    exact ⟨by rw [e2]; exact h1, g, cur, t, f', h7, by rw [hw g (by simp)]; exact h8, rfl, RL_sim cs _ _ f' (by simpa only [AV.ids] using h) (fun x hx => hw x (by simp [hx])) (fun _ _ h => h) h10⟩
  | .mp _ _, v, f, _, _, k => by simp only [R] at k
  | .clo q fs cs, v, f, h, hw, k => by
    simp only [R, ren, AV.mapv, ren1] at k ⊢
    obtain ⟨fn, fs', cs', f1, f2, h1, h2, h3, h4, rfl, h6, h7⟩ := k
    have ha : Sim r (idsL fs) m m' := h.sub (fun x hx => by simp [AV.ids, hx])
    have hb : Sim r (idsL cs) m m' := h.sub (fun x hx => by simp [AV.ids, hx])
    obtain ⟨e1, _⟩ := CL_sim (r := r) (m := m) (m' := m') fs (fun _ => none) (fun _ => none) ha
    obtain ⟨e2, _⟩ := CL_sim (r := r) (m := m) (m' := m') cs (fun _ => none) (fun _ => none) hb
    exact ⟨fn, fs', cs', f1, f2, h1, by rw [h.cd]; exact h2, by rw [e1.1]; exact h3, by rw [e2.1]; exact h4, rfl, RL_sim fs _ _ f1 ha (fun x hx => hw x (by simp [hx])) (fun _ _ h => h) h6, RL_sim cs _ _ f2 hb (fun x hx => hw x (by simp [hx])) (fun _ _ h => h) h7⟩
  | .ifc t x, v, f, h, hw, k => by
    simp only [R, ren, AV.mapv, ren1] at k ⊢
    obtain ⟨u, h1, h2⟩ := k
    exact ⟨u, h1, R_sim x u f (by simpa only [AV.ids] using h) hw h2⟩
  | .agg cs, v, f, h, hw, k => by
    simp only [R, ren, AV.mapv, ren1] at k ⊢
    obtain ⟨h1, vs, h2, h3, h4⟩ := k
    obtain ⟨e1, e2⟩ := CL_sim (r := r) (m := m) (m' := m') cs (fun _ => none) (fun _ => none) (by simpa only [AV.ids] using h)
    exact ⟨by rw [e2]; exact h1, vs, h2, by rw [e1.1]; exact h3, RL_sim cs _ _ f (by simpa only [AV.ids] using h) hw (fun _ _ h => h) h4⟩
  | .tup cs, v, f, h, hw, k => by
    simp only [R, ren, AV.mapv, ren1] at k ⊢
    obtain ⟨vs, h2, h3, h4⟩ := k
    obtain ⟨e1, e2⟩ := CL_sim (r := r) (m := m) (m' := m') cs (fun _ => none) (fun _ => none) (by simpa only [AV.ids] using h)
    exact ⟨vs, h2, by rw [e1.1]; exact h3, RL_sim cs _ _ f (by simpa only [AV.ids] using h) hw (fun _ _ h => h) h4⟩
  | .unk, v, f, h, _, k | .any, v, f, h, _, k | .maybe _ _, v, f, h, _, k | .bool _, v, f, h, _, k | .int _ _, v, f, h, _, k | .str _, v, f, h, _, k | .nils, v, f, h, _, k | .nilp, v, f, h, _, k | .nilf, v, f, h, _, k | .nili, v, f, h, _, k | .nilm, v, f, h, _, k
  | .sl _ _, v, f, h, _, k | .ip _, v, f, h, _, k | .own _ _, v, f, h, _, k | .osl _ _ _ _, v, f, h, _, k | .ref _ _, v, f, h, _, k | .mref _, v, f, h, _, k | .yld _, v, f, h, _, k => by
    have := C_sim (r := r) _ v h (by simp only [R] at k; exact k.2)
    simp only [R] at k
    simp only [ren, AV.mapv, ren1] at this ⊢
    simp only [R]
    exact ⟨k.1, this⟩
theorem RL_sim {r : Nat → Nat} {m m' : Mem} {w w' : World} : ∀ (cs : List AV) (g g' : Nat → Option Value) (f : List Nat), Sim r (idsL cs) m m' → (∀ g ∈ f, w'.heap[g]? = w.heap[g]?) → (∀ i u, g i = some u → g' i = some u) → RL m w cs g f → RL m' w' (mapL (ren1 r) cs) g' f
  | [], _, _, f, _, _, _, k => by simpa [mapL, RL] using k
  | x :: xs, g, g', f, h, hw, hg, k => by
    simp only [RL, mapL] at k ⊢
    obtain ⟨f1, f2, rfl, ⟨u, h1, h2⟩, h3⟩ := k
    exact ⟨f1, f2, rfl, ⟨u, hg _ _ h1, R_sim x u f1 (h.sub (fun x hx => by simp [idsL, hx])) (fun x hx => hw x (by simp [hx])) h2⟩, RL_sim xs _ _ f2 (h.sub (fun x hx => by simp [idsL, hx])) (fun x hx => hw x (by simp [hx])) (fun i => hg _) h3⟩
end

theorem R_mono {m m' : Mem} {w w' : World} (h : m.le m') {x : AV} {v : Value} {f : List Nat} (hw : ∀ g ∈ f, w'.heap[g]? = w.heap[g]?) (k : R m w x v f) : R m' w' x v f := by
  have := R_sim (r := id) x v f (h.sim _) hw k
  rwa [ren_id] at this
theorem RL_mono {m m' : Mem} {w w' : World} (h : m.le m') {cs : List AV} {g g' : Nat → Option Value} {f : List Nat} (hw : ∀ g ∈ f, w'.heap[g]? = w.heap[g]?) (hg : ∀ i u, g i = some u → g' i = some u) (k : RL m w cs g f) : RL m' w' cs g' f := by
  have := RL_sim (r := id) cs g g' f (h.sim _) hw hg k
  rwa [renL_id] at this

/-- Rows one behind the other. -/
theorem RL_append {m : Mem} {w : World} : ∀ (xs ys : List AV) (g : Nat → Option Value) (f : List Nat), RL m w (xs ++ ys) g f ↔ ∃ f1 f2, f = f1 ++ f2 ∧ RL m w xs g f1 ∧ RL m w ys (fun i => g (xs.length + i)) f2
  | [], ys, g, f => by
    simp only [List.nil_append, RL, List.length_nil, Nat.zero_add]
    constructor
    · intro h; exact ⟨[], f, rfl, rfl, h⟩
    · rintro ⟨f1, f2, rfl, rfl, h⟩; exact h
  | x :: xs, ys, g, f => by
    simp only [List.cons_append, RL, RL_append xs ys, List.length_cons]
    constructor
    · rintro ⟨f1, f2, rfl, h1, f3, f4, rfl, h2, h3⟩
      exact ⟨f1 ++ f3, f4, by simp, ⟨f1, f3, rfl, h1, h2⟩, by simpa only [Nat.add_assoc, Nat.add_comm 1] using h3⟩
    · rintro ⟨f1, f2, rfl, ⟨f3, f4, rfl, h1, h2⟩, h3⟩
      exact ⟨f3, f4 ++ f2, by simp, h1, f4, f2, rfl, h2, by simpa only [Nat.add_assoc, Nat.add_comm 1] using h3⟩

theorem RL_length {m : Mem} {w : World} {cs : List AV} {cur : Array Value} {f : List Nat} (h : RL m w cs (fun i => cur[i]?) f) : cs.length ≤ cur.size := by
  have key : ∀ (cs : List AV) (g : Nat → Option Value) (f : List Nat), RL m w cs g f → ∀ i, i < cs.length → (g i).isSome = true := by
    intro cs
    induction cs with
    | nil => intro g f _ i hi; simp at hi
    | cons x xs ih =>
      intro g f h i hi
      simp only [RL] at h
      obtain ⟨f1, f2, _, ⟨u, h1, _⟩, h3⟩ := h
      cases i with
      | zero => rw [h1]; rfl
      | succ i => exact ih _ f2 h3 i (by simpa using hi)
  rcases Nat.eq_zero_or_pos cs.length with h0 | h0
  · omega
  · have := key cs _ f h (cs.length - 1) (by omega)
    simp only [Array.getElem?_eq_some_iff, Option.isSome_iff_exists] at this
    obtain ⟨_, h1, _⟩ := this
    omega

theorem R_okc {m : Mem} {w : World} {x : AV} {v : Value} {f : List Nat} (h : R m w x v f) (hx : x.okc = true) : v.oneCell' = true := by
  cases x
  case vec => simp only [R] at h; obtain ⟨_, a, n, c, rfl, _⟩ := h; rfl
  case box => simp only [R] at h; obtain ⟨_, g, cur, t, f', rfl, _⟩ := h; rfl
  case mp => simp only [R] at h
  case clo => simp only [R] at h; obtain ⟨fn, a, b, f1, f2, rfl, _⟩ := h; rfl
  case ifc => simp only [R] at h; obtain ⟨u, rfl, _⟩ := h; rfl
  case agg => simp [AV.okc] at hx
  case tup => simp [AV.okc] at hx
  all_goals (simp only [R] at h; exact C_okc h.2 hx)

/-! ### Memory -/

def EnvOk (m : Mem) (env : List (Nat × AV)) (ts : Array Value) : Prop := ∀ s, C m (lk env s) (ts.getD s undef)

theorem EnvOk.mono {m m' : Mem} {env : List (Nat × AV)} {ts : Array Value} (h : EnvOk m env ts) (hm : m.le m') : EnvOk m' env ts := fun s => C_mono hm _ _ (h s)

def jcode : AX → Option Code
  | .normal => none
  | .exit id => some (.exit id)
  | .ret => some .ret

def CodeS (P : Program) (fid : FuncId → Option Nat) (nt : Nat) (c : Code) (s : Stmt) : Prop := ccode P fid nt c = some (erase s) ∧ drawS c s = true ∧ (drawn c = true → P.follows .mixedOrders = true)

/-- A loop's record. -/
def LoopOk (m : Mem) (st : Nat) (env : List (Nat × AV)) (ps : List Nat) (asg body : Stmt) (j : AX) (l : Loop) : Prop :=
  ((st = 0 ∧ l.state = .ready ∧ l.pending = none ∧ j = .normal) ∨ (st = 1 ∧ l.state = .busy) ∨ (st = 2 ∧ l.state = .done ∧ ∃ c, jcode j = some c ∧ l.pending = some c)) ∧
  EnvOk m env l.tmps ∧ l.params.toList = ps ∧ ∃ nt, nt ≤ l.tmps.size ∧ (∀ p ∈ ps, p < nt) ∧ CodeS m.P m.cd nt l.assign asg ∧ CodeS m.P m.cd nt l.body body ∧ rangeless l.assign = true ∧ rangeless l.body = true

/-- A block of the evaluator's memory lies in the program's. -/
def BlkOk (m : Mem) (w : World) (b : Blk) (e : Ent) (f : List Nat) : Prop :=
  match b with
  | .dead => f = []
  | .row fr cs => cs.all AV.okc = true ∧ cs.length = e.n * e.sz ∧ (cs = [] → e.n = 0) ∧ e.n ≤ e.cap ∧
      ((e.b = none ∧ e.cap = 0 ∧ f = []) ∨ ∃ g, e.b = some g ∧ e.a = some ⟨g, 0, none⟩ ∧
        (fr = false → ∃ cur t f', w.heap[g]? = some (.cells cur t (0, 0)) ∧ cur.size = e.cap * e.sz ∧ f = g :: f' ∧ RL m w cs (fun i => cur[i]?) f') ∧
        (fr = true → f = [] ∧ CL m cs (fun i => m.im g i)))
  | .mp _ _ => False
  | .lp st env ps asg body j => ∃ g l, e.b = some g ∧ f = [g] ∧ w.heap[g]? = some (.loop l) ∧ LoopOk m st env ps asg body j l

/-- fl: blocks that are on their way from one to another. -/
structure HInv (fr : Nat → Prop) (w0 : World) (m : Mem) (hp : List Blk) (w : World) (fl : List Nat) : Prop where
  os : w.os = w0.os
  tape : w.tape = w0.tape
  output : w.output = w0.output
  size : w0.heap.size ≤ w.heap.size
  fix : ∀ g, fr g → g < w.heap.size ∧ w.heap[g]? = w0.heap[g]?
  len : m.bl.length = hp.length
  im : ∀ b o u, m.im b o = some u → w.cell? ⟨b, o, none⟩ = some u
  blk : ∀ (id : Nat) b e, hp[id]? = some b → m.bl[id]? = some e → BlkOk m w b e (m.fp id)
  own : ∀ id g, g ∈ m.fp id → ¬ fr g ∧ g < w.heap.size ∧ ∀ o, m.im g o = none
  nd : ∀ id, (m.fp id).Nodup
  dj : ∀ i j g, g ∈ m.fp i → g ∈ m.fp j → i = j
  fpz : ∀ id, hp.length ≤ id → m.fp id = []
  fown : ∀ g ∈ fl, ¬ fr g ∧ g < w.heap.size ∧ ∀ o, m.im g o = none
  fnd : fl.Nodup
  fdj : ∀ id g, g ∈ m.fp id → g ∉ fl

theorem BlkOk.mono {m m' : Mem} {w w' : World} {b : Blk} {e : Ent} {f : List Nat} (h : BlkOk m w b e f) (hm : m.le m') (hw : ∀ g ∈ f, w'.heap[g]? = w.heap[g]?) : BlkOk m' w' b e f := by
  cases b with
  | dead => exact h
  | row fr cs =>
    obtain ⟨h1, h3, h4, h5, h6⟩ := h
    refine ⟨h1, h3, h4, h5, ?_⟩
    rcases h6 with h6 | ⟨g, h7, h8, h9, h10⟩
    · exact .inl h6
    · refine .inr ⟨g, h7, h8, fun hf => ?_, fun hf => ?_⟩
      · obtain ⟨cur, t, f', k1, k2, rfl, k4⟩ := h9 hf
        exact ⟨cur, t, f', by rw [hw g (by simp)]; exact k1, k2, rfl, RL_mono hm (fun x hx => hw x (by simp [hx])) (fun _ _ h => h) k4⟩
      · obtain ⟨k1, k2⟩ := h10 hf
        exact ⟨k1, CL_mono hm _ _ _ (fun i u => hm.im _ _ _) k2⟩
  | mp ks vs => exact h
  | lp st env ps asg body j =>
    obtain ⟨g, l, h2, rfl, h4, h5, h6, h7, nt, h8, h9, h10, h11⟩ := h
    exact ⟨g, l, h2, rfl, by rw [hw g (by simp)]; exact h4, h5, h6.mono hm, h7, nt, h8, h9, by rw [hm.P, hm.cd]; exact h10, by rw [hm.P, hm.cd]; exact h11⟩

end Go.Proofs.Ytmeakgiojhoofaa
