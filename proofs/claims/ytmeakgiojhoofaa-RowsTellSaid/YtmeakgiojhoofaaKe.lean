/-
  The evaluator's memory lies in the program's: what keeps that so.
-/
import Derived.Test.YtmeakgiojhoofaaKc
import Derived.Maps.AppendAt
namespace Go.Proofs.Ytmeakgiojhoofaa
open Go.RowKit

theorem get_app {α : Type} {l : List α} {x y : α} {i : Nat} (h : (l ++ [x])[i]? = some y) : (i < l.length ∧ l[i]? = some y) ∨ (i = l.length ∧ x = y) := by
  rcases Nat.lt_trichotomy i l.length with h1 | h1 | h1
  · left; rw [List.getElem?_append_left h1] at h; exact ⟨h1, h⟩
  · right; subst h1; simp at h; exact ⟨rfl, h⟩
  · rw [List.getElem?_eq_none (by simp; omega)] at h; cases h

theorem get_old {α : Type} {l : List α} {x y : α} {i : Nat} (hi : i < l.length) (h : (l ++ [x])[i]? = some y) : l[i]? = some y := by
  rwa [List.getElem?_append_left hi] at h

theorem get_new {α : Type} {l : List α} {x : α} : (l ++ [x])[l.length]? = some x := by simp

theorem le_app {m : Mem} (l : List Ent) (F : Nat → List Nat) : m.le { m with bl := m.bl ++ l, fp := F } :=
  ⟨rfl, rfl, fun _ _ _ h => h, fun id e h => by show (m.bl ++ l)[id]? = some e; rw [List.getElem?_append_left (List.getElem?_eq_some_iff.1 h).1]; exact h⟩

theorem le_fp {m : Mem} (F : Nat → List Nat) : m.le { m with fp := F } := ⟨rfl, rfl, fun _ _ _ h => h, fun _ _ h => h⟩

theorem frzL_len : ∀ (cs : List AV), (mapL frz1 cs).length = cs.length ∧ (mapL frz1 cs = [] → cs = []) ∧ (mapL frz1 cs).all AV.okc = cs.all AV.okc
  | [] => by simp [mapL]
  | x :: xs => by
    obtain ⟨e1, _, e3⟩ := frzL_len xs
    refine ⟨by simp [mapL, e1], by simp [mapL], ?_⟩
    simp only [mapL, List.all_cons, e3]
    congr 1
    cases x <;> simp [AV.mapv, frz1, AV.okc]

mutual
theorem frzC_ok {m' : Mem} : ∀ (cs : List AV) (g : Nat → Option Value), CL m' cs g → CL m' (mapL frz1 cs) g
  | [], _, _ => by simp [mapL, CL]
  | x :: xs, g, k => by
    simp only [CL] at k
    obtain ⟨⟨u, h1, h2⟩, h3⟩ := k
    simp only [mapL, CL]
    exact ⟨⟨u, h1, frzC1_ok x u h2⟩, frzC_ok xs _ h3⟩
theorem frzC1_ok {m' : Mem} : ∀ (x : AV) (v : Value), C m' x v → C m' (x.mapv frz1) v
  | .vec _ _, _, k | .box _, _, k | .mp _ _, _, k => by simp only [C] at k
  | .clo q fs cs, v, k => by
    simp only [C, AV.mapv, frz1] at k ⊢
    obtain ⟨fn, fs', cs', rfl, h2, h3, h4, h6, h7⟩ := k
    exact ⟨fn, fs', cs', rfl, h2, by rw [(frzL_len fs).1]; exact h3, by rw [(frzL_len cs).1]; exact h4, frzC_ok fs _ h6, frzC_ok cs _ h7⟩
  | .ifc t x, v, k => by
    simp only [C, AV.mapv, frz1] at k ⊢
    obtain ⟨u, rfl, h2⟩ := k
    exact ⟨u, rfl, frzC1_ok x u h2⟩
  | .agg cs, v, k => by
    simp only [C, AV.mapv, frz1] at k ⊢
    obtain ⟨h1, vs, rfl, h3, h4⟩ := k
    exact ⟨by rw [(frzL_len cs).2.2]; exact h1, vs, rfl, by rw [(frzL_len cs).1]; exact h3, frzC_ok cs _ h4⟩
  | .tup cs, v, k => by
    simp only [C, AV.mapv, frz1] at k ⊢
    obtain ⟨vs, rfl, h3, h4⟩ := k
    exact ⟨vs, rfl, by rw [(frzL_len cs).1]; exact h3, frzC_ok cs _ h4⟩
  | .sl sz cs, v, k => by
    simp only [C, AV.mapv, frz1] at k ⊢
    obtain ⟨h1, a, n, c, rfl, h3, h4, h5, h6⟩ := k
    obtain ⟨e1, e2, e3⟩ := frzL_len cs
    refine ⟨by rw [e3]; exact h1, a, n, c, rfl, by rw [e1]; exact h3, fun h => h4 (e2 h), h5, fun hne => ?_⟩
    obtain ⟨b, o, h7, h8⟩ := h6 (fun e => hne (by subst e; rfl))
    exact ⟨b, o, h7, frzC_ok cs _ h8⟩
  | .ip cs, v, k => by
    simp only [C, AV.mapv, frz1] at k ⊢
    obtain ⟨h1, b, o, rfl, h8⟩ := k
    exact ⟨by rw [(frzL_len cs).2.2]; exact h1, b, o, rfl, frzC_ok cs _ h8⟩
  | .unk, v, k | .any, v, k | .maybe _ _, v, k | .bool _, v, k | .int _ _, v, k | .str _, v, k | .nils, v, k | .nilp, v, k | .nilf, v, k | .nili, v, k | .nilm, v, k | .own _ _, v, k | .osl _ _ _ _, v, k | .ref _ _, v, k | .mref _, v, k | .yld _, v, k => by
    simpa only [AV.mapv, frz1] using k
end

section
variable {fr : Nat → Prop} {w0 w : World} {m : Mem} {hp : List Blk} {fl fl' : List Nat}

theorem HInv.perm (H : HInv fr w0 m hp w fl) (h : fl.Perm fl') : HInv fr w0 m hp w fl' :=
  ⟨H.os, H.tape, H.output, H.size, H.fix, H.len, H.im, H.blk, H.own, H.nd, H.dj, H.fpz, fun g hg => H.fown g (h.mem_iff.2 hg), h.nodup_iff.1 H.fnd, fun id g h1 h2 => H.fdj id g h1 (h.mem_iff.2 h2)⟩

theorem HInv.fsub (H : HInv fr w0 m hp w fl) (h : ∀ g ∈ fl', g ∈ fl) (hn : fl'.Nodup) : HInv fr w0 m hp w fl' :=
  ⟨H.os, H.tape, H.output, H.size, H.fix, H.len, H.im, H.blk, H.own, H.nd, H.dj, H.fpz, fun g hg => H.fown g (h g hg), hn, fun id g h1 h2 => H.fdj id g h1 (h g h2)⟩

theorem HInv.drop (H : HInv fr w0 m hp w fl) : HInv fr w0 m hp w [] := H.fsub (by simp) (by simp)

theorem HInv.left {f1 f2 : List Nat} (H : HInv fr w0 m hp w (f1 ++ f2)) : HInv fr w0 m hp w f1 := H.fsub (fun g hg => by simp [hg]) (List.nodup_append.1 H.fnd).1

theorem HInv.imlt (H : HInv fr w0 m hp w fl) {b o : Nat} {u : Value} (h : m.im b o = some u) : b < w.heap.size := World.block_lt_of_cell? w ⟨b, o, none⟩ (H.im b o u h)

theorem HInv.at_ (H : HInv fr w0 m hp w fl) {id : Nat} {b : Blk} (hb : hp[id]? = some b) : ∃ e, m.bl[id]? = some e ∧ BlkOk m w b e (m.fp id) := by
  have hlt : id < m.bl.length := by rw [H.len]; exact (List.getElem?_eq_some_iff.1 hb).1
  exact ⟨_, List.getElem?_eq_getElem hlt, H.blk id b _ hb (List.getElem?_eq_getElem hlt)⟩

theorem HInv.drew (H : HInv fr w0 m hp w fl) : HInv fr w0 m hp w.drew fl :=
  ⟨H.os, H.tape, H.output, H.size, H.fix, H.len, fun b o u h => H.im b o u h, fun id b x h k => (H.blk id b x h k).mono (Mem.le.refl m) (fun _ _ => rfl), H.own, H.nd, H.dj, H.fpz, H.fown, H.fnd, H.fdj⟩

/-- What is known, where more is known. -/
theorem HInv.world (H : HInv fr w0 m hp w fl) {w' : World} (h1 : w'.os = w.os) (h2 : w'.tape = w.tape) (h3 : w'.output = w.output) (hs : w.heap.size ≤ w'.heap.size) (hb : ∀ g, g < w.heap.size → w'.heap[g]? = w.heap[g]?) : HInv fr w0 m hp w' fl :=
  ⟨h1.trans H.os, h2.trans H.tape, h3.trans H.output, Nat.le_trans H.size hs, fun g hg => ⟨Nat.lt_of_lt_of_le (H.fix g hg).1 hs, (hb g (H.fix g hg).1).trans (H.fix g hg).2⟩, H.len,
    fun b o u h => by rw [World.cell?_of_block (w := w) (a := ⟨b, o, none⟩) (hb b (H.imlt h))]; exact H.im b o u h,
    fun id b x h k => (H.blk id b x h k).mono (Mem.le.refl m) (fun g hg => hb g (H.own id g hg).2.1), fun id g hg => ⟨(H.own id g hg).1, Nat.lt_of_lt_of_le (H.own id g hg).2.1 hs, (H.own id g hg).2.2⟩, H.nd, H.dj, H.fpz,
    fun g hg => ⟨(H.fown g hg).1, Nat.lt_of_lt_of_le (H.fown g hg).2.1 hs, (H.fown g hg).2.2⟩, H.fnd, H.fdj⟩

theorem HInv.alloc0 (H : HInv fr w0 m hp w fl) (o : Obj) : HInv fr w0 m hp (w.alloc o) (w.heap.size :: fl) := by
  have H1 := H.world (w' := w.alloc o) rfl rfl rfl (by simp) (fun g hg => Below.heap_alloc w o g hg)
  refine ⟨H1.os, H1.tape, H1.output, H1.size, H1.fix, H1.len, H1.im, H1.blk, H1.own, H1.nd, H1.dj, H1.fpz, ?_, ?_, ?_⟩
  · intro g hg
    rcases List.mem_cons.1 hg with rfl | hg
    · refine ⟨fun h => Nat.lt_irrefl _ (H.fix _ h).1, by simp, fun o => ?_⟩
      cases hi : m.im w.heap.size o with
      | none => rfl
      | some u => exact absurd (H.imlt hi) (Nat.lt_irrefl _)
    · exact H1.fown g hg
  · rw [List.nodup_cons]
    exact ⟨fun h => Nat.lt_irrefl _ (H.fown _ h).2.1, H.fnd⟩
  · intro id g hg h
    rcases List.mem_cons.1 h with rfl | h
    · exact Nat.lt_irrefl _ (H.own id _ hg).2.1
    · exact H.fdj id g hg h

/-- A block that floats is taken in as a new one. -/
theorem HInv.adopt {f : List Nat} (H : HInv fr w0 m hp w (f ++ fl)) {b : Blk} {x : Ent} (hb : BlkOk m w b x f) :
    HInv fr w0 { m with bl := m.bl ++ [x], fp := fun k => if k = hp.length then f else m.fp k } (hp ++ [b]) w fl := by
  have hle := le_app (m := m) [x] (fun k => if k = hp.length then f else m.fp k)
  have hnd := List.nodup_append.1 H.fnd
  refine ⟨H.os, H.tape, H.output, H.size, H.fix, by simp [H.len], H.im, ?_, ?_, ?_, ?_, ?_, fun g hg => H.fown g (by simp [hg]), hnd.2.1, ?_⟩
  · intro id b' x' h k
    rcases get_app h with ⟨h1, h2⟩ | ⟨rfl, rfl⟩
    · have k' := get_old (by rw [H.len]; exact h1) k
      have := (H.blk id b' x' h2 k').mono hle (fun _ _ => rfl)
      simpa [show id ≠ hp.length by omega] using this
    · rw [← H.len] at k
      rw [show (m.bl ++ [x])[m.bl.length]? = some x from get_new] at k
      injection k with k; subst k
      simpa using hb.mono hle (fun _ _ => rfl)
  · intro id g hg
    change g ∈ (if id = hp.length then f else m.fp id) at hg
    split at hg
    · exact H.fown g (by simp [hg])
    · exact H.own id g hg
  · intro id
    show (if id = hp.length then f else m.fp id).Nodup
    split
    · exact hnd.1
    · exact H.nd id
  · intro i j g hi hj
    change g ∈ (if i = hp.length then f else m.fp i) at hi
    change g ∈ (if j = hp.length then f else m.fp j) at hj
    split at hi <;> split at hj
    · omega
    · exact absurd (by simp [hi]) (H.fdj j g hj)
    · exact absurd (by simp [hj]) (H.fdj i g hi)
    · exact H.dj i j g hi hj
  · intro id hid
    simp at hid
    show (if id = hp.length then f else m.fp id) = []
    rw [if_neg (by omega)]
    exact H.fpz id (by omega)
  · intro id g hg h
    change g ∈ (if id = hp.length then f else m.fp id) at hg
    split at hg
    · exact hnd.2.2 g hg g h rfl
    · exact H.fdj id g hg (by simp [h])

/-- A block that has f instead; g floats. -/
theorem HInv.turn {f g : List Nat} (H : HInv fr w0 m hp w fl) {i : Nat} {b : Blk} {x : Ent} (hx : m.bl[i]? = some x) (hsub : ∀ q ∈ f ++ g, q ∈ m.fp i ∨ q ∈ fl) (hnd : (f ++ g).Nodup) (hb : BlkOk m w b x f) :
    HInv fr w0 { m with fp := fun k => if k = i then f else m.fp k } (hp.set i b) w g := by
  have hi : i < hp.length := by rw [← H.len]; exact (List.getElem?_eq_some_iff.1 hx).1
  have hle := le_fp (m := m) (fun k => if k = i then f else m.fp k)
  have hnd' := List.nodup_append.1 hnd
  have hown : ∀ q ∈ f ++ g, ¬ fr q ∧ q < w.heap.size ∧ ∀ o, m.im q o = none := fun q hq => by
    rcases hsub q hq with h | h
    · exact H.own i q h
    · exact H.fown q h
  have hother : ∀ q ∈ f ++ g, ∀ k, k ≠ i → q ∉ m.fp k := fun q hq k hk h => by
    rcases hsub q hq with h' | h'
    · exact hk (H.dj k i q h h')
    · exact H.fdj k q h h'
  refine ⟨H.os, H.tape, H.output, H.size, H.fix, by simp [H.len], H.im, ?_, ?_, ?_, ?_, ?_, fun q hq => hown q (by simp [hq]), hnd'.2.1, ?_⟩
  · intro id b' x' h k
    change m.bl[id]? = some x' at k
    by_cases hid' : i = id
    · subst hid'
      rw [List.getElem?_set_self hi] at h
      injection h with h; subst h
      rw [hx] at k; injection k with k; subst k
      simpa using hb.mono hle (fun _ _ => rfl)
    · rw [List.getElem?_set_ne hid'] at h
      have := (H.blk id b' x' h k).mono hle (fun _ _ => rfl)
      simpa [show id ≠ i from fun e => hid' e.symm] using this
  · intro id q hq
    change q ∈ (if id = i then f else m.fp id) at hq
    split at hq
    · exact hown q (by simp [hq])
    · exact H.own id q hq
  · intro id
    show (if id = i then f else m.fp id).Nodup
    split
    · exact hnd'.1
    · exact H.nd id
  · intro a b q ha hb
    change q ∈ (if a = i then f else m.fp a) at ha
    change q ∈ (if b = i then f else m.fp b) at hb
    split at ha <;> split at hb
    · omega
    · rename_i _ hb'; exact absurd hb (hother q (by simp [ha]) b hb')
    · rename_i ha' _; exact absurd ha (hother q (by simp [hb]) a ha')
    · exact H.dj a b q ha hb
  · intro id hid'
    simp at hid'
    show (if id = i then f else m.fp id) = []
    rw [if_neg (by omega)]
    exact H.fpz id hid'
  · intro id q hq h
    change q ∈ (if id = i then f else m.fp id) at hq
    split at hq
    · exact hnd'.2.2 q hq q h rfl
    · rename_i hne
      exact hother q (by simp [h]) id hne hq

/-- A block lets go of what it has. -/
theorem HInv.kill (H : HInv fr w0 m hp w fl) (i : Nat) : HInv fr w0 { m with fp := fun k => if k = i then [] else m.fp k } (hp.set i .dead) w (m.fp i ++ fl) := by
  by_cases hi : i < hp.length
  · have hx : m.bl[i]? = some (m.bl[i]'(by rw [H.len]; exact hi)) := List.getElem?_eq_getElem _
    refine H.turn (f := []) hx (fun q hq => by simpa using hq) ?_ rfl
    simp only [List.nil_append]
    rw [List.nodup_append]
    exact ⟨H.nd i, H.fnd, fun a ha b hb e => H.fdj i a ha (by rw [e]; exact hb)⟩
  · have h0 := H.fpz i (by omega)
    have e1 : (fun k => if k = i then [] else m.fp k) = m.fp := by
      funext k
      split
      · rename_i h; rw [h, h0]
      · rfl
    rw [e1, h0, List.set_eq_of_length_le (by omega)]
    exact H

/-- A block of the program's that is on its way is written to. -/
theorem HInv.setFloat (H : HInv fr w0 m hp w fl) {g : Nat} (hg : g ∈ fl) (cur : Array Value) : HInv fr w0 m hp (w.setRow g cur) fl := by
  have hne : ∀ k, k ≠ g → (w.setRow g cur).heap[k]? = w.heap[k]? := fun k hk => setRow_other w g k cur hk
  refine ⟨H.os, H.tape, H.output, by simpa using H.size, ?_, H.len, ?_, ?_, fun id q hq => by simpa using H.own id q hq, H.nd, H.dj, H.fpz, fun q hq => by simpa using H.fown q hq, H.fnd, H.fdj⟩
  · intro q hq
    have h1 := H.fix q hq
    refine ⟨by simpa using h1.1, (hne q ?_).trans h1.2⟩
    rintro rfl
    exact (H.fown q hg).1 hq
  · intro b o u h
    have hb : b ≠ g := by
      rintro rfl
      rw [(H.fown b hg).2.2 o] at h; cases h
    rw [World.cell?_of_block (w := w) (a := ⟨b, o, none⟩) (hne b hb)]
    exact H.im b o u h
  · intro id b e h k
    refine (H.blk id b e h k).mono (Mem.le.refl m) (fun q hq => hne q ?_)
    rintro rfl
    exact H.fdj id q hq hg

theorem fp_set (F : Nat → List Nat) (i : Nat) (f f' : List Nat) : (fun k => if k = i then f else (fun k => if k = i then f' else F k) k) = fun k => if k = i then f else F k := by
  funext k; split <;> simp_all

/-- The program's block g, of block i, is written to. -/
theorem HInv.write {f g' : List Nat} (H : HInv fr w0 m hp w fl) {i g : Nat} {b : Blk} {x : Ent} {cur' : Array Value} (hx : m.bl[i]? = some x) (hg : g ∈ m.fp i)
    (hsub : ∀ q ∈ f ++ g', q ∈ m.fp i ∨ q ∈ fl) (hnd : (f ++ g').Nodup) (hb : BlkOk m (w.setRow g cur') b x f) :
    HInv fr w0 { m with fp := fun k => if k = i then f else m.fp k } (hp.set i b) (w.setRow g cur') g' := by
  have H1 := (H.kill i).setFloat (g := g) (by simp [hg]) cur'
  have H2 := H1.turn (f := f) (g := g') (i := i) (b := b) (x := x) hx (fun q hq => .inr (by simpa using hsub q hq)) hnd (hb.mono (le_fp _) (fun _ _ => rfl))
  rw [List.set_set] at H2
  simp only [fp_set] at H2
  exact H2

/-- Nothing is known of a number of more. -/
theorem setRow_alike (w : World) (g : Nat) (cur : Array Value) : (w.setRow g cur).os = w.os := rfl

mutual
/-- What nobody else has, as what is only read. -/
theorem frz_ok {m' : Mem} (hle : m.le m') : ∀ (x : AV) (v : Value) (f : List Nat), R m w x v f → (∀ g ∈ f, ∀ o, m'.im g o = w.cell? ⟨g, o, none⟩) → C m' (frz x) v
  | .vec sz cs, v, f, k, hf => by
    simp only [R] at k
    obtain ⟨h1, a, n, c, rfl, h3, h4, h5, h6⟩ := k
    simp only [frz, AV.mapv, frz1, C]
    obtain ⟨e1, e2, e3⟩ := frzL_len cs
    refine ⟨by rw [e3]; exact h1, a, n, c, rfl, by rw [e1]; exact h3, fun h => h4 (e2 h), h5, fun hne => ?_⟩
    rcases h6 with ⟨rfl, rfl⟩ | ⟨g, cur, t, f', rfl, h8, h9, rfl, h10⟩
    · have : n = 0 := by omega
      subst this
      exact absurd (List.eq_nil_of_length_eq_zero (by rw [e1, h3]; simp)) hne
    · refine ⟨g, 0, rfl, ?_⟩
      refine CL_ext (fun i u hu => ?_) (frzL_ok hle cs _ f' h10 (fun q hq => hf q (by simp [hq])))
      rw [Nat.zero_add, hf g (by simp)]
      simpa [World.cell?, h8] using hu
  | .box cs, v, f, k, hf => by
    simp only [R] at k
    obtain ⟨h1, g, cur, t, f', rfl, h8, rfl, h10⟩ := k
    simp only [frz, AV.mapv, frz1, C]
    obtain ⟨e1, e2, e3⟩ := frzL_len cs
    refine ⟨by rw [e3]; exact h1, g, 0, rfl, ?_⟩
    refine CL_ext (fun i u hu => ?_) (frzL_ok hle cs _ f' h10 (fun q hq => hf q (by simp [hq])))
    rw [Nat.zero_add, hf g (by simp)]
    simpa [World.cell?, h8] using hu
  | .mp _ _, v, f, k, _ => by simp only [R] at k
  | .clo q fs cs, v, f, k, hf => by
    simp only [R] at k
    obtain ⟨fn, fs', cs', f1, f2, rfl, h2, h3, h4, rfl, h6, h7⟩ := k
    simp only [frz, AV.mapv, frz1, C]
    exact ⟨fn, fs', cs', rfl, by rw [hle.cd]; exact h2, by rw [(frzL_len fs).1]; exact h3, by rw [(frzL_len cs).1]; exact h4, frzL_ok hle fs _ f1 h6 (fun q hq => hf q (by simp [hq])), frzL_ok hle cs _ f2 h7 (fun q hq => hf q (by simp [hq]))⟩
  | .ifc t x, v, f, k, hf => by
    simp only [R] at k
    obtain ⟨u, rfl, h2⟩ := k
    simp only [frz, AV.mapv, frz1, C]
    exact ⟨u, rfl, frz_ok hle x u f h2 hf⟩
  | .agg cs, v, f, k, hf => by
    simp only [R] at k
    obtain ⟨h1, vs, rfl, h3, h4⟩ := k
    simp only [frz, AV.mapv, frz1, C]
    exact ⟨by rw [(frzL_len cs).2.2]; exact h1, vs, rfl, by rw [(frzL_len cs).1]; exact h3, frzL_ok hle cs _ f h4 hf⟩
  | .tup cs, v, f, k, hf => by
    simp only [R] at k
    obtain ⟨vs, rfl, h3, h4⟩ := k
    simp only [frz, AV.mapv, frz1, C]
    exact ⟨vs, rfl, by rw [(frzL_len cs).1]; exact h3, frzL_ok hle cs _ f h4 hf⟩
  | .sl sz cs, v, f, k, hf => by
    simp only [R] at k
    obtain ⟨rfl, k⟩ := k
    have k := C_mono hle _ _ k
    simp only [frz, AV.mapv, frz1]
    simp only [C] at k ⊢
    obtain ⟨h1, a, n, c, rfl, h3, h4, h5, h6⟩ := k
    obtain ⟨e1, e2, e3⟩ := frzL_len cs
    refine ⟨by rw [e3]; exact h1, a, n, c, rfl, by rw [e1]; exact h3, fun h => h4 (e2 h), h5, fun hne => ?_⟩
    obtain ⟨b, o, h7, h8⟩ := h6 (fun e => hne (by subst e; rfl))
    exact ⟨b, o, h7, frzC_ok cs _ h8⟩
  | .ip cs, v, f, k, hf => by
    simp only [R] at k
    obtain ⟨rfl, k⟩ := k
    have k := C_mono hle _ _ k
    simp only [frz, AV.mapv, frz1]
    simp only [C] at k ⊢
    obtain ⟨h1, b, o, rfl, h8⟩ := k
    exact ⟨by rw [(frzL_len cs).2.2]; exact h1, b, o, rfl, frzC_ok cs _ h8⟩
  | .unk, v, f, k, hf | .any, v, f, k, hf | .maybe _ _, v, f, k, hf | .bool _, v, f, k, hf | .int _ _, v, f, k, hf | .str _, v, f, k, hf | .nils, v, f, k, hf | .nilp, v, f, k, hf | .nilf, v, f, k, hf | .nili, v, f, k, hf | .nilm, v, f, k, hf | .own _ _, v, f, k, hf | .osl _ _ _ _, v, f, k, hf | .ref _ _, v, f, k, hf | .mref _, v, f, k, hf | .yld _, v, f, k, hf => by
    simp only [R] at k
    simpa only [frz, AV.mapv, frz1] using C_mono hle _ _ k.2
theorem frzL_ok {m' : Mem} (hle : m.le m') : ∀ (cs : List AV) (g : Nat → Option Value) (f : List Nat), RL m w cs g f → (∀ g ∈ f, ∀ o, m'.im g o = w.cell? ⟨g, o, none⟩) → CL m' (mapL frz1 cs) g
  | [], _, _, _, _ => by simp [mapL, CL]
  | x :: xs, g, f, k, hf => by
    simp only [RL] at k
    obtain ⟨f1, f2, rfl, ⟨u, h1, h2⟩, h3⟩ := k
    simp only [mapL, CL]
    exact ⟨⟨u, h1, frz_ok hle x u f1 h2 (fun q hq => hf q (by simp [hq]))⟩, frzL_ok hle xs _ f2 h3 (fun q hq => hf q (by simp [hq]))⟩
end
end
end Go.Proofs.Ytmeakgiojhoofaa
