/- Fronts and levels. -/
import Derived.Test.YtgjahkebhlphgaaRw
namespace Go.Proofs.Ytgjahkebhlphgaa
set_option linter.unusedSimpArgs false
set_option linter.unusedVariables false
def sne (s : List Bool) (w : Int) : Bool := s.getD w.toNat false
def bey1 (st : List Bool × List Int) (w : Int) : List Bool × List Int := if sne st.1 w then st else (st.1.set w.toNat true, st.2 ++ [w])
def beyV (nb : Int → List Int) (st : List Bool × List Int) (v : Int) : List Bool × List Int := (nb v).foldl bey1 st
def bey (nb : Int → List Int) (l : List Int) (seen : List Bool) : List Bool × List Int := l.foldl (beyV nb) (seen, [])
theorem sne_set {s : List Bool} {w x : Int} (hw : 0 ≤ w ∧ w < s.length) (hx : 0 ≤ x) : sne (s.set w.toNat true) x = (sne s x || decide (x = w)) := by
  simp only [sne, List.getD_eq_getElem?_getD, List.getElem?_set]
  by_cases h : x = w
  · subst h
    rw [if_pos rfl, if_pos (by omega)]; simp
  · rw [if_neg (by omega)]; simp [h]
structure Bst (s : List Bool) (ws : List Int) (t : List Bool × List Int) : Prop where
  len : t.1.length = s.length
  seen : ∀ x, 0 ≤ x → (sne t.1 x = true ↔ sne s x = true ∨ x ∈ ws)
  next : ∀ x, x ∈ t.2 ↔ (sne s x = false ∧ x ∈ ws)
  nd : t.2.Nodup
theorem Bst.nil (s : List Bool) : Bst s [] (s, []) := ⟨rfl, by simp, by simp, by simp⟩
theorem Bst.one {s : List Bool} {ws : List Int} {t : List Bool × List Int} (h : Bst s ws t) {w : Int} (hw : 0 ≤ w ∧ w < s.length) (hp : ∀ x ∈ ws, 0 ≤ x) : Bst s (ws ++ [w]) (bey1 t w) := by
  unfold bey1
  cases hs : sne t.1 w with
  | true =>
    simp only [if_true]
    have hm := (h.seen w hw.1).1 hs
    refine ⟨h.len, fun x hx => ?_, fun x => ?_, h.nd⟩
    · rw [h.seen x hx, List.mem_append, List.mem_singleton]
      constructor
      · rintro (h | h)
        · exact .inl h
        · exact .inr (.inl h)
      · rintro (h | h | rfl)
        · exact .inl h
        · exact .inr h
        · exact hm
    · rw [h.next x, List.mem_append, List.mem_singleton]
      constructor
      · rintro ⟨a, b⟩; exact ⟨a, .inl b⟩
      · rintro ⟨a, b | rfl⟩
        · exact ⟨a, b⟩
        · refine ⟨a, hm.resolve_left (by rw [a]; simp)⟩
  | false =>
    simp only [Bool.false_eq_true, if_false]
    have hm : ¬ (sne s w = true ∨ w ∈ ws) := fun hh => by rw [(h.seen w hw.1).2 hh] at hs; cases hs
    have hm1 : sne s w = false := by cases hh : sne s w with | true => exact absurd (.inl hh) hm | false => rfl
    have hm2 : w ∉ ws := fun hh => hm (.inr hh)
    refine ⟨by simp [h.len], fun x hx => ?_, fun x => ?_, ?_⟩
    · rw [sne_set (by rw [h.len]; exact hw) hx, Bool.or_eq_true, h.seen x hx, List.mem_append, List.mem_singleton, decide_eq_true_eq, or_assoc]
    · rw [List.mem_append, h.next x, List.mem_singleton, List.mem_append, List.mem_singleton]
      constructor
      · rintro (⟨a, b⟩ | rfl)
        · exact ⟨a, .inl b⟩
        · exact ⟨hm1, .inr rfl⟩
      · rintro ⟨a, b | rfl⟩
        · exact .inl ⟨a, b⟩
        · exact .inr rfl
    · rw [List.nodup_append]
      refine ⟨h.nd, by simp, fun x hx y hy => ?_⟩
      rw [List.mem_singleton] at hy
      subst hy
      rintro rfl
      exact hm2 ((h.next x).1 hx).2
theorem Bst.row {s : List Bool} {l : List Int} : ∀ {ws : List Int} {t : List Bool × List Int}, Bst s ws t → (∀ x ∈ l, 0 ≤ x ∧ x < s.length) → (∀ x ∈ ws, 0 ≤ x) → Bst s (ws ++ l) (l.foldl bey1 t) := by
  induction l with
  | nil => intro ws t h _ _; simpa using h
  | cons a l ih =>
    intro ws t h hl hp
    have h1 := h.one (hl a (by simp)) hp
    have := ih h1 (fun x hx => hl x (by simp [hx])) (fun x hx => by
      rcases List.mem_append.1 hx with hx | hx
      · exact hp x hx
      · rw [List.mem_singleton.1 hx]; exact (hl a (by simp)).1)
    rw [List.append_assoc] at this
    exact this
theorem Bst.rows {s : List Bool} {nb : Int → List Int} {l : List Int} : ∀ {ws : List Int} {t : List Bool × List Int}, Bst s ws t → (∀ v ∈ l, ∀ x ∈ nb v, 0 ≤ x ∧ x < s.length) → (∀ x ∈ ws, 0 ≤ x) → Bst s (ws ++ l.flatMap nb) (l.foldl (beyV nb) t) := by
  induction l with
  | nil => intro ws t h _ _; simpa using h
  | cons a l ih =>
    intro ws t h hl hp
    have h1 := h.row (l := nb a) (hl a (by simp)) hp
    have := ih h1 (fun v hv => hl v (by simp [hv])) (fun x hx => by
      rcases List.mem_append.1 hx with hx | hx
      · exact hp x hx
      · exact (hl a (by simp) x hx).1)
    rw [List.append_assoc] at this
    exact this
theorem bey_spec {nb : Int → List Int} {l : List Int} {s : List Bool} (h : ∀ v ∈ l, ∀ x ∈ nb v, 0 ≤ x ∧ x < s.length) : Bst s (l.flatMap nb) (bey nb l s) := by
  have := (Bst.nil s).rows h (by simp)
  simpa [bey] using this
def Wk (nb : Int → List Int) (s : Int) : Nat → Int → Prop
  | 0, v => v = s
  | k + 1, v => ∃ u, Wk nb s k u ∧ v ∈ nb u
def dsk (nb : Int → List Int) (s : Int) (k : Nat) (v : Int) : Prop := Wk nb s k v ∧ ∀ j, j < k → ¬ Wk nb s j v
theorem Wk_dsk {nb : Int → List Int} {s : Int} {k : Nat} {v : Int} (h : Wk nb s k v) : ∃ j, j ≤ k ∧ dsk nb s j v := by
  induction k using Nat.strongRecOn with
  | ind k ih =>
    by_cases h2 : ∃ j, j < k ∧ Wk nb s j v
    · obtain ⟨j, hj, hw⟩ := h2
      obtain ⟨i, hi, hd⟩ := ih j hj hw
      exact ⟨i, by omega, hd⟩
    · exact ⟨k, Nat.le_refl _, h, fun j hj hw => h2 ⟨j, hj, hw⟩⟩
theorem dsk_eq {nb : Int → List Int} {s : Int} {j k : Nat} {v : Int} (h1 : dsk nb s j v) (h2 : dsk nb s k v) : j = k := by
  rcases Nat.lt_trichotomy j k with h | h | h
  · exact absurd h1.1 (h2.2 j h)
  · exact h
  · exact absurd h2.1 (h1.2 k h)
theorem dsk_pred {nb : Int → List Int} {s : Int} {k : Nat} {v : Int} (h : dsk nb s (k + 1) v) : ∃ u, dsk nb s k u ∧ v ∈ nb u := by
  obtain ⟨⟨u, hu, hv⟩, hn⟩ := h
  obtain ⟨j, hj, hd⟩ := Wk_dsk hu
  by_cases e : j = k
  · subst e; exact ⟨u, hd, hv⟩
  · exact absurd ⟨u, hd.1, hv⟩ (hn (j + 1) (by omega))
theorem dsk_zero {nb : Int → List Int} {s v : Int} : dsk nb s 0 v ↔ v = s := ⟨fun h => h.1, fun h => ⟨h, fun j hj => by omega⟩⟩
theorem dsk_succ {nb : Int → List Int} {s : Int} {k : Nat} {v : Int} : dsk nb s (k + 1) v ↔ (∃ u, dsk nb s k u ∧ v ∈ nb u) ∧ ∀ j, j ≤ k → ¬ Wk nb s j v := by
  constructor
  · intro h; exact ⟨dsk_pred h, fun j hj => h.2 j (by omega)⟩
  · rintro ⟨⟨u, hu, hv⟩, hn⟩; exact ⟨⟨u, hu.1, hv⟩, fun j hj => hn j (by omega)⟩
open Classical in
noncomputable def lev (nb : Int → List Int) (s v : Int) : Int := if h : ∃ k, dsk nb s k v then (h.choose : Int) else -1
theorem lev_yes {nb : Int → List Int} {s v : Int} {k : Nat} (h : dsk nb s k v) : lev nb s v = k := by
  have hex : ∃ k, dsk nb s k v := ⟨k, h⟩
  rw [lev, dif_pos hex, dsk_eq hex.choose_spec h]
theorem lev_no {nb : Int → List Int} {s v : Int} (h : ∀ k, ¬ Wk nb s k v) : lev nb s v = -1 := by
  rw [lev, dif_neg]; rintro ⟨k, hk⟩; exact h k hk.1
theorem lev_cases (nb : Int → List Int) (s v : Int) : (∃ k : Nat, dsk nb s k v ∧ lev nb s v = k) ∨ ((∀ k, ¬ Wk nb s k v) ∧ lev nb s v = -1) := by
  by_cases h : ∃ k, dsk nb s k v
  · obtain ⟨k, hk⟩ := h; exact .inl ⟨k, hk, lev_yes hk⟩
  · have : ∀ k, ¬ Wk nb s k v := fun k hw => by obtain ⟨j, _, hj⟩ := Wk_dsk hw; exact h ⟨j, hj⟩
    exact .inr ⟨this, lev_no this⟩
theorem lev_dst {nb : Int → List Int} {s v : Int} {k : Nat} : lev nb s v = k ↔ dsk nb s k v := by
  constructor
  · intro h
    rcases lev_cases nb s v with ⟨j, hj, e⟩ | ⟨_, e⟩
    · rw [e] at h; rw [← (by omega : j = k)]; exact hj
    · rw [e] at h; omega
  · exact lev_yes
def Plc (nb : Int → List Int) (n : Nat) : Prop := ∀ v : Int, 0 ≤ v → v < n → ∀ x ∈ nb v, 0 ≤ x ∧ x < n
theorem Wk_pl {nb : Int → List Int} {n : Nat} (H : Plc nb n) {s : Int} (hs : 0 ≤ s ∧ s < n) : ∀ {k : Nat} {v : Int}, Wk nb s k v → 0 ≤ v ∧ v < n
  | 0, v, h => by rw [show v = s from h]; exact hs
  | k + 1, v, h => by
    obtain ⟨u, hu, hv⟩ := h
    have := Wk_pl H hs hu
    exact H u this.1 this.2 v hv
theorem filt_lt {p q : Nat → Bool} : ∀ {l : List Nat} {w : Nat}, (∀ x, p x = true → q x = true) → w ∈ l → p w = false → q w = true → (l.filter p).length < (l.filter q).length
  | [], w, _, h, _, _ => by cases h
  | a :: l, w, hpq, hm, hp, hq => by
    have hle : (l.filter p).length ≤ (l.filter q).length := by
      clear hm
      induction l with
      | nil => simp
      | cons b l ih =>
        have := hpq b
        cases h1 : p b <;> cases h2 : q b <;> simp [h1, h2] at * <;> omega
    rcases List.mem_cons.1 hm with rfl | hm
    · simp [hp, hq]; omega
    · have := filt_lt hpq hm hp hq
      have h3 := hpq a
      cases h1 : p a <;> cases h2 : q a <;> simp [h1, h2] at * <;> omega
noncomputable def ball (nb : Int → List Int) (s : Int) (n k : Nat) : Nat := ((List.range n).filter fun v : Nat => @decide (∃ j, j ≤ k ∧ Wk nb s j (v : Int)) (Classical.propDecidable _)).length
theorem ball_le (nb : Int → List Int) (s : Int) (n k : Nat) : ball nb s n k ≤ n := by
  have := List.length_filter_le (fun v : Nat => @decide (∃ j, j ≤ k ∧ Wk nb s j (v : Int)) (Classical.propDecidable _)) (List.range n)
  rw [List.length_range] at this
  exact this
theorem ball_ge {nb : Int → List Int} {n : Nat} (H : Plc nb n) {s : Int} (hs : 0 ≤ s ∧ s < n) : ∀ {k : Nat} {v : Int}, dsk nb s k v → k + 1 ≤ ball nb s n k
  | 0, v, h => by
    have : s.toNat ∈ (List.range n).filter fun v : Nat => @decide (∃ j, j ≤ 0 ∧ Wk nb s j (v : Int)) (Classical.propDecidable _) := by
      rw [List.mem_filter]
      refine ⟨by simp; omega, by simp only [decide_eq_true_eq]; exact ⟨0, Nat.le_refl _, by show ((s.toNat : Nat) : Int) = s; omega⟩⟩
    exact List.length_pos_of_mem this
  | k + 1, v, h => by
    obtain ⟨u, hu, hv⟩ := dsk_pred h
    have ih := ball_ge H hs hu
    have hvp := Wk_pl H hs h.1
    have : ball nb s n k < ball nb s n (k + 1) := by
      refine filt_lt (w := v.toNat) (fun x hx => ?_) (by simp; omega) ?_ ?_
      · simp only [decide_eq_true_eq] at hx ⊢
        obtain ⟨j, hj, hw⟩ := hx
        exact ⟨j, by omega, hw⟩
      · simp only [decide_eq_false_iff_not]
        rintro ⟨j, hj, hw⟩
        rw [show ((v.toNat : Nat) : Int) = v by omega] at hw
        exact h.2 j (by omega) hw
      · simp only [decide_eq_true_eq]
        exact ⟨k + 1, Nat.le_refl _, by rw [show ((v.toNat : Nat) : Int) = v by omega]; exact h.1⟩
    omega
theorem dsk_lt {nb : Int → List Int} {n : Nat} (H : Plc nb n) {s : Int} (hs : 0 ≤ s ∧ s < n) {k : Nat} {v : Int} (h : dsk nb s k v) : k < n := by
  have := ball_ge H hs h
  have := ball_le nb s n k
  omega
def frt (nb : Int → List Int) (n : Nat) (s : Int) : Nat → List Bool × List Int
  | 0 => ((List.replicate n false).set s.toNat true, [s])
  | d + 1 => bey nb (frt nb n s d).2 (frt nb n s d).1
structure Frs (nb : Int → List Int) (n : Nat) (s : Int) (d : Nat) (t : List Bool × List Int) : Prop where
  len : t.1.length = n
  seen : ∀ x, 0 ≤ x → (sne t.1 x = true ↔ ∃ j, j ≤ d ∧ Wk nb s j x)
  front : ∀ x, x ∈ t.2 ↔ dsk nb s d x
  nd : t.2.Nodup
theorem frt_spec {nb : Int → List Int} {n : Nat} (H : Plc nb n) {s : Int} (hs : 0 ≤ s ∧ s < n) : ∀ d, Frs nb n s d (frt nb n s d)
  | 0 => by
    refine ⟨by simp [frt], fun x hx => ?_, fun x => by simp [frt, dsk_zero], by simp [frt]⟩
    rw [frt, sne_set (by simpa using hs) hx]
    have : sne (List.replicate n false) x = false := by simp [sne, List.getD_eq_getElem?_getD, List.getElem?_replicate]; split <;> rfl
    rw [this]
    simp only [Bool.false_or, decide_eq_true_eq]
    constructor
    · rintro rfl; exact ⟨0, Nat.le_refl _, rfl⟩
    · rintro ⟨j, hj, hw⟩; rw [show j = 0 by omega] at hw; exact hw
  | d + 1 => by
    have ih := frt_spec H hs d
    have hb := bey_spec (nb := nb) (l := (frt nb n s d).2) (s := (frt nb n s d).1) (fun v hv x hx => by
      rw [ih.len]
      have := Wk_pl H hs ((ih.front v).1 hv).1
      exact H v this.1 this.2 x hx)
    have hws : ∀ x, x ∈ (frt nb n s d).2.flatMap nb ↔ ∃ u, dsk nb s d u ∧ x ∈ nb u := fun x => by
      rw [List.mem_flatMap]
      constructor
      · rintro ⟨u, hu, hx⟩; exact ⟨u, (ih.front u).1 hu, hx⟩
      · rintro ⟨u, hu, hx⟩; exact ⟨u, (ih.front u).2 hu, hx⟩
    refine ⟨by rw [frt, hb.len, ih.len], fun x hx => ?_, fun x => ?_, hb.nd⟩
    · rw [frt, hb.seen x hx, ih.seen x hx, hws]
      constructor
      · rintro (⟨j, hj, hw⟩ | ⟨u, hu, hxu⟩)
        · exact ⟨j, by omega, hw⟩
        · exact ⟨d + 1, Nat.le_refl _, u, hu.1, hxu⟩
      · rintro ⟨j, hj, hw⟩
        obtain ⟨i, hi, hd⟩ := Wk_dsk hw
        by_cases e : i = d + 1
        · subst e; exact .inr (dsk_pred hd)
        · exact .inl ⟨i, by omega, hd.1⟩
    · rw [frt, hb.next x, hws, dsk_succ]
      constructor
      · rintro ⟨a, u, hu, hxu⟩
        have hxp := H u (Wk_pl H hs hu.1).1 (Wk_pl H hs hu.1).2 x hxu
        refine ⟨⟨u, hu, hxu⟩, fun j hj hw => ?_⟩
        rw [(ih.seen x hxp.1).2 ⟨j, hj, hw⟩] at a
        cases a
      · rintro ⟨⟨u, hu, hxu⟩, hn⟩
        have hxp := H u (Wk_pl H hs hu.1).1 (Wk_pl H hs hu.1).2 x hxu
        refine ⟨?_, u, hu, hxu⟩
        cases h : sne (frt nb n s d).1 x with
        | false => rfl
        | true =>
          obtain ⟨j, hj, hw⟩ := (ih.seen x hxp.1).1 h
          exact absurd hw (hn j hj)
def rlx (o : List Int) (e : Int × Int) : List Int := if 0 ≤ gi o e.1.toNat ∧ (gi o e.2.toNat < 0 ∨ gi o e.1.toNat + 1 < gi o e.2.toNat) then o.set e.2.toNat (gi o e.1.toNat + 1) else o
theorem gi_set {l : List Int} {i j : Nat} {x : Int} (h : i < l.length) : gi (l.set i x) j = if j = i then x else gi l j := by
  simp only [gi, List.getD_eq_getElem?_getD, List.getElem?_set]
  by_cases e : i = j
  · subst e; rw [if_pos rfl, if_pos h, if_pos rfl]; rfl
  · rw [if_neg e, if_neg (fun h => e h.symm)]
structure Low (nb : Int → List Int) (n : Nat) (s : Int) (o : List Int) : Prop where
  len : o.length = n
  lo : ∀ x : Int, 0 ≤ x → x < n → gi o x.toNat = -1 ∨ 0 ≤ gi o x.toNat
  walk : ∀ x : Int, 0 ≤ x → x < n → 0 ≤ gi o x.toNat → Wk nb s (gi o x.toNat).toNat x
def Bet (n : Nat) (o p : List Int) : Prop := ∀ x : Int, 0 ≤ x → x < n → 0 ≤ gi o x.toNat → 0 ≤ gi p x.toNat ∧ gi p x.toNat ≤ gi o x.toNat
theorem Bet.rfl' (n : Nat) (o : List Int) : Bet n o o := fun x _ _ h => ⟨h, Int.le_refl _⟩
theorem Bet.trans {n : Nat} {o p q : List Int} (h1 : Bet n o p) (h2 : Bet n p q) : Bet n o q := fun x a b h => by
  obtain ⟨c, d⟩ := h1 x a b h
  obtain ⟨e, f⟩ := h2 x a b c
  exact ⟨e, Int.le_trans f d⟩
theorem Low.step {nb : Int → List Int} {n : Nat} (H : Plc nb n) {s : Int} {o : List Int} (h : Low nb n s o) {e : Int × Int} (he : e.2 ∈ nb e.1) (hp : 0 ≤ e.1 ∧ e.1 < n) : Low nb n s (rlx o e) ∧ Bet n o (rlx o e) ∧ (0 ≤ gi o e.1.toNat → 0 ≤ gi (rlx o e) e.2.toNat ∧ gi (rlx o e) e.2.toNat ≤ gi o e.1.toNat + 1) := by
  have h2 := H e.1 hp.1 hp.2 e.2 he
  unfold rlx
  by_cases hc : 0 ≤ gi o e.1.toNat ∧ (gi o e.2.toNat < 0 ∨ gi o e.1.toNat + 1 < gi o e.2.toNat)
  · rw [if_pos hc]
    have hl : e.2.toNat < o.length := by rw [h.len]; omega
    refine ⟨⟨by simp [h.len], fun x a b => ?_, fun x a b => ?_⟩, fun x a b => ?_, fun _ => ?_⟩
    · rw [gi_set hl]; split
      · omega
      · exact h.lo x a b
    · rw [gi_set hl]; split
      · rename_i hx
        intro _
        have hx2 : x = e.2 := by omega
        subst hx2
        rw [show (gi o e.1.toNat + 1).toNat = (gi o e.1.toNat).toNat + 1 by omega]
        exact ⟨e.1, h.walk e.1 hp.1 hp.2 hc.1, he⟩
      · exact h.walk x a b
    · rw [gi_set hl]; split
      · rename_i hx; intro h3; rw [hx] at h3 ⊢; omega
      · intro h3; exact ⟨h3, Int.le_refl _⟩
    · rw [gi_set hl, if_pos rfl]; omega
  · rw [if_neg hc]
    refine ⟨h, Bet.rfl' _ _, fun h3 => ?_⟩
    have := h.lo e.2 h2.1 h2.2
    omega
theorem Low.round {nb : Int → List Int} {n : Nat} (H : Plc nb n) {s : Int} : ∀ {l : List (Int × Int)} {o : List Int}, Low nb n s o → (∀ e ∈ l, e.2 ∈ nb e.1 ∧ 0 ≤ e.1 ∧ e.1 < n) → Low nb n s (l.foldl rlx o) ∧ Bet n o (l.foldl rlx o) ∧ ∀ e ∈ l, 0 ≤ gi o e.1.toNat → 0 ≤ gi (l.foldl rlx o) e.2.toNat ∧ gi (l.foldl rlx o) e.2.toNat ≤ gi o e.1.toNat + 1
  | [], o, h, _ => ⟨h, Bet.rfl' _ _, by simp⟩
  | a :: l, o, h, hl => by
    have ha := hl a (by simp)
    obtain ⟨h1, b1, c1⟩ := h.step H ha.1 ha.2
    obtain ⟨h2, b2, c2⟩ := Low.round H (l := l) h1 (fun e he => hl e (by simp [he]))
    rw [List.foldl_cons]
    refine ⟨h2, b1.trans b2, fun e he h0 => ?_⟩
    rcases List.mem_cons.1 he with rfl | he'
    · have h3 := c1 h0
      have hp := H e.1 ha.2.1 ha.2.2 e.2 ha.1
      have := b2 e.2 hp.1 hp.2 h3.1
      omega
    · have hh := hl e he
      have h3 := b1 e.1 hh.2.1 hh.2.2 h0
      have := c2 e he' h3.1
      omega
def Cov (nb : Int → List Int) (s : Int) (o : List Int) (t : Nat) : Prop := ∀ k, k ≤ t → ∀ x, dsk nb s k x → 0 ≤ gi o x.toNat ∧ gi o x.toNat ≤ k
def rounds (l : List (Int × Int)) (o : List Int) : Nat → List Int
  | 0 => o
  | t + 1 => l.foldl rlx (rounds l o t)
theorem rounds_ok {nb : Int → List Int} {n : Nat} (H : Plc nb n) {s : Int} (hs : 0 ≤ s ∧ s < n) {l : List (Int × Int)} (hl : ∀ e ∈ l, e.2 ∈ nb e.1 ∧ 0 ≤ e.1 ∧ e.1 < n) (hl2 : ∀ u : Int, 0 ≤ u → u < n → ∀ v ∈ nb u, (u, v) ∈ l) {o : List Int} (h0 : Low nb n s o) (hz : gi o s.toNat = 0) : ∀ t, Low nb n s (rounds l o t) ∧ Cov nb s (rounds l o t) t
  | 0 => ⟨h0, fun k hk x hx => by
    obtain rfl : k = 0 := by omega
    rw [dsk_zero.1 hx, rounds, hz]; omega⟩
  | t + 1 => by
    obtain ⟨h1, c1⟩ := rounds_ok H hs hl hl2 h0 hz t
    obtain ⟨h2, b2, c2⟩ := h1.round H hl
    refine ⟨h2, fun k hk x hx => ?_⟩
    have hxp := Wk_pl H hs hx.1
    by_cases e : k ≤ t
    · have h3 := c1 k e x hx
      have := b2 x hxp.1 hxp.2 h3.1
      rw [rounds]; omega
    · obtain rfl : k = t + 1 := by omega
      obtain ⟨u, hu, hv⟩ := dsk_pred hx
      have hup := Wk_pl H hs hu.1
      have h3 := c1 t (Nat.le_refl _) u hu
      have := c2 (u, x) (hl2 u hup.1 hup.2 x hv) h3.1
      rw [rounds]
      simp only at this
      omega
noncomputable def levs (nb : Int → List Int) (s : Int) (n : Nat) : List Int := (List.range n).map fun v : Nat => lev nb s v
theorem levs_len (nb : Int → List Int) (s : Int) (n : Nat) : (levs nb s n).length = n := by simp [levs]
theorem levs_at {nb : Int → List Int} {s : Int} {n : Nat} {x : Int} (h : 0 ≤ x) (h2 : x < n) : gi (levs nb s n) x.toNat = lev nb s x := by
  rw [gi, levs, List.getD_eq_getElem?_getD, List.getElem?_map, List.getElem?_range (by omega)]
  simp only [Option.map_some, Option.getD_some]
  rw [show ((x.toNat : Nat) : Int) = x by omega]
theorem gi_ext {a b : List Int} (hl : a.length = b.length) (h : ∀ i, i < a.length → gi a i = gi b i) : a = b := by
  refine List.ext_getElem hl fun i h1 h2 => ?_
  have := h i h1
  rw [gi, gi, List.getD_eq_getElem?_getD, List.getD_eq_getElem?_getD, List.getElem?_eq_getElem h1, List.getElem?_eq_getElem h2] at this
  exact this
theorem rounds_levs {nb : Int → List Int} {n : Nat} (H : Plc nb n) {s : Int} (hs : 0 ≤ s ∧ s < n) {l : List (Int × Int)} (hl : ∀ e ∈ l, e.2 ∈ nb e.1 ∧ 0 ≤ e.1 ∧ e.1 < n) (hl2 : ∀ u : Int, 0 ≤ u → u < n → ∀ v ∈ nb u, (u, v) ∈ l) : rounds l ((List.replicate n (-1 : Int)).set s.toNat 0) n = levs nb s n := by
  have hg : ∀ i, i < n → gi ((List.replicate n (-1 : Int)).set s.toNat 0) i = if i = s.toNat then 0 else -1 := fun i hi => by
    rw [gi_set (by simp; omega)]
    congr 1
    rw [gi, List.getD_eq_getElem?_getD, List.getElem?_replicate, if_pos hi]; rfl
  have h0 : Low nb n s ((List.replicate n (-1 : Int)).set s.toNat 0) := by
    refine ⟨by simp, fun x a b => ?_, fun x a b => ?_⟩
    · rw [hg _ (by omega)]; split
      · exact .inr (by omega)
      · exact .inl rfl
    · rw [hg _ (by omega)]; split
      · rename_i e
        intro _
        show x = s
        omega
      · intro h; omega
  obtain ⟨h1, c1⟩ := rounds_ok H hs hl hl2 h0 (by rw [hg _ (by omega), if_pos rfl]) n
  refine gi_ext (by rw [h1.len, levs_len]) fun i hi => ?_
  rw [h1.len] at hi
  have e := levs_at (nb := nb) (s := s) (n := n) (x := (i : Int)) (by omega) (by omega)
  rw [Int.toNat_natCast] at e
  rw [e]
  have hlo := h1.lo i (by omega) (by omega)
  have hw := h1.walk i (by omega) (by omega)
  rw [Int.toNat_natCast] at hlo hw
  rcases lev_cases nb s i with ⟨k, hk, e2⟩ | ⟨hn, e2⟩
  · rw [e2]
    have hkn := dsk_lt H hs hk
    have h3 := c1 k (by omega) i hk
    rw [Int.toNat_natCast] at h3
    have h4 : ¬ (gi (rounds l ((List.replicate n (-1 : Int)).set s.toNat 0) n) i).toNat < k := fun h => hk.2 _ h (hw h3.1)
    omega
  · rw [e2]
    rcases hlo with h | h
    · exact h
    · exact absurd (hw h) (hn _)
end Go.Proofs.Ytgjahkebhlphgaa
