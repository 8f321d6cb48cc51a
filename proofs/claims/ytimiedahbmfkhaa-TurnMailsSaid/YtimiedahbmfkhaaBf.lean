/- Fronts and levels. -/
import Derived.Test.YtimiedahbmfkhaaRw
namespace Go.Proofs.Ytimiedahbmfkhaa
set_option linter.unusedSimpArgs false
set_option linter.unusedVariables false
def sne (s : List Bool) (w : Int) : Bool := s.getD w.toNat false
def bey1 (st : List Bool × List Int) (w : Int) : List Bool × List Int := if sne st.1 w then st else (st.1.set w.toNat true, st.2 ++ [w])
def beyV (nb : Int → List Int) (st : List Bool × List Int) (v : Int) : List Bool × List Int := (nb v).foldl bey1 st
theorem sne_set {s : List Bool} {w x : Int} (hw : 0 ≤ w ∧ w < s.length) (hx : 0 ≤ x) : sne (s.set w.toNat true) x = (sne s x || decide (x = w)) := by
  simp only [sne, List.getD_eq_getElem?_getD, List.getElem?_set]
  by_cases h : x = w
  · subst h
    rw [if_pos rfl, if_pos (by omega)]; simp
  · rw [if_neg (by omega)]; simp [h]
structure Bst (s : List Bool) (ws : List Int) (t : List Bool × List Int) : Prop where
  len : t.1.length = s.length
  seen : ∀ x, 0 ≤ x → (sne t.1 x = true ↔ sne s x = true ∨ x ∈ ws)
  next : ∀ x, x ∈ t.2 ↔ (sne s x = false ∧ x ∈ ws)
  nd : t.2.Nodup
theorem Bst.nil (s : List Bool) : Bst s [] (s, []) := ⟨rfl, by simp, by simp, by simp⟩
theorem Bst.one {s : List Bool} {ws : List Int} {t : List Bool × List Int} (h : Bst s ws t) {w : Int} (hw : 0 ≤ w ∧ w < s.length) (hp : ∀ x ∈ ws, 0 ≤ x) : Bst s (ws ++ [w]) (bey1 t w) := by
  unfold bey1
  cases hs : sne t.1 w with
  | true =>
    simp only [if_true]
    have hm := (h.seen w hw.1).1 hs
    refine ⟨h.len, fun x hx => ?_, fun x => ?_, h.nd⟩
    · rw [h.seen x hx, List.mem_append, List.mem_singleton]
      constructor
      · rintro (h | h)
        · exact .inl h
        · exact .inr (.inl h)
      · rintro (h | h | rfl)
        · exact .inl h
        · exact .inr h
        · exact hm
    · rw [h.next x, List.mem_append, List.mem_singleton]
      constructor
      · rintro ⟨a, b⟩; exact ⟨a, .inl b⟩
      · rintro ⟨a, b | rfl⟩
        · exact ⟨a, b⟩
        · refine ⟨a, hm.resolve_left (by rw [a]; simp)⟩
  | false =>
    simp only [Bool.false_eq_true, if_false]
    have hm : ¬ (sne s w = true ∨ w ∈ ws) := fun hh => by rw [(h.seen w hw.1).2 hh] at hs; cases hs
    have hm1 : sne s w = false := by cases hh : sne s w with | true => exact absurd (.inl hh) hm | false => rfl
    have hm2 : w ∉ ws := fun hh => hm (.inr hh)
    refine ⟨by simp [h.len], fun x hx => ?_, fun x => ?_, ?_⟩
    · rw [sne_set (by rw [h.len]; exact hw) hx, Bool.or_eq_true, h.seen x hx, List.mem_append, List.mem_singleton, decide_eq_true_eq, or_assoc]
    · rw [List.mem_append, h.next x, List.mem_singleton, List.mem_append, List.mem_singleton]
      constructor
      · rintro (⟨a, b⟩ | rfl)
        · exact ⟨a, .inl b⟩
        · exact ⟨hm1, .inr rfl⟩
      · rintro ⟨a, b | rfl⟩
        · exact .inl ⟨a, b⟩
        · exact .inr rfl
    · rw [List.nodup_append]
      refine ⟨h.nd, by simp, fun x hx y hy => ?_⟩
      rw [List.mem_singleton] at hy
      subst hy
      rintro rfl
      exact hm2 ((h.next x).1 hx).2
theorem Bst.row {s : List Bool} {l : List Int} : ∀ {ws : List Int} {t : List Bool × List Int}, Bst s ws t → (∀ x ∈ l, 0 ≤ x ∧ x < s.length) → (∀ x ∈ ws, 0 ≤ x) → Bst s (ws ++ l) (l.foldl bey1 t) := by
  induction l with
  | nil => intro ws t h _ _; simpa using h
  | cons a l ih =>
    intro ws t h hl hp
    have h1 := h.one (hl a (by simp)) hp
    have := ih h1 (fun x hx => hl x (by simp [hx])) (fun x hx => by
      rcases List.mem_append.1 hx with hx | hx
      · exact hp x hx
      · rw [List.mem_singleton.1 hx]; exact (hl a (by simp)).1)
    rw [List.append_assoc] at this
    exact this
theorem Bst.rows {s : List Bool} {nb : Int → List Int} {l : List Int} : ∀ {ws : List Int} {t : List Bool × List Int}, Bst s ws t → (∀ v ∈ l, ∀ x ∈ nb v, 0 ≤ x ∧ x < s.length) → (∀ x ∈ ws, 0 ≤ x) → Bst s (ws ++ l.flatMap nb) (l.foldl (beyV nb) t) := by
  induction l with
  | nil => intro ws t h _ _; simpa using h
  | cons a l ih =>
    intro ws t h hl hp
    have h1 := h.row (l := nb a) (hl a (by simp)) hp
    have := ih h1 (fun v hv => hl v (by simp [hv])) (fun x hx => by
      rcases List.mem_append.1 hx with hx | hx
      · exact hp x hx
      · exact (hl a (by simp) x hx).1)
    rw [List.append_assoc] at this
    exact this
def Wk (nb : Int → List Int) (s : Int) : Nat → Int → Prop
  | 0, v => v = s
  | k + 1, v => ∃ u, Wk nb s k u ∧ v ∈ nb u
def Plc (nb : Int → List Int) (n : Nat) : Prop := ∀ v : Int, 0 ≤ v → v < n → ∀ x ∈ nb v, 0 ≤ x ∧ x < n
def rlx (o : List Int) (e : Int × Int) : List Int := if 0 ≤ gi o e.1.toNat ∧ (gi o e.2.toNat < 0 ∨ gi o e.1.toNat + 1 < gi o e.2.toNat) then o.set e.2.toNat (gi o e.1.toNat + 1) else o
theorem gi_set {l : List Int} {i j : Nat} {x : Int} (h : i < l.length) : gi (l.set i x) j = if j = i then x else gi l j := by
  simp only [gi, List.getD_eq_getElem?_getD, List.getElem?_set]
  by_cases e : i = j
  · subst e; rw [if_pos rfl, if_pos h, if_pos rfl]; rfl
  · rw [if_neg e, if_neg (fun h => e h.symm)]
structure Low (nb : Int → List Int) (n : Nat) (s : Int) (o : List Int) : Prop where
  len : o.length = n
  lo : ∀ x : Int, 0 ≤ x → x < n → gi o x.toNat = -1 ∨ 0 ≤ gi o x.toNat
  walk : ∀ x : Int, 0 ≤ x → x < n → 0 ≤ gi o x.toNat → Wk nb s (gi o x.toNat).toNat x
def Bet (n : Nat) (o p : List Int) : Prop := ∀ x : Int, 0 ≤ x → x < n → 0 ≤ gi o x.toNat → 0 ≤ gi p x.toNat ∧ gi p x.toNat ≤ gi o x.toNat
theorem Bet.rfl' (n : Nat) (o : List Int) : Bet n o o := fun x _ _ h => ⟨h, Int.le_refl _⟩
theorem Bet.trans {n : Nat} {o p q : List Int} (h1 : Bet n o p) (h2 : Bet n p q) : Bet n o q := fun x a b h => by
  obtain ⟨c, d⟩ := h1 x a b h
  obtain ⟨e, f⟩ := h2 x a b c
  exact ⟨e, Int.le_trans f d⟩
theorem Low.step {nb : Int → List Int} {n : Nat} (H : Plc nb n) {s : Int} {o : List Int} (h : Low nb n s o) {e : Int × Int} (he : e.2 ∈ nb e.1) (hp : 0 ≤ e.1 ∧ e.1 < n) : Low nb n s (rlx o e) ∧ Bet n o (rlx o e) ∧ (0 ≤ gi o e.1.toNat → 0 ≤ gi (rlx o e) e.2.toNat ∧ gi (rlx o e) e.2.toNat ≤ gi o e.1.toNat + 1) := by
  have h2 := H e.1 hp.1 hp.2 e.2 he
  unfold rlx
  by_cases hc : 0 ≤ gi o e.1.toNat ∧ (gi o e.2.toNat < 0 ∨ gi o e.1.toNat + 1 < gi o e.2.toNat)
  · rw [if_pos hc]
    have hl : e.2.toNat < o.length := by rw [h.len]; omega
    refine ⟨⟨by simp [h.len], fun x a b => ?_, fun x a b => ?_⟩, fun x a b => ?_, fun _ => ?_⟩
    · rw [gi_set hl]; split
      · omega
      · exact h.lo x a b
    · rw [gi_set hl]; split
      · rename_i hx
        intro _
        have hx2 : x = e.2 := by omega
        subst hx2
        rw [show (gi o e.1.toNat + 1).toNat = (gi o e.1.toNat).toNat + 1 by omega]
        exact ⟨e.1, h.walk e.1 hp.1 hp.2 hc.1, he⟩
      · exact h.walk x a b
    · rw [gi_set hl]; split
      · rename_i hx; intro h3; rw [hx] at h3 ⊢; omega
      · intro h3; exact ⟨h3, Int.le_refl _⟩
    · rw [gi_set hl, if_pos rfl]; omega
  · rw [if_neg hc]
    refine ⟨h, Bet.rfl' _ _, fun h3 => ?_⟩
    have := h.lo e.2 h2.1 h2.2
    omega
theorem Low.round {nb : Int → List Int} {n : Nat} (H : Plc nb n) {s : Int} : ∀ {l : List (Int × Int)} {o : List Int}, Low nb n s o → (∀ e ∈ l, e.2 ∈ nb e.1 ∧ 0 ≤ e.1 ∧ e.1 < n) → Low nb n s (l.foldl rlx o) ∧ Bet n o (l.foldl rlx o) ∧ ∀ e ∈ l, 0 ≤ gi o e.1.toNat → 0 ≤ gi (l.foldl rlx o) e.2.toNat ∧ gi (l.foldl rlx o) e.2.toNat ≤ gi o e.1.toNat + 1
  | [], o, h, _ => ⟨h, Bet.rfl' _ _, by simp⟩
  | a :: l, o, h, hl => by
    have ha := hl a (by simp)
    obtain ⟨h1, b1, c1⟩ := h.step H ha.1 ha.2
    obtain ⟨h2, b2, c2⟩ := Low.round H (l := l) h1 (fun e he => hl e (by simp [he]))
    rw [List.foldl_cons]
    refine ⟨h2, b1.trans b2, fun e he h0 => ?_⟩
    rcases List.mem_cons.1 he with rfl | he'
    · have h3 := c1 h0
      have hp := H e.1 ha.2.1 ha.2.2 e.2 ha.1
      have := b2 e.2 hp.1 hp.2 h3.1
      omega
    · have hh := hl e he
      have h3 := b1 e.1 hh.2.1 hh.2.2 h0
      have := c2 e he' h3.1
      omega
end Go.Proofs.Ytimiedahbmfkhaa
