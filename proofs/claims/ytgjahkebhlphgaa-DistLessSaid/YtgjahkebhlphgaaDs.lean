/- Two fronts. -/
import Derived.Test.YtgjahkebhlphgaaBf
namespace Go.Proofs.Ytgjahkebhlphgaa
set_option linter.unusedSimpArgs false
set_option linter.unusedVariables false
theorem Wk_add {nb : Int → List Int} {s u : Int} {j : Nat} (h1 : Wk nb s j u) : ∀ {k : Nat} {v : Int}, Wk nb u k v → Wk nb s (j + k) v
  | 0, v, h => by rw [show v = u from h]; exact h1
  | k + 1, v, h => by
    obtain ⟨x, hx, hv⟩ := h
    exact ⟨x, Wk_add h1 hx, hv⟩
theorem Wk_split {nb : Int → List Int} {s : Int} {j : Nat} : ∀ {k : Nat} {v : Int}, Wk nb s (j + k) v → ∃ u, Wk nb s j u ∧ Wk nb u k v
  | 0, v, h => ⟨v, h, rfl⟩
  | k + 1, v, h => by
    obtain ⟨x, hx, hv⟩ := h
    obtain ⟨u, h1, h2⟩ := Wk_split hx
    exact ⟨u, h1, x, h2, hv⟩
theorem Wk_front {nb : Int → List Int} {s u v : Int} {k : Nat} (hu : u ∈ nb s) (h : Wk nb u k v) : Wk nb s (k + 1) v := by
  have := Wk_add (j := 1) (nb := nb) (s := s) (u := u) ⟨s, rfl, hu⟩ h
  rw [Nat.add_comm] at this; exact this
def Mrr (nb nc : Int → List Int) (n : Nat) : Prop := ∀ u v : Int, 0 ≤ u → u < n → 0 ≤ v → v < n → (v ∈ nb u ↔ u ∈ nc v)
theorem Mrr.symm {nb nc : Int → List Int} {n : Nat} (h : Mrr nb nc n) : Mrr nc nb n := fun u v a b c d => (h v u c d a b).symm
theorem Wk_rev {nb nc : Int → List Int} {n : Nat} (H : Plc nb n) (M : Mrr nb nc n) {s : Int} (hs : 0 ≤ s ∧ s < n) : ∀ {k : Nat} {v : Int}, Wk nb s k v → Wk nc v k s
  | 0, v, h => by rw [show v = s from h]; rfl
  | k + 1, v, h => by
    obtain ⟨u, hu, hv⟩ := h
    have hup := Wk_pl H hs hu
    have hvp := H u hup.1 hup.2 v hv
    exact Wk_front ((M u v hup.1 hup.2 hvp.1 hvp.2).1 hv) (Wk_rev H M hs hu)
theorem dsk_rev {nb nc : Int → List Int} {n : Nat} (H : Plc nb n) (H' : Plc nc n) (M : Mrr nb nc n) {s v : Int} (hs : 0 ≤ s ∧ s < n) (hv : 0 ≤ v ∧ v < n) {k : Nat} : dsk nb s k v ↔ dsk nc v k s :=
  ⟨fun h => ⟨Wk_rev H M hs h.1, fun j hj hw => h.2 j hj (Wk_rev H' M.symm hv hw)⟩, fun h => ⟨Wk_rev H' M.symm hv h.1, fun j hj hw => h.2 j hj (Wk_rev H M hs hw)⟩⟩
theorem lev_rev {nb nc : Int → List Int} {n : Nat} (H : Plc nb n) (H' : Plc nc n) (M : Mrr nb nc n) {s v : Int} (hs : 0 ≤ s ∧ s < n) (hv : 0 ≤ v ∧ v < n) : lev nb s v = lev nc v s := by
  rcases lev_cases nb s v with ⟨k, hk, e⟩ | ⟨hn, e⟩
  · rw [e, lev_yes ((dsk_rev H H' M hs hv).1 hk)]
  · rw [e, lev_no fun k hw => hn k (Wk_rev H' M.symm hv hw)]
def Meets (nb nc : Int → List Int) (s t : Int) (k : Nat) (x : Int) : Prop := ∃ i j, i ≤ k ∧ j ≤ k ∧ dsk nb s i x ∧ dsk nc t j x
theorem meets_sum {nb nc : Int → List Int} {n : Nat} (H : Plc nb n) (H' : Plc nc n) (M : Mrr nb nc n) {s t : Int} (hs : 0 ≤ s ∧ s < n) (ht : 0 ≤ t ∧ t < n) {i j : Nat} {x : Int} (h1 : dsk nb s i x) (h2 : dsk nc t j x) : ∃ d, d ≤ i + j ∧ dsk nb s d t := by
  have hx := Wk_pl H hs h1.1
  exact Wk_dsk (Wk_add h1.1 (Wk_rev H' M.symm ht h2.1))
theorem meets_of {nb nc : Int → List Int} {n : Nat} (H : Plc nb n) (H' : Plc nc n) (M : Mrr nb nc n) {s t : Int} (hs : 0 ≤ s ∧ s < n) (ht : 0 ≤ t ∧ t < n) {d i : Nat} (hd : dsk nb s d t) (hi : i ≤ d) : ∃ x, dsk nb s i x ∧ dsk nc t (d - i) x := by
  obtain ⟨x, h1, h2⟩ := Wk_split (j := i) (k := d - i) (by rw [show i + (d - i) = d by omega]; exact hd.1)
  have hx := Wk_pl H hs h1
  obtain ⟨a, ha, da⟩ := Wk_dsk h1
  obtain ⟨b, hb, db⟩ := Wk_dsk (Wk_rev H M hx h2)
  obtain ⟨e, he, de⟩ := meets_sum H H' M hs ht da db
  have := dsk_eq de hd
  have ea : a = i := by omega
  have eb : b = d - i := by omega
  subst ea
  exact ⟨x, da, eb ▸ db⟩
theorem meets_iff {nb nc : Int → List Int} {n : Nat} (H : Plc nb n) (H' : Plc nc n) (M : Mrr nb nc n) {s t : Int} (hs : 0 ≤ s ∧ s < n) (ht : 0 ≤ t ∧ t < n) {k : Nat} : (∃ x, Meets nb nc s t k x) ↔ ∃ d, d ≤ 2 * k ∧ dsk nb s d t := by
  constructor
  · rintro ⟨x, i, j, hi, hj, h1, h2⟩
    obtain ⟨d, hd, h⟩ := meets_sum H H' M hs ht h1 h2
    exact ⟨d, by omega, h⟩
  · rintro ⟨d, hd, h⟩
    rcases Nat.le_total d k with h2 | h2
    · obtain ⟨x, a, b⟩ := meets_of H H' M hs ht h (i := d) (Nat.le_refl _)
      exact ⟨x, d, _, h2, by omega, a, b⟩
    · obtain ⟨x, a, b⟩ := meets_of H H' M hs ht h (i := k) h2
      exact ⟨x, k, _, Nat.le_refl _, by omega, a, b⟩
theorem rows_mirror {r : Rw} (h : r.ok) {v w : Nat} (hv : v + 1 < r.off.length) (hw : w + 1 < r.roff.length) : (w : Int) ∈ rowI r.off r.to v ↔ (v : Int) ∈ rowI r.roff r.rev w := by
  constructor
  · intro h2; exact h.mir v hv w h2
  · intro h2
    obtain ⟨k, k1, k2, k3⟩ := (h.b.mem hw).1 h2
    rw [rows_in h hw] at h2
    obtain ⟨j, hj, e⟩ := List.mem_map.1 h2
    have hj2 := List.mem_filter.1 hj
    have hj3 : j < r.to.length := by simpa using hj2.1
    have hjw : gi r.to j = w := by simpa using hj2.2
    obtain ⟨a1, a2, a3⟩ := h.f.sp hj3
    have : srcI r.off j = v := by omega
    rw [this] at a1 a2 a3
    exact (h.f.mem hv).2 ⟨j, a2, a3, hjw⟩
end Go.Proofs.Ytgjahkebhlphgaa
