/- Two fronts. -/
import Derived.Test.YtgjahkebhlphgaaBf
namespace Go.Proofs.Ytgjahkebhlphgaa
set_option linter.unusedSimpArgs false
set_option linter.unusedVariables false
theorem Wk_add {nb : Int → List Int} {s u : Int} {j : Nat} (h1 : Wk nb s j u) : ∀ {k : Nat} {v : Int}, Wk nb u k v → Wk nb s (j + k) v
  | 0, v, h => by rw [show v = u from h]; exact h1
  | k + 1, v, h => by
    obtain ⟨x, hx, hv⟩ := h
    exact ⟨x, Wk_add h1 hx, hv⟩
theorem Wk_split {nb : Int → List Int} {s : Int} {j : Nat} : ∀ {k : Nat} {v : Int}, Wk nb s (j + k) v → ∃ u, Wk nb s j u ∧ Wk nb u k v
  | 0, v, h => ⟨v, h, rfl⟩
  | k + 1, v, h => by
    obtain ⟨x, hx, hv⟩ := h
    obtain ⟨u, h1, h2⟩ := Wk_split hx
    exact ⟨u, h1, x, h2, hv⟩
theorem Wk_front {nb : Int → List Int} {s u v : Int} {k : Nat} (hu : u ∈ nb s) (h : Wk nb u k v) : Wk nb s (k + 1) v := by
  have := Wk_add (j := 1) (nb := nb) (s := s) (u := u) ⟨s, rfl, hu⟩ h
  rw [Nat.add_comm] at this; exact this
def Mrr (nb nc : Int → List Int) (n : Nat) : Prop := ∀ u v : Int, 0 ≤ u → u < n → 0 ≤ v → v < n → (v ∈ nb u ↔ u ∈ nc v)
theorem Mrr.symm {nb nc : Int → List Int} {n : Nat} (h : Mrr nb nc n) : Mrr nc nb n := fun u v a b c d => (h v u c d a b).symm
theorem Wk_rev {nb nc : Int → List Int} {n : Nat} (H : Plc nb n) (M : Mrr nb nc n) {s : Int} (hs : 0 ≤ s ∧ s < n) : ∀ {k : Nat} {v : Int}, Wk nb s k v → Wk nc v k s
  | 0, v, h => by rw [show v = s from h]; rfl
  | k + 1, v, h => by
    obtain ⟨u, hu, hv⟩ := h
    have hup := Wk_pl H hs hu
    have hvp := H u hup.1 hup.2 v hv
    exact Wk_front ((M u v hup.1 hup.2 hvp.1 hvp.2).1 hv) (Wk_rev H M hs hu)
theorem dsk_rev {nb nc : Int → List Int} {n : Nat} (H : Plc nb n) (H' : Plc nc n) (M : Mrr nb nc n) {s v : Int} (hs : 0 ≤ s ∧ s < n) (hv : 0 ≤ v ∧ v < n) {k : Nat} : dsk nb s k v ↔ dsk nc v k s :=
  ⟨fun h => ⟨Wk_rev H M hs h.1, fun j hj hw => h.2 j hj (Wk_rev H' M.symm hv hw)⟩, fun h => ⟨Wk_rev H' M.symm hv h.1, fun j hj hw => h.2 j hj (Wk_rev H M hs hw)⟩⟩
theorem lev_rev {nb nc : Int → List Int} {n : Nat} (H : Plc nb n) (H' : Plc nc n) (M : Mrr nb nc n) {s v : Int} (hs : 0 ≤ s ∧ s < n) (hv : 0 ≤ v ∧ v < n) : lev nb s v = lev nc v s := by
  rcases lev_cases nb s v with ⟨k, hk, e⟩ | ⟨hn, e⟩
  · rw [e, lev_yes ((dsk_rev H H' M hs hv).1 hk)]
  · rw [e, lev_no fun k hw => hn k (Wk_rev H' M.symm hv hw)]
theorem lev_tri {nb : Int → List Int} {s u v : Int} {j k : Nat} (h1 : dsk nb s j u) (h2 : dsk nb u k v) : ∃ i, i ≤ j + k ∧ dsk nb s i v := Wk_dsk (Wk_add h1.1 h2.1)
theorem rows_mirror {r : Rw} (h : r.ok) {v w : Nat} (hv : v + 1 < r.off.length) (hw : w + 1 < r.roff.length) : (w : Int) ∈ rowI r.off r.to v ↔ (v : Int) ∈ rowI r.roff r.rev w := by
  constructor
  · intro h2; exact h.mir v hv w h2
  · intro h2
    obtain ⟨k, k1, k2, k3⟩ := (h.b.mem hw).1 h2
    rw [rows_in h hw] at h2
    obtain ⟨j, hj, e⟩ := List.mem_map.1 h2
    have hj2 := List.mem_filter.1 hj
    have hj3 : j < r.to.length := by simpa using hj2.1
    have hjw : gi r.to j = w := by simpa using hj2.2
    obtain ⟨a1, a2, a3⟩ := h.f.sp hj3
    have : srcI r.off j = v := by omega
    rw [this] at a1 a2 a3
    exact (h.f.mem hv).2 ⟨j, a2, a3, hjw⟩
end Go.Proofs.Ytgjahkebhlphgaa
