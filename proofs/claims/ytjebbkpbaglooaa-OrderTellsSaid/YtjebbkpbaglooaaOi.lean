/- Layer 11: OrderRows. -/
import Derived.Test.YtjebbkpbaglooaaOg
namespace Go.Proofs.Ytjebbkpbaglooaa
set_option linter.unusedSimpArgs false
set_option linter.unusedVariables false
set_option maxHeartbeats 4000000
set_option maxRecDepth 100000
def lexE (a b : Ed) : Prop := a.1 < b.1 ∨ (a.1 = b.1 ∧ a.2 < b.2)
theorem edU_mem {r : Rw} {n : Nat} {e : Ed} : e ∈ edU r n ↔ ∃ u : Nat, u < n ∧ e.1 = (u : Int) ∧ e.2 ∈ rowI r.off r.to u := by
  simp only [edU, edV, List.mem_flatMap, List.mem_range, List.mem_map]
  constructor
  · rintro ⟨u, hu, w, hw, rfl⟩; exact ⟨u, hu, rfl, hw⟩
  · rintro ⟨u, hu, h1, h2⟩; exact ⟨u, hu, e.2, h2, Prod.ext h1.symm rfl⟩
theorem edU_lex {r : Rw} (h : r.ok) : ∀ {n : Nat}, n < r.off.length → (edU r n).Pairwise lexE
  | 0, _ => by simp [edU]
  | n + 1, hn => by
    rw [edU_succ, List.pairwise_append]
    refine ⟨edU_lex h (by omega), ?_, fun a ha b hb => ?_⟩
    · rw [edV, List.pairwise_map]
      exact (h.f.inc hn).imp fun hab => .inr ⟨rfl, hab⟩
    · obtain ⟨u, hu, e1, e2⟩ := edU_mem.1 ha
      simp only [edV, List.mem_map] at hb
      obtain ⟨w, hw, rfl⟩ := hb
      left
      simp only [e1]; omega
theorem out_rows {r : Rw} (h : r.ok) {v : Nat} (hv : v + 1 < r.off.length) : ((edU r (r.off.length - 1)).filter fun e => e.1 == (v : Int)).length = (rowI r.off r.to v).length := by
  have e : ((edU r (r.off.length - 1)).filter fun e => e.1 == (v : Int)).map (·.2) = rowI r.off r.to v := by
    refine inc_ext ?_ (h.f.inc hv) fun w => ?_
    · rw [List.pairwise_map]
      have := (edU_lex h (n := r.off.length - 1) (by omega)).filter fun e => e.1 == (v : Int)
      refine this.imp_of_mem fun {a b} ha hb hab => ?_
      have h1 := (List.mem_filter.1 ha).2
      have h2 := (List.mem_filter.1 hb).2
      simp only [beq_iff_eq] at h1 h2
      unfold lexE at hab
      omega
    · simp only [List.mem_map, List.mem_filter, beq_iff_eq]
      constructor
      · rintro ⟨a, ⟨h1, h2⟩, rfl⟩
        obtain ⟨u, hu, e1, e2⟩ := edU_mem.1 h1
        have : u = v := by omega
        rwa [this] at e2
      · intro hw
        exact ⟨((v : Int), w), ⟨edU_mem.2 ⟨v, by omega, rfl, hw⟩, rfl⟩, rfl⟩
  rw [← e, List.length_map]
theorem in_rows {r : Rw} (h : r.ok) {v : Nat} (hv : v + 1 < r.off.length) : ((edU r (r.off.length - 1)).filter fun e => e.2 == (v : Int)).length = (rowI r.roff r.rev v).length := by
  have hl := h.l
  have e : ((edU r (r.off.length - 1)).filter fun e => e.2 == (v : Int)).map (·.1) = rowI r.roff r.rev v := by
    refine inc_ext ?_ (h.b.inc (by omega)) fun w => ?_
    · rw [List.pairwise_map]
      have := (edU_lex h (n := r.off.length - 1) (by omega)).filter fun e => e.2 == (v : Int)
      refine this.imp_of_mem fun {a b} ha hb hab => ?_
      have h1 := (List.mem_filter.1 ha).2
      have h2 := (List.mem_filter.1 hb).2
      simp only [beq_iff_eq] at h1 h2
      unfold lexE at hab
      omega
    · simp only [List.mem_map, List.mem_filter, beq_iff_eq]
      constructor
      · rintro ⟨a, ⟨h1, h2⟩, rfl⟩
        obtain ⟨u, hu, e1, e2⟩ := edU_mem.1 h1
        rw [h2] at e2
        rw [e1]
        exact (rows_mirror h (by omega) (by omega)).1 e2
      · intro hw
        have hp := h.b.row_pl (by omega) hw
        obtain ⟨u, rfl⟩ := Int.eq_ofNat_of_zero_le hp.1
        have := (rows_mirror h (v := u) (w := v) (by omega) (by omega)).2 hw
        exact ⟨((u : Int), (v : Int)), ⟨edU_mem.2 ⟨u, by omega, rfl, this⟩, rfl⟩, rfl⟩
  rw [← e, List.length_map]
theorem wys_rows {r : Rw} (h : r.ok) {v : Nat} (hv : v + 1 < r.off.length) : wysN (edU r (r.off.length - 1)) v = (rowI r.off r.to v).length + (rowI r.roff r.rev v).length := by
  rw [wysN, out_rows h hv, in_rows h hv]
def prsB (r : Rw) : List Ed := sorted ltP (wpr (edU r (r.off.length - 1)) (r.off.length - 1))
theorem byA_eq (r : Rw) : byA r = snds (prsB r) := rfl
theorem prsB_len (r : Rw) : (prsB r).length = r.off.length - 1 := by rw [prsB, sorted_len, wpr_len]
theorem byA_len (r : Rw) : (byA r).length = r.off.length - 1 := by rw [byA_eq, snds, List.length_map, prsB_len]
end Go.Proofs.Ytjebbkpbaglooaa
