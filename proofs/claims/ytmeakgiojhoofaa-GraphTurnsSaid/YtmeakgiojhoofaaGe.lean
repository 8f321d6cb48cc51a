/- Graphs: the normal one is normal; its rows are right, and tell its edges. -/
import Derived.Test.YtmeakgiojhoofaaGd
namespace Go.Proofs.Ytmeakgiojhoofaa
set_option linter.unusedSimpArgs false
set_option linter.unusedVariables false
def nG (g : Gr) : Gr := ⟨g.n, nrmL ltE g.E, (nrmW g).map some⟩
def zG : Gr := ⟨0, [], []⟩
theorem nG_len (g : Gr) : (nG g).W.length = g.W.length := by simp [nG, nrmW]
theorem nG_w {g : Gr} {i : Nat} (h : i < g.W.length) : (nG g).w i = nrmL ltS (g.w i) := by
  show (((nrmW g).map some).getD i none).getD [] = _
  rw [List.getD_eq_getElem?_getD, List.getElem?_map, nrmW, List.getElem?_map, List.getElem?_range h]; rfl
theorem nG_ok {g : Gr} (h : okG g) : okG (nG g) := by
  refine ⟨h.n, ?_, by rw [nG_len]; exact h.w, fun i hi => ?_, fun i hi s hs => ?_⟩
  · have := nrm_len (lt := ltE) g.E; have := h.e; simp only [nG]; omega
  · rw [nG_len] at hi; rw [nG_w hi]
    have := nrm_len (lt := ltS) (g.w i); have := h.r i hi; omega
  · rw [nG_len] at hi; rw [nG_w hi, nrm_mem ordrS] at hs
    exact h.t i hi s hs
theorem zG_ok : okG zG := ⟨⟨by decide, by decide⟩, by simp [zG], by simp [zG], fun i hi => absurd hi (Nat.not_lt_zero _), fun i hi => absurd hi (Nat.not_lt_zero _)⟩
theorem okB_iff {g : Gr} : okB g = true ↔ (1 ≤ g.n ∧ g.n ≤ 200 ∧ g.E.length ≤ 2000 ∧ (g.W.length : Int) = g.n) ∧ (∀ e ∈ g.E, endB g.n e = true) ∧ ∀ i, i < g.W.length → (g.w i).length ≤ 8 ∧ ∀ s ∈ g.w i, wordB s = true := by
  simp only [okB, wrdB, Bool.and_eq_true, decide_eq_true_eq, List.all_eq_true, List.mem_range]
  constructor
  · rintro ⟨⟨⟨a, b⟩, c, d⟩, e, f⟩; exact ⟨⟨a, b, c, d⟩, e, f⟩
  · rintro ⟨⟨a, b, c, d⟩, e, f⟩; exact ⟨⟨⟨a, b⟩, c, d⟩, e, f⟩
def tG (g : Gr) : Gr := if okB g = true then nG g else zG
theorem tG_ok {g : Gr} (h : okG g) : okG (tG g) := by
  unfold tG; split
  · exact nG_ok h
  · exact zG_ok
def codeA (g : Gr) : Int := if okB g = true then 0 else 20
theorem nrmA_eq (g : Gr) : nrmA g = .tup [.agg (gV (tG g).n (tG g).E (tG g).W), .int .i64 (codeA g)] := by
  unfold nrmA tG codeA
  by_cases h : okB g = true
  · rw [if_pos h, if_pos h, if_pos h]; rfl
  · rw [if_neg h, if_neg h, if_neg h]; rfl
theorem tG_W (g : Gr) : ∃ V : List (List Txt), (tG g).W = V.map some := by
  unfold tG; split
  · exact ⟨_, rfl⟩
  · exact ⟨[], rfl⟩
end Go.Proofs.Ytmeakgiojhoofaa
