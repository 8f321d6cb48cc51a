/- Graphs: the normal one is normal; its rows are right, and tell its edges. -/
import Derived.Test.YtmeakgiojhoofaaGd
namespace Go.Proofs.Ytmeakgiojhoofaa
set_option linter.unusedSimpArgs false
set_option linter.unusedVariables false
def nG (g : Gr) : Gr := ⟨g.n, nrmL ltE g.E, (nrmW g).map some⟩
def zG : Gr := ⟨0, [], []⟩
theorem nG_len (g : Gr) : (nG g).W.length = g.W.length := by simp [nG, nrmW]
theorem nG_w {g : Gr} {i : Nat} (h : i < g.W.length) : (nG g).w i = nrmL ltS (g.w i) := by
  show (((nrmW g).map some).getD i none).getD [] = _
  rw [List.getD_eq_getElem?_getD, List.getElem?_map, nrmW, List.getElem?_map, List.getElem?_range h]; rfl
theorem nG_ok {g : Gr} (h : okG g) : okG (nG g) := by
  refine ⟨h.n, ?_, by rw [nG_len]; exact h.w, fun i hi => ?_, fun i hi s hs => ?_⟩
  · have := nrm_len (lt := ltE) g.E; have := h.e; simp only [nG]; omega
  · rw [nG_len] at hi; rw [nG_w hi]
    have := nrm_len (lt := ltS) (g.w i); have := h.r i hi; omega
  · rw [nG_len] at hi; rw [nG_w hi, nrm_mem ordrS] at hs
    exact h.t i hi s hs
theorem zG_ok : okG zG := ⟨⟨by decide, by decide⟩, by simp [zG], by simp [zG], fun i hi => absurd hi (Nat.not_lt_zero _), fun i hi => absurd hi (Nat.not_lt_zero _)⟩
theorem okB_iff {g : Gr} : okB g = true ↔ (1 ≤ g.n ∧ g.n ≤ 200 ∧ g.E.length ≤ 2000 ∧ (g.W.length : Int) = g.n) ∧ (∀ e ∈ g.E, endB g.n e = true) ∧ ∀ i, i < g.W.length → (g.w i).length ≤ 8 ∧ ∀ s ∈ g.w i, wordB s = true := by
  simp only [okB, wrdB, Bool.and_eq_true, decide_eq_true_eq, List.all_eq_true, List.mem_range]
  constructor
  · rintro ⟨⟨⟨a, b⟩, c, d⟩, e, f⟩; exact ⟨⟨a, b, c, d⟩, e, f⟩
  · rintro ⟨⟨a, b, c, d⟩, e, f⟩; exact ⟨⟨⟨a, b⟩, c, d⟩, e, f⟩
theorem nG_okB {g : Gr} (h : okB g = true) : okB (nG g) = true := by
  obtain ⟨⟨a, b, c, d⟩, e, f⟩ := okB_iff.1 h
  refine okB_iff.2 ⟨⟨a, b, ?_, by rw [nG_len]; exact d⟩, fun x hx => ?_, fun i hi => ?_⟩
  · have := nrm_len (lt := ltE) g.E; simp only [nG]; omega
  · exact e x ((nrm_mem ordrE _ _).1 hx)
  · rw [nG_len] at hi; rw [nG_w hi]
    obtain ⟨f1, f2⟩ := f i hi
    have := nrm_len (lt := ltS) (g.w i)
    exact ⟨by omega, fun s hs => f2 s ((nrm_mem ordrS _ _).1 hs)⟩
theorem nG_isB {g : Gr} (h : okB g = true) : isB (nG g) = true := by
  unfold isB
  rw [nG_okB h, show ascB ltE (nG g).E = true from ascB_iff.2 (nrm_asc ordrE g.E), wAsc_yes fun i hi => by
    rw [nG_len] at hi; rw [nG_w hi]; exact nrm_asc ordrS _]
  rfl
def tG (g : Gr) : Gr := if okB g = true then nG g else zG
theorem tG_ok {g : Gr} (h : okG g) : okG (tG g) := by
  unfold tG; split
  · exact nG_ok h
  · exact zG_ok
def codeA (g : Gr) : Int := if okB g = true then 0 else 20
theorem nrmA_eq (g : Gr) : nrmA g = .tup [.agg (gV (tG g).n (tG g).E (tG g).W), .int .i64 (codeA g)] := by
  unfold nrmA tG codeA
  by_cases h : okB g = true
  · rw [if_pos h, if_pos h, if_pos h]; rfl
  · rw [if_neg h, if_neg h, if_neg h]; rfl
theorem parts_len (f : Ed → Int) {n : Nat} : ∀ {E : List Ed}, (∀ e ∈ E, 0 ≤ f e ∧ f e < n) → sumN (fun v => (E.filter fun e => f e == (v : Int)).length) n = E.length
  | [], _ => by
    have : ∀ n, sumN (fun v => (([] : List Ed).filter fun e => f e == (v : Int)).length) n = 0 := fun n => by
      induction n with
      | zero => rfl
      | succ n ih => simp only [sumN, ih]; rfl
    exact this n
  | e :: E, h => by
    have ih := parts_len f (n := n) (E := E) (fun x hx => h x (by simp [hx]))
    have he := h e (by simp)
    rw [sumN_add_one (g := fun v => (E.filter fun e => f e == (v : Int)).length) (a := (f e).toNat) (by omega) ?_, ih]; rfl
    intro i hi
    by_cases c : f e = (i : Int)
    · rw [List.filter_cons_of_pos (by simpa using c), if_pos (by omega)]; rfl
    · rw [List.filter_cons_of_neg (by simpa using c), if_neg (by omega)]; rfl
def plE (n : Nat) (E : List Ed) : Prop := ∀ e ∈ E, 0 ≤ e.1 ∧ e.1 < n ∧ 0 ≤ e.2 ∧ e.2 < n
theorem isB_pl {g : Gr} (h : isB g = true) : ∃ n : Nat, g.n = n ∧ 1 ≤ n ∧ n ≤ 200 ∧ g.E.length ≤ 2000 ∧ asc ltE g.E ∧ plE n g.E := by
  simp only [isB, Bool.and_eq_true] at h
  obtain ⟨h1, h2, _⟩ := h
  obtain ⟨⟨a, b, c, d⟩, e, f⟩ := okB_iff.1 h1
  refine ⟨g.n.toNat, by omega, by omega, by omega, c, ascB_iff.1 h2, fun x hx => ?_⟩
  have := e x hx
  simp only [endB, Bool.and_eq_true, decide_eq_true_eq] at this
  omega
theorem turnE_mem {E : List Ed} {a b : Int} : (a, b) ∈ turnE E ↔ (b, a) ∈ E := by
  simp only [turnE, List.mem_map]
  constructor
  · rintro ⟨⟨x, y⟩, h, e⟩
    simp only [Prod.mk.injEq] at e
    rw [← e.1, ← e.2]; exact h
  · intro h; exact ⟨_, h, rfl⟩
theorem turn_okB (g : Gr) : okB (turnG g) = okB g := by
  have key : ∀ g : Gr, okB g = true → okB (turnG g) = true := fun g h => by
    obtain ⟨⟨a, b, c, d⟩, e, f⟩ := okB_iff.1 h
    refine okB_iff.2 ⟨⟨a, b, by simp only [turnG, turnE_len]; exact c, d⟩, fun x hx => ?_, f⟩
    have hx' : (x.2, x.1) ∈ g.E := turnE_mem.1 hx
    have := e _ hx'
    simp only [endB, turnG, Bool.and_eq_true, decide_eq_true_eq] at this ⊢
    exact ⟨decide_eq_true this.2, decide_eq_true this.1⟩
  cases h : okB g with
  | true => exact key g h
  | false =>
    cases h2 : okB (turnG g) with
    | false => rfl
    | true =>
      have := key _ h2
      have e : turnG (turnG g) = g := by
        simp only [turnG, turnE, List.map_map]
        congr 1
        exact List.map_id _
      rw [e, h] at this; cases this
end Go.Proofs.Ytmeakgiojhoofaa
