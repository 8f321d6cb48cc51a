/- Rows of a graph: what is right of them. -/
import Derived.Test.YtimiedahbmfkhaaRq
namespace Go.Proofs.Ytimiedahbmfkhaa
set_option linter.unusedSimpArgs false
set_option linter.unusedVariables false
def gi (l : List Int) (i : Nat) : Int := l.getD i 0
def oi (l : List Int) (i : Nat) : Nat := (gi l i).toNat
def rowI (off to : List Int) (v : Nat) : List Int := (to.drop (oi off v)).take (oi off (v + 1) - oi off v)
structure half (off to : List Int) : Prop where
  lo : 2 ≤ off.length
  hi : off.length ≤ 201
  tl : to.length ≤ 2000
  z : gi off 0 = 0
  e : gi off (off.length - 1) = to.length
  mono : ∀ v, v + 1 < off.length → gi off v ≤ gi off (v + 1)
  pl : ∀ v, v + 1 < off.length → ∀ k, oi off v ≤ k → k < oi off (v + 1) → 0 ≤ gi to k ∧ gi to k < off.length - 1 ∧ (oi off v < k → gi to (k - 1) < gi to k)
structure Rw where
  off : List Int
  to : List Int
  roff : List Int
  rev : List Int
deriving DecidableEq, Inhabited
def mir (r : Rw) : Prop := ∀ v, v + 1 < r.off.length → ∀ w ∈ rowI r.off r.to v, (v : Int) ∈ rowI r.roff r.rev w.toNat
structure Rw.ok (r : Rw) : Prop where
  l : r.off.length = r.roff.length
  f : half r.off r.to
  b : half r.roff r.rev
  m : r.to.length = r.rev.length
  mir : mir r
open Classical in
noncomputable def chk (r : Rw) : Bool := decide r.ok
section
variable {off to : List Int}
theorem mono_of (hm : ∀ v, v + 1 < off.length → gi off v ≤ gi off (v + 1)) {v w : Nat} (h : v ≤ w) (hw : w < off.length) : gi off v ≤ gi off w := by
  induction w with
  | zero => rw [show v = 0 by omega]; exact Int.le_refl _
  | succ w ih =>
    by_cases e : v = w + 1
    · rw [e]; exact Int.le_refl _
    · exact Int.le_trans (ih (by omega) (by omega)) (hm w hw)
theorem half.oz (H : half off to) : oi off 0 = 0 := by rw [oi, H.z]; rfl
theorem half.nn (H : half off to) {v : Nat} (h : v < off.length) : 0 ≤ gi off v := by rw [← H.z]; exact mono_of H.mono (Nat.zero_le _) h
theorem half.le (H : half off to) {v : Nat} (h : v < off.length) : gi off v ≤ to.length := by rw [← H.e]; exact mono_of H.mono (by omega) (by omega)
theorem half.gn (H : half off to) {v : Nat} (h : v < off.length) : gi off v = oi off v := by have := H.nn h; rw [oi]; omega
theorem half.ole (H : half off to) {v : Nat} (h : v < off.length) : oi off v ≤ to.length := by have := H.le h; have := H.gn h; omega
theorem half.omm (H : half off to) {v w : Nat} (hv : v ≤ w) (h : w < off.length) : oi off v ≤ oi off w := by have := mono_of H.mono hv h; rw [H.gn h, H.gn (show v < off.length by omega)] at this; omega
theorem half.oe (H : half off to) : oi off (off.length - 1) = to.length := by rw [oi, H.e]; rfl
theorem half.row_len (H : half off to) {v : Nat} (h : v + 1 < off.length) : (rowI off to v).length = oi off (v + 1) - oi off v := by
  rw [rowI, List.length_take, List.length_drop]; have := H.ole h; omega
theorem half.row_at (H : half off to) {v : Nat} (h : v + 1 < off.length) {i : Nat} (hi : i < oi off (v + 1) - oi off v) : (rowI off to v).getD i 0 = gi to (oi off v + i) := by
  rw [rowI, gi, List.getD_eq_getElem?_getD, List.getElem?_take, if_pos hi, List.getElem?_drop, List.getD_eq_getElem?_getD]
theorem half.mem (H : half off to) {v : Nat} (h : v + 1 < off.length) {w : Int} : w ∈ rowI off to v ↔ ∃ k, oi off v ≤ k ∧ k < oi off (v + 1) ∧ gi to k = w := by
  constructor
  · intro hw
    obtain ⟨i, hi, e⟩ := List.getElem_of_mem hw
    rw [H.row_len h] at hi
    have := H.row_at h hi
    refine ⟨oi off v + i, by omega, by omega, ?_⟩
    rw [← this, List.getD_eq_getElem?_getD, List.getElem?_eq_getElem (by rw [H.row_len h]; exact hi), e]; rfl
  · rintro ⟨k, h1, h2, rfl⟩
    have hi : k - oi off v < oi off (v + 1) - oi off v := by omega
    have := H.row_at h hi
    rw [show oi off v + (k - oi off v) = k by omega] at this
    rw [← this, List.getD_eq_getElem?_getD, List.getElem?_eq_getElem (by rw [H.row_len h]; exact hi)]
    exact List.getElem_mem _
theorem half.ex (H : half off to) {k : Nat} (h : k < to.length) : ∃ v, v + 1 < off.length ∧ oi off v ≤ k ∧ k < oi off (v + 1) := by
  have e := H.oe
  have z := H.oz
  have lo := H.lo
  have : ∀ n, n < off.length → k < oi off n → ∃ v, v + 1 < off.length ∧ oi off v ≤ k ∧ k < oi off (v + 1) := by
    intro n
    induction n with
    | zero => intro _ h; rw [z] at h; omega
    | succ n ih =>
      intro hn hk
      by_cases h2 : k < oi off n
      · exact ih (by omega) h2
      · exact ⟨n, hn, by omega, hk⟩
  exact this (off.length - 1) (by omega) (by rw [e]; exact h)
theorem half.exu (H : half off to) {k v w : Nat} (hv : v + 1 < off.length) (hw : w + 1 < off.length) (h1 : oi off v ≤ k) (h2 : k < oi off (v + 1)) (h3 : oi off w ≤ k) (h4 : k < oi off (w + 1)) : v = w := by
  rcases Nat.lt_trichotomy v w with h | h | h
  · have := H.omm (v := v + 1) (w := w) h (by omega); omega
  · exact h
  · have := H.omm (v := w + 1) (w := v) h (by omega); omega
end
def cntI (to : List Int) (w : Int) (k : Nat) : Nat := ((List.range k).filter fun j => gi to j == w).length
noncomputable def srcI (off : List Int) (k : Nat) : Nat := open Classical in if h : ∃ v, v + 1 < off.length ∧ oi off v ≤ k ∧ k < oi off (v + 1) then h.choose else 0
theorem half.se {off to : List Int} (H : half off to) {v k : Nat} (hv : v + 1 < off.length) (h1 : oi off v ≤ k) (h2 : k < oi off (v + 1)) : srcI off k = v := by
  have hex : ∃ v, v + 1 < off.length ∧ oi off v ≤ k ∧ k < oi off (v + 1) := ⟨v, hv, h1, h2⟩
  rw [srcI, dif_pos hex]
  have := hex.choose_spec
  exact H.exu this.1 hv this.2.1 this.2.2 h1 h2
theorem half.sp {off to : List Int} (H : half off to) {k : Nat} (h : k < to.length) : srcI off k + 1 < off.length ∧ oi off (srcI off k) ≤ k ∧ k < oi off (srcI off k + 1) := by
  obtain ⟨v, a, b, c⟩ := H.ex h
  rw [H.se a b c]; exact ⟨a, b, c⟩
end Go.Proofs.Ytimiedahbmfkhaa
