/- Layer 14: the ring of a table, by thought alone. -/
import Derived.Test.YthpgaecloecflaaAs
namespace Go.Proofs.Ythpgaecloecflaa
set_option linter.unusedSimpArgs false
set_option linter.unusedVariables false
set_option maxHeartbeats 4000000
structure Ky where
  s : Int
  d : Int
  v : Int
deriving DecidableEq, Inhabited
structure Pl where
  u : Bool
  k : Ky
  n : Int
deriving DecidableEq, Inhabited
def okk (k : Ky) : Prop := (0 ≤ k.s ∧ k.s ≤ 1000) ∧ (0 ≤ k.d ∧ k.d ≤ 1) ∧ (0 ≤ k.v ∧ k.v ≤ 199)
def hom (L : Nat) (k : Ky) : Nat := (((k.s * 2 + k.d) * 200 + k.v) * 40503 % 65537 % (L : Int)).toNat
theorem hom_lt {L : Nat} (h : 0 < L) (k : Ky) : hom L k < L := by
  have h1 := Int.emod_nonneg (((k.s * 2 + k.d) * 200 + k.v) * 40503 % 65537) (show (L : Int) ≠ 0 by omega)
  have h2 := Int.emod_lt_of_pos (((k.s * 2 + k.d) * 200 + k.v) * 40503 % 65537) (show (0 : Int) < L by omega)
  unfold hom; omega
def cd (L a b : Nat) : Nat := if a ≤ b then b - a else b + L - a
def at_ (pl : List Pl) (i : Nat) : Pl := pl.getD i default
theorem at_set {pl : List Pl} {i j : Nat} {x : Pl} (hj : j < pl.length) : at_ (pl.set i x) j = if i = j then x else at_ pl j := by
  unfold at_
  rw [List.getD_eq_getElem?_getD, List.getElem?_set]
  by_cases h : i = j
  · subst h; simp [hj]
  · simp [h, List.getD_eq_getElem?_getD]
def RH (pl : List Pl) (g : Nat) : Prop := ∀ i, i < pl.length → i ≠ g →
  ((at_ pl i).u = false → at_ pl i = default) ∧ ((at_ pl i).u = true → okk (at_ pl i).k ∧
    ∀ j, j < pl.length → j ≠ g → cd pl.length (hom pl.length (at_ pl i).k) j < cd pl.length (hom pl.length (at_ pl i).k) i → (at_ pl j).u = true ∧ (at_ pl j).k ≠ (at_ pl i).k)
def Ring (pl : List Pl) : Prop := RH pl pl.length
theorem cd_inj {L h i j : Nat} (h0 : h < L) (hi : i < L) (hj : j < L) (e : cd L h i = cd L h j) : i = j := by
  unfold cd at e
  split at e <;> split at e <;> omega
theorem cd_lt {L h i : Nat} (h0 : h < L) (hi : i < L) : cd L h i < L := by unfold cd; split <;> omega
theorem ring_RH {pl : List Pl} (h : Ring pl) {g : Nat} (hg : g < pl.length) : RH pl g := fun i hi hne => by
  have := h i hi (by omega)
  exact ⟨this.1, fun hu => ⟨(this.2 hu).1, fun j hj hjg hc => (this.2 hu).2 j hj (by omega) hc⟩⟩
theorem ring_new (n : Nat) : Ring (List.replicate n default) := fun i hi hne => by
  rw [List.length_replicate] at hi
  have e : at_ (List.replicate n default) i = default := by
    unfold at_
    rw [List.getD_eq_getElem?_getD, List.getElem?_replicate, if_pos hi]; rfl
  rw [e]
  exact ⟨fun _ => rfl, fun h => by cases h⟩
theorem RH_uni {pl : List Pl} {g : Nat} (h : RH pl g) {i j : Nat} (hi : i < pl.length) (hj : j < pl.length) (hig : i ≠ g) (hjg : j ≠ g) (hui : (at_ pl i).u = true) (huj : (at_ pl j).u = true) (e : (at_ pl i).k = (at_ pl j).k) : i = j := by
  have hl := hom_lt (L := pl.length) (by omega) (at_ pl i).k
  have a := ((h i hi hig).2 hui).2 j hj hjg
  have b := ((h j hj hjg).2 huj).2 i hi hig
  rw [← e] at b
  rcases Nat.lt_trichotomy (cd pl.length (hom pl.length (at_ pl i).k) i) (cd pl.length (hom pl.length (at_ pl i).k) j) with q | q | q
  · exact absurd rfl (b q).2
  · exact cd_inj hl hi hj q
  · exact absurd e.symm (a q).2
theorem RH_move {pl : List Pl} {g a : Nat} (h : RH pl g) (hg : g < pl.length) (ha : a < pl.length) (hne : a ≠ g) (hu : (at_ pl a).u = true)
    (hc : cd pl.length (hom pl.length (at_ pl a).k) g < cd pl.length (hom pl.length (at_ pl a).k) a) : RH (pl.set g (at_ pl a)) a := fun i hi hia => by
  rw [List.length_set] at hi ⊢
  rw [at_set hi]
  by_cases hig : g = i
  · subst hig
    rw [if_pos rfl]
    have ra := (h a ha hne).2 hu
    refine ⟨fun hf => (by rw [hu] at hf; cases hf), fun _ => ⟨ra.1, fun j hj hja hjc => ?_⟩⟩
    have hjg : g ≠ j := fun e => by subst e; omega
    rw [at_set hj, if_neg hjg]
    exact ra.2 j hj (fun e => hjg e.symm) (by omega)
  · rw [if_neg hig]
    have ri := h i hi (fun e => hig e.symm)
    refine ⟨ri.1, fun hui => ⟨(ri.2 hui).1, fun j hj hja hjc => ?_⟩⟩
    rw [at_set hj]
    by_cases hgj : g = j
    · subst hgj
      rw [if_pos rfl]
      refine ⟨hu, fun e => ?_⟩
      have := RH_uni h ha hi hne (fun e => hig e.symm) hu hui e
      exact hia this.symm
    · rw [if_neg hgj]
      exact (ri.2 hui).2 j hj (fun e => hgj e.symm) hjc
theorem RH_close {pl : List Pl} {g : Nat} (h : RH pl g) (hg : g < pl.length) (hn : ∀ i, i < pl.length → i ≠ g → (at_ pl i).u = true → ¬ cd pl.length (hom pl.length (at_ pl i).k) g < cd pl.length (hom pl.length (at_ pl i).k) i) : Ring (pl.set g default) := fun i hi _ => by
  rw [List.length_set] at hi ⊢
  rw [at_set hi]
  by_cases hig : g = i
  · rw [if_pos hig]
    exact ⟨fun _ => rfl, fun hf => by cases hf⟩
  · rw [if_neg hig]
    have ri := h i hi (fun e => hig e.symm)
    refine ⟨ri.1, fun hui => ⟨(ri.2 hui).1, fun j hj _ hjc => ?_⟩⟩
    rw [at_set hj]
    by_cases hgj : g = j
    · subst hgj
      exact absurd hjc (hn i hi (fun e => hig e.symm) hui)
    · rw [if_neg hgj]
      exact (ri.2 hui).2 j hj (fun e => hgj e.symm) hjc
structure Fnd (pl : List Pl) (k : Ky) (r : Nat) : Prop where
  lt : r < pl.length
  be : ∀ j, j < pl.length → cd pl.length (hom pl.length k) j < cd pl.length (hom pl.length k) r → (at_ pl j).u = true ∧ (at_ pl j).k ≠ k
  en : (at_ pl r).u = true → (at_ pl r).k = k
theorem fnd_no {pl : List Pl} (h : Ring pl) {k : Ky} {r : Nat} (f : Fnd pl k r) (hr : (at_ pl r).u = false) {i : Nat} (hi : i < pl.length) (hu : (at_ pl i).u = true) : (at_ pl i).k ≠ k := fun e => by
  have hl := hom_lt (L := pl.length) (by omega) k
  have ri := ((h i hi (by omega)).2 hu).2 r f.lt (by have := f.lt; omega)
  rw [e] at ri
  rcases Nat.lt_trichotomy (cd pl.length (hom pl.length k) i) (cd pl.length (hom pl.length k) r) with q | q | q
  · exact (f.be i hi q).2 e
  · have := cd_inj hl hi f.lt q
    subst this
    rw [hr] at hu; cases hu
  · have := (ri q).1
    rw [hr] at this; cases this
theorem fnd_put {pl : List Pl} (h : Ring pl) {k : Ky} (hk : okk k) {r : Nat} (f : Fnd pl k r) (n : Int) : Ring (pl.set r ⟨true, k, n⟩) := fun i hi _ => by
  rw [List.length_set] at hi ⊢
  rw [at_set hi]
  by_cases hir : r = i
  · subst hir
    rw [if_pos rfl]
    refine ⟨fun hf => (by cases hf), fun _ => ⟨hk, fun j hj _ hjc => ?_⟩⟩
    have hne : r ≠ j := fun e => by subst e; omega
    rw [at_set hj, if_neg hne]
    exact f.be j hj hjc
  · rw [if_neg hir]
    have ri := h i hi (by omega)
    refine ⟨ri.1, fun hui => ⟨(ri.2 hui).1, fun j hj _ hjc => ?_⟩⟩
    rw [at_set hj]
    by_cases hrj : r = j
    · subst hrj
      rw [if_pos rfl]
      have := (ri.2 hui).2 r hj (by omega) hjc
      refine ⟨rfl, ?_⟩
      rw [← f.en this.1]
      exact this.2
    · rw [if_neg hrj]
      exact (ri.2 hui).2 j hj (by omega) hjc
theorem fnd_ex {pl : List Pl} {k : Ky} {e : Nat} (he : e < pl.length) (hu : (at_ pl e).u = false) : ∃ r, Fnd pl k r := by
  have hl := hom_lt (L := pl.length) (by omega) k
  have : ∀ n, ∀ e, e < pl.length → ((at_ pl e).u = true → (at_ pl e).k = k) → cd pl.length (hom pl.length k) e = n → ∃ r, Fnd pl k r := by
    intro n
    induction n using Nat.strongRecOn with
    | _ n ih =>
      intro e he hs hn
      by_cases hx : ∃ j, j < pl.length ∧ cd pl.length (hom pl.length k) j < cd pl.length (hom pl.length k) e ∧ ((at_ pl j).u = true → (at_ pl j).k = k)
      · obtain ⟨j, hj, hjc, hjs⟩ := hx
        exact ih _ (by omega) j hj hjs rfl
      · refine ⟨e, he, fun j hj hjc => ?_, hs⟩
        have h1 : ¬ ((at_ pl j).u = true → (at_ pl j).k = k) := fun hjs => hx ⟨j, hj, hjc, hjs⟩
        exact ⟨Classical.byContradiction fun hc => h1 fun h => absurd h hc, fun hc => h1 fun _ => hc⟩
  exact this _ e he (fun h => by rw [hu] at h; cases h) rfl
end Go.Proofs.Ythpgaecloecflaa
