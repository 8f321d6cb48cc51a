/- Layer 14: what close does, by thought alone. -/
import Derived.Test.YthpgaecloecflaaTa
namespace Go.Proofs.Ythpgaecloecflaa
set_option linter.unusedSimpArgs false
set_option linter.unusedVariables false
set_option maxHeartbeats 4000000
theorem reach_iff {L h g a : Nat} (hh : h < L) (hg : g < L) (ha : a < L) (hne : a ≠ g) : cd L g a ≤ cd L h a ↔ cd L h g < cd L h a := by
  unfold cd
  (repeat' split) <;> omega
theorem cd_behind {L h g a i : Nat} (hh : h < L) (hg : g < L) (ha : a < L) (hi : i < L) (h1 : cd L h g < cd L h i) (h2 : cd L g a < cd L g i) : cd L h a < cd L h i := by
  unfold cd at *
  split at h1 <;> split at h1 <;> split at h2 <;> split at h2 <;> (repeat' split) <;> omega
theorem cd_nearer {L g a e : Nat} (hg : g < L) (ha : a < L) (he : e < L) (h : cd L g a < cd L g e) : cd L a e = cd L g e - cd L g a := by
  unfold cd at *
  split at h <;> split at h <;> (repeat' split) <;> omega
theorem cd_zero {L g a : Nat} (hg : g < L) (ha : a < L) (h : cd L g a = 0) : a = g := by
  unfold cd at h
  split at h <;> omega
structure Scan (P : List Pl) (g a : Nat) : Prop where
  lt : a < P.length
  ne : a ≠ g
  be : ∀ j, j < P.length → j ≠ g → cd P.length g j < cd P.length g a → (at_ P j).u = true ∧ ¬ cd P.length g j ≤ cd P.length (hom P.length (at_ P j).k) j
  en : (at_ P a).u = true → cd P.length g a ≤ cd P.length (hom P.length (at_ P a).k) a
theorem scan_ex {P : List Pl} {g e : Nat} (he : e < P.length) (hne : e ≠ g) (hu : (at_ P e).u = false) : ∃ a, Scan P g a := by
  have : ∀ n, ∀ e, e < P.length → e ≠ g → ((at_ P e).u = true → cd P.length g e ≤ cd P.length (hom P.length (at_ P e).k) e) → cd P.length g e = n → ∃ a, Scan P g a := by
    intro n
    induction n using Nat.strongRecOn with
    | _ n ih =>
      intro e he hne hs hn
      by_cases hx : ∃ j, j < P.length ∧ j ≠ g ∧ cd P.length g j < cd P.length g e ∧ ((at_ P j).u = true → cd P.length g j ≤ cd P.length (hom P.length (at_ P j).k) j)
      · obtain ⟨j, hj, hjg, hjc, hjs⟩ := hx
        exact ih _ (by omega) j hj hjg hjs rfl
      · refine ⟨e, he, hne, fun j hj hjg hjc => ?_, hs⟩
        have h1 : ¬ ((at_ P j).u = true → cd P.length g j ≤ cd P.length (hom P.length (at_ P j).k) j) := fun hjs => hx ⟨j, hj, hjg, hjc, hjs⟩
        exact ⟨Classical.byContradiction fun hc => h1 fun h => absurd h hc, fun hc => h1 fun _ => hc⟩
  exact this _ e he hne (fun h => by rw [hu] at h; cases h) rfl
theorem scan_stop {P : List Pl} {g a : Nat} (h : RH P g) (hg : g < P.length) (s : Scan P g a) (hu : (at_ P a).u = false) : Ring (P.set g default) := by
  refine RH_close h hg fun i hi hig hui hc => ?_
  have hh := hom_lt (L := P.length) (by omega) (at_ P i).k
  rcases Nat.lt_trichotomy (cd P.length g i) (cd P.length g a) with q | q | q
  · exact (s.be i hi hig q).2 ((reach_iff hh hg hi hig).2 hc)
  · have := cd_inj hg hi s.lt q
    subst this
    rw [hu] at hui; cases hui
  · have := ((h i hi hig).2 hui).2 a s.lt s.ne (cd_behind hh hg s.lt hi hc q)
    rw [hu] at this
    cases this.1
theorem scan_move {P : List Pl} {g a : Nat} (h : RH P g) (hg : g < P.length) (s : Scan P g a) (hu : (at_ P a).u = true) : RH (P.set g (at_ P a)) a :=
  RH_move h hg s.lt s.ne hu ((reach_iff (hom_lt (by omega) _) hg s.lt s.ne).1 (s.en hu))
theorem scan_near {P : List Pl} {g a e : Nat} (hg : g < P.length) (s : Scan P g a) (hu : (at_ P a).u = true) (he : e < P.length) (hne : e ≠ g) (hf : (at_ P e).u = false) : e ≠ a ∧ cd P.length a e < cd P.length g e := by
  have h1 : e ≠ a := fun x => by subst x; rw [hf] at hu; cases hu
  refine ⟨h1, ?_⟩
  have h2 : ¬ cd P.length g e < cd P.length g a := fun q => by
    have := (s.be e he hne q).1
    rw [hf] at this; cases this
  have h3 : cd P.length g a ≠ cd P.length g e := fun q => h1 (cd_inj hg s.lt he q).symm
  have h4 : cd P.length g a ≠ 0 := fun q => s.ne (cd_zero hg s.lt q)
  rw [cd_nearer hg s.lt he (by omega)]
  omega
def Has (P : List Pl) (g : Nat) (x : Pl) : Prop := x.u = true ∧ ∃ i, i < P.length ∧ i ≠ g ∧ at_ P i = x
theorem move_has {P : List Pl} {g a : Nat} (hg : g < P.length) (ha : a < P.length) (hne : a ≠ g) (hu : (at_ P a).u = true) (x : Pl) : Has (P.set g (at_ P a)) a x ↔ Has P g x := by
  unfold Has
  rw [List.length_set]
  constructor
  · rintro ⟨h1, i, hi, hia, e⟩
    rw [at_set hi] at e
    by_cases h : g = i
    · rw [if_pos h] at e
      exact ⟨h1, a, ha, hne, e⟩
    · rw [if_neg h] at e
      exact ⟨h1, i, hi, fun q => h q.symm, e⟩
  · rintro ⟨h1, i, hi, hig, e⟩
    by_cases h : i = a
    · subst h
      refine ⟨h1, g, hg, fun q => hne q.symm, ?_⟩
      rw [at_set hg, if_pos rfl]; exact e
    · refine ⟨h1, i, hi, h, ?_⟩
      rw [at_set hi, if_neg (fun q => hig q.symm)]; exact e
def usN (P : List Pl) : Nat := P.countP (·.u)
theorem usN_cons (x : Pl) (P : List Pl) : usN (x :: P) = usN P + x.u.toNat := by
  unfold usN
  rw [List.countP_cons]
  cases x.u <;> rfl
theorem usN_set : ∀ {P : List Pl} {i : Nat} (y : Pl), i < P.length → usN (P.set i y) + (at_ P i).u.toNat = usN P + y.u.toNat
  | [], i, y, h => absurd h (Nat.not_lt_zero _)
  | x :: P, 0, y, h => by
    have e : at_ (x :: P) 0 = x := rfl
    rw [List.set_cons_zero, usN_cons, usN_cons, e]
    omega
  | x :: P, i + 1, y, h => by
    have ih := usN_set (P := P) (i := i) y (by simpa using h)
    have e : at_ (x :: P) (i + 1) = at_ P i := rfl
    rw [List.set_cons_succ, usN_cons, usN_cons, e]
    omega
theorem usN_move {P : List Pl} {g a : Nat} (hg : g < P.length) (ha : a < P.length) (hne : a ≠ g) : usN ((P.set g (at_ P a)).set a default) = usN (P.set g default) := by
  have h1 := usN_set (P := P) (at_ P a) hg
  have h2 := usN_set (P := P.set g (at_ P a)) (i := a) default (by rw [List.length_set]; exact ha)
  have h3 := usN_set (P := P) default hg
  have e : at_ (P.set g (at_ P a)) a = at_ P a := by rw [at_set ha, if_neg (fun q : g = a => hne q.symm)]
  have hd : (default : Pl).u.toNat = 0 := rfl
  rw [e] at h2
  omega
theorem close_ind {Q : List Pl → Nat → Prop}
    (move : ∀ P g a, RH P g → g < P.length → Scan P g a → (at_ P a).u = true → Q (P.set g (at_ P a)) a → Q P g)
    (stop : ∀ P g a, RH P g → g < P.length → Scan P g a → (at_ P a).u = false → Q P g) :
    ∀ (n : Nat) (P : List Pl) (g e : Nat), RH P g → g < P.length → e < P.length → e ≠ g → (at_ P e).u = false → cd P.length g e = n → Q P g := by
  intro n
  induction n using Nat.strongRecOn with
  | _ n ih =>
    intro P g e h hg he hne hf hn
    obtain ⟨a, s⟩ := scan_ex he hne hf
    cases hu : (at_ P a).u with
    | false => exact stop P g a h hg s hu
    | true =>
      obtain ⟨h1, h2⟩ := scan_near hg s hu he hne hf
      refine move P g a h hg s hu (ih (cd P.length a e) (by omega) (P.set g (at_ P a)) a e (scan_move h hg s hu) (by rw [List.length_set]; exact s.lt) (by rw [List.length_set]; exact he) h1 ?_ ?_)
      · rw [at_set he, if_neg (fun q => hne q.symm)]; exact hf
      · rw [List.length_set]
end Go.Proofs.Ythpgaecloecflaa
