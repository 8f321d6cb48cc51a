import Derived.Test.YtcfhocnbpplecaaUh
namespace Go.Proofs.Ytcfhocnbpplecaa
set_option maxHeartbeats 4000000
set_option maxRecDepth 100000
theorem nsum_app (a b : List Nat) : (a ++ b).sum = a.sum + b.sum := by
  induction a with
  | nil => simp
  | cons x a ih => simp only [List.cons_append, List.sum_cons, ih]; omega
theorem nsum_perm {a b : List Nat} (h : a.Perm b) : a.sum = b.sum := by
  induction h with
  | nil => rfl
  | cons x _ ih => simp only [List.sum_cons, ih]
  | swap x y l => simp only [List.sum_cons]; omega
  | trans _ _ h1 h2 => rw [h1, h2]
theorem nsum_ind (f : Int → Nat) (x : Int) : ∀ D : List Int, D.Nodup → (D.map fun c => f c + if x = c then 1 else 0).sum = (D.map f).sum + if x ∈ D then 1 else 0
  | [], _ => by simp
  | d :: D, h => by
    have ih := nsum_ind f x D (List.nodup_cons.1 h).2
    have hd := (List.nodup_cons.1 h).1
    simp only [List.map_cons, List.sum_cons, ih]
    by_cases e : x = d
    · subst e
      rw [if_pos rfl, if_neg hd, if_pos (by simp)]; omega
    · rw [if_neg e]
      by_cases hx : x ∈ D
      · rw [if_pos hx, if_pos (by simp [hx])]; omega
      · rw [if_neg hx, if_neg (by simp [hx, e])]; omega
theorem nsum_dd (l : List Int) : ((ddI l).map (cnI l)).sum = l.length := by
  refine snocIndI (p := fun l => ((ddI l).map (cnI l)).sum = l.length) (by simp [ddI]) (fun l x ih => ?_) l
  have e : ∀ D : List Int, (D.map (cnI (l ++ [x]))) = D.map fun c => cnI l c + if x = c then 1 else 0 := fun D => List.map_congr_left fun c _ => cnI_snoc l x c
  rw [ddI_snoc, e, List.length_append]
  by_cases h : x ∈ ddI l
  · rw [if_pos h, nsum_ind _ _ _ (ddI_nodup l), if_pos h, ih]; rfl
  · rw [if_neg h, List.map_append, nsum_app, nsum_ind _ _ _ (ddI_nodup l), if_neg h, ih]
    simp only [List.map_cons, List.map_nil, List.sum_cons, List.sum_nil]
    rw [if_pos trivial, cnI_zero (fun e => h ((ddI_mem l x).2 e))]; simp
theorem nsum_rising (l : List Int) : ((rising l).map (cnI l)).sum = l.length := by
  rw [← nsum_dd l, ← sorted_dd]
  exact nsum_perm ((sorted_perm _).map _)
theorem nsum_take (f : Int → Nat) (l : List Int) (i : Nat) : ((l.take i).map f).sum ≤ (l.map f).sum := by
  conv => rhs; rw [← List.take_append_drop i l, List.map_append, nsum_app]
  omega
theorem nsum_snoc (f : Int → Nat) {l : List Int} {i : Nat} (h : i < l.length) : ((l.take (i + 1)).map f).sum = ((l.take i).map f).sum + f (l.getD i 0) := by
  rw [take_snoc 0 h, List.map_append, nsum_app]; simp
theorem odds_add (l : List Txt) : odds l + (reps l).length = l.length := by
  induction l with
  | nil => rfl
  | cons s l ih =>
    unfold odds reps at ih ⊢
    cases h : rp s with
    | none => simp [h]; omega
    | some y => simp [h]; omega
theorem ofR_cn (R : List Rep) (id : Int) : (ofR R id).length = cnI (R.map (·.id)) id := by
  unfold ofR cnI
  rw [List.countP_map, ← List.countP_eq_length_filter]; rfl
theorem rising_nodup (l : List Int) : (rising l).Nodup := (rising_inc l).imp fun h => by omega
theorem rising_lt {l : List Int} {i : Nat} (h : i + 1 < (rising l).length) : (rising l).getD i 0 < (rising l).getD (i + 1) 0 := by
  have := List.pairwise_iff_getElem.1 (rising_inc l) i (i + 1) (by omega) h (by omega)
  rw [List.getD_eq_getElem?_getD, List.getD_eq_getElem?_getD, List.getElem?_eq_getElem h, List.getElem?_eq_getElem (by omega)]
  exact this
end Go.Proofs.Ytcfhocnbpplecaa
