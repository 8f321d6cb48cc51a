import Derived.Test.YtcfhocnbpplecaaHn
import Derived.Test.YtcfhocnbpplecaaNe
import Derived.Test.YtcfhocnbpplecaaKup
import Derived.Test.YtcfhocnbpplecaaSi
namespace Go.Proofs.Ytcfhocnbpplecaa
set_option maxHeartbeats 4000000
set_option maxRecDepth 100000
theorem kfind_out {k : AV} : ∀ {ks : List AV}, (∀ x ∈ ks, keq k x = some false) → kfind k ks = some none
  | [], _ => rfl
  | x :: ks, h => by
    have ih := kfind_out (k := k) (ks := ks) fun y hy => h y (List.mem_cons_of_mem _ hy)
    simp only [kfind, h x (by simp), Option.bind_some, Bool.false_eq_true, if_false, ih, Option.map_some, Option.map_none]
theorem kfind_in {k : AV} : ∀ {ks : List AV} {j : Nat} {x : AV}, (∀ i y, i < j → ks[i]? = some y → keq k y = some false) → ks[j]? = some x → keq k x = some true → kfind k ks = some (some j)
  | [], j, x, _, h, _ => by simp at h
  | y :: ks, 0, x, _, h, hx => by
    simp at h; subst h
    simp only [kfind, hx, Option.bind_some, if_true]
  | y :: ks, j + 1, x, hlt, h, hx => by
    have := hlt 0 y (by omega) rfl
    have ih := kfind_in (k := k) (ks := ks) (j := j) (x := x) (fun i z hi hz => hlt (i + 1) z (by omega) (by simpa using hz)) (by simpa using h) hx
    simp only [kfind, this, Option.bind_some, Bool.false_eq_true, if_false, ih, Option.map_some]
theorem keq_int (a b : Int) : keq (.int .i64 a) (.int .i64 b) = some (decide (a = b)) := by
  simp only [keq, aeq, if_true]; congr 1
theorem kget_iout {n : Int} {ks : List Int} (h : n ∉ ks) : kget 1 (.int .i64 n) (ints ks) = some none := by
  unfold kget
  rw [if_pos (show kOk _ _ = true from rfl)]
  refine kfind_out fun x hx => ?_
  simp only [ints, List.mem_map] at hx
  obtain ⟨y, hy, rfl⟩ := hx
  rw [keq_int, decide_eq_false (fun e => h (by rw [e]; exact hy))]
theorem kget_iin {n : Int} : ∀ {ks : List Int}, n ∈ ks → ∃ j, j < ks.length ∧ ks.getD j 0 = n ∧ kget 1 (.int .i64 n) (ints ks) = some (some j) := by
  intro ks h
  rcases first_ix' (fun i => ks.getD i 0 ≠ n) ks.length with h1 | ⟨m, m1, m2, m3⟩
  · obtain ⟨i, hi, e⟩ := memI.1 h
    exact absurd e (h1 i hi)
  · have m3 : ks.getD m 0 = n := Classical.not_not.1 m3
    refine ⟨m, m1, m3, ?_⟩
    unfold kget
    rw [if_pos (show kOk _ _ = true from rfl)]
    have hat : ∀ i, i < ks.length → (ints ks)[i]? = some (.int .i64 (ks.getD i 0)) := fun i hi => by simp [ints, List.getD_eq_getElem?_getD, hi]
    refine kfind_in (fun i y hi hy => ?_) (hat m m1) (by rw [keq_int, decide_eq_true m3.symm])
    rw [hat i (by omega)] at hy
    injection hy with hy
    subst hy
    rw [keq_int, decide_eq_false (fun e => m2 i hi e.symm)]
theorem snocIndI {α : Type} {p : List α → Prop} (h0 : p []) (h1 : ∀ l x, p l → p (l ++ [x])) : ∀ l, p l := by
  have key : ∀ l : List α, p l.reverse := by
    intro l
    induction l with
    | nil => exact h0
    | cons x l ih => rw [List.reverse_cons]; exact h1 _ _ ih
  intro l
  simpa using key l.reverse
def ddI (l : List Int) : List Int := l.foldl (fun a x => if x ∈ a then a else a ++ [x]) []
theorem ddI_snoc (l : List Int) (x : Int) : ddI (l ++ [x]) = if x ∈ ddI l then ddI l else ddI l ++ [x] := by unfold ddI; rw [List.foldl_append]; rfl
theorem ddI_mem (l : List Int) (x : Int) : x ∈ ddI l ↔ x ∈ l := by
  refine snocIndI (p := fun l => x ∈ ddI l ↔ x ∈ l) (by simp [ddI]) (fun l y ih => ?_) l
  · rw [ddI_snoc]
    by_cases h : y ∈ ddI l
    · rw [if_pos h, List.mem_append, List.mem_singleton, ih]
      constructor
      · exact .inl
      · rintro (h1 | rfl)
        · exact h1
        · exact ih.1 h
    · rw [if_neg h, List.mem_append, List.mem_append, ih]
theorem ddI_len (l : List Int) : (ddI l).length ≤ l.length := by
  refine snocIndI (p := fun l => (ddI l).length ≤ l.length) (by simp [ddI]) (fun l y ih => ?_) l
  · rw [ddI_snoc]
    split
    · simp; omega
    · simp; omega
theorem ddI_nodup (l : List Int) : (ddI l).Nodup := by
  refine snocIndI (p := fun l => (ddI l).Nodup) (by simp [ddI]) (fun l y ih => ?_) l
  · rw [ddI_snoc]
    split
    · exact ih
    · rename_i h
      rw [List.nodup_append]
      refine ⟨ih, by simp, fun a ha b hb => ?_⟩
      rw [List.mem_singleton] at hb
      subst hb
      exact fun e => h (e ▸ ha)
def cnI (l : List Int) (c : Int) : Nat := l.countP fun x => decide (x = c)
theorem cnI_snoc (l : List Int) (x c : Int) : cnI (l ++ [x]) c = cnI l c + if x = c then 1 else 0 := by
  unfold cnI; rw [List.countP_append]
  by_cases h : x = c
  · simp [h]
  · simp [h]
theorem cnI_len (l : List Int) (c : Int) : cnI l c ≤ l.length := List.countP_le_length
theorem cnI_pos (l : List Int) (c : Int) : 0 < cnI l c ↔ c ∈ l := by
  unfold cnI; rw [List.countP_pos_iff]
  constructor
  · rintro ⟨a, h1, h2⟩; exact of_decide_eq_true h2 ▸ h1
  · intro h; exact ⟨c, h, by simp⟩
theorem cnI_zero {l : List Int} {c : Int} (h : c ∉ l) : cnI l c = 0 := by
  have := (cnI_pos l c).1
  rcases Nat.eq_zero_or_pos (cnI l c) with h1 | h1
  · exact h1
  · exact absurd (this h1) h
def vsI (l : List Int) : List AV := (ddI l).map fun c => .int .i64 (cnI l c : Nat)
theorem vsI_len (l : List Int) : (vsI l).length = (ddI l).length := by simp [vsI]
theorem vsI_at {l : List Int} {j : Nat} (h : j < (ddI l).length) : (vsI l)[j]? = some (.int .i64 (cnI l ((ddI l).getD j 0) : Nat)) := by
  unfold vsI
  rw [List.getElem?_map, List.getD_eq_getElem?_getD, List.getElem?_eq_getElem h]; rfl
theorem vsI_out {l : List Int} {x : Int} (h : x ∉ ddI l) : vsI (l ++ [x]) = vsI l ++ [.int .i64 1] := by
  unfold vsI
  rw [ddI_snoc, if_neg h, List.map_append, List.map_cons, List.map_nil]
  congr 1
  · refine List.map_congr_left fun c hc => ?_
    rw [cnI_snoc, if_neg (fun e => h (by rw [e]; exact hc))]; rfl
  · rw [cnI_snoc, if_pos rfl, cnI_zero (fun e => h ((ddI_mem _ _).2 e))]; rfl
theorem vsI_in {l : List Int} {x : Int} {j : Nat} (h : x ∈ ddI l) (hj : j < (ddI l).length) (e : (ddI l).getD j 0 = x) : vsI (l ++ [x]) = (vsI l).set j (.int .i64 ((cnI l x : Nat) + 1)) := by
  have e' : (ddI l)[j] = x := by rw [List.getD_eq_getElem?_getD, List.getElem?_eq_getElem hj] at e; exact e
  unfold vsI
  rw [ddI_snoc, if_pos h]
  refine List.ext_getElem (by simp) fun i h1 h2 => ?_
  rw [List.getElem_set]
  simp only [List.getElem_map, cnI_snoc]
  rw [List.length_map] at h1
  by_cases hij : j = i
  · subst hij
    rw [if_pos rfl, if_pos e'.symm, e']; rfl
  · rw [if_neg hij, if_neg]
    · rfl
    · intro hh
      exact hij ((List.getElem_inj (ddI_nodup l)).1 (by rw [e', ← hh]))
theorem ddI_ix {l : List Int} {x : Int} (h : x ∈ ddI l) : ∃ j, j < (ddI l).length ∧ (ddI l).getD j 0 = x ∧ kget 1 (.int .i64 x) (ints (ddI l)) = some (some j) ∧ (vsI l)[j]? = some (.int .i64 (cnI l x : Nat)) := by
  obtain ⟨j, h1, h2, h3⟩ := kget_iin h
  exact ⟨j, h1, h2, h3, by rw [vsI_at h1, h2]⟩
theorem nrm_risingI (l : List Int) : nrmL ltI l = rising l := by
  refine inc_ext ?_ (rising_inc l) fun x => by rw [nrm_mem ordrI, rising_mem]
  exact (nrm_asc ordrI l).imp fun h => by simpa [ltI] using h
theorem sorted_nodup {l : List Int} (h : l.Nodup) : asc ltI (sorted ltI l) := by
  have h1 := sorted_srtd ordrI l
  have h2 : (sorted ltI l).Nodup := (sorted_perm l).nodup_iff.2 h
  refine List.Pairwise.imp₂ (R := fun x y => ltI y x = false) (S := fun x y : Int => x ≠ y) (fun x y hx hy => ?_) h1 h2
  simp only [ltI, decide_eq_true_eq, decide_eq_false_iff_not] at *
  omega
theorem sorted_dd (l : List Int) : sorted ltI (ddI l) = rising l := by
  rw [← nrm_risingI]
  refine asc_ext ordrI (sorted_nodup (ddI_nodup l)) (nrm_asc ordrI l) fun x => ?_
  rw [(sorted_perm _).mem_iff, ddI_mem, nrm_mem ordrI]
theorem sorted_congrI {a b : List Int} (h : a.Perm b) : sorted ltI a = sorted ltI b := by
  refine List.Perm.eq_of_pairwise (le := fun x y => ltI y x = false) (fun x y _ _ h1 h2 => ordrI.tri x y h2 h1) (sorted_srtd ordrI a) (sorted_srtd ordrI b) (((sorted_perm a).trans h).trans (sorted_perm b).symm)
end Go.Proofs.Ytcfhocnbpplecaa
