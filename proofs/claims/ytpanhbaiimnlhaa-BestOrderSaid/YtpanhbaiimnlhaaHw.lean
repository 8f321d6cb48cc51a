/- What is put in its place in a row that is in order. -/
import Derived.Test.YtpanhbaiimnlhaaHt
namespace Go.Proofs.Ytpanhbaiimnlhaa
set_option linter.unusedSimpArgs false
set_option linter.unusedVariables false
open Go.Sort (SWO)
section
variable {α : Type} [Inhabited α] (lt : α → α → Bool)
def upO (o : List α) (x : α) : Nat := (o.takeWhile fun y => !lt x y).length
def insO (o : List α) (x : α) : List α := o.take (upO lt o x) ++ x :: o.drop (upO lt o x)
variable {lt}
theorem upO_le {β : Type} {lt : β → β → Bool} (o : List β) (x : β) : upO lt o x ≤ o.length := (List.takeWhile_prefix _).length_le
theorem upO_before : ∀ {o : List α} {x : α} {i : Nat}, i < upO lt o x → lt x (o.getD i default) = false
  | [], x, i, h => by simp [upO] at h
  | y :: o, x, i, h => by
    unfold upO at h
    rw [List.takeWhile_cons] at h
    cases hy : lt x y with
    | false =>
      rw [hy] at h
      cases i with
      | zero => exact hy
      | succ i => exact upO_before (o := o) (x := x) (i := i) (by simpa [upO] using h)
    | true => rw [hy] at h; simp at h
theorem upO_at : ∀ {o : List α} {x : α}, upO lt o x < o.length → lt x (o.getD (upO lt o x) default) = true
  | [], x, h => by simp [upO] at h
  | y :: o, x, h => by
    unfold upO at h ⊢
    rw [List.takeWhile_cons] at h ⊢
    cases hy : lt x y with
    | false =>
      rw [hy] at h
      have := upO_at (o := o) (x := x) (by simpa [upO] using h)
      simpa [upO] using this
    | true => simpa using hy
theorem insO_perm {β : Type} {lt : β → β → Bool} (o : List β) (x : β) : (insO lt o x).Perm (x :: o) := by
  unfold insO
  refine (List.perm_middle).trans ?_
  rw [List.take_append_drop]
theorem insO_len {β : Type} {lt : β → β → Bool} (o : List β) (x : β) : (insO lt o x).length = o.length + 1 := by rw [(insO_perm o x).length_eq]; simp
theorem insO_srtd (O : Ordr lt) {o : List α} (h : srtd lt o) (x : α) : srtd lt (insO lt o x) := by
  unfold insO srtd
  rw [List.pairwise_append, List.pairwise_cons]
  have hbef : ∀ a ∈ o.take (upO lt o x), lt x a = false := by
    intro a ha
    obtain ⟨i, hi, rfl⟩ := List.getElem_of_mem ha
    rw [List.length_take] at hi
    have := upO_before (lt := lt) (o := o) (x := x) (i := i) (by omega)
    rw [List.getD_eq_getElem?_getD, List.getElem?_eq_getElem (by omega)] at this
    simpa using this
  have haft : ∀ a ∈ o.drop (upO lt o x), lt a x = false := by
    intro a ha
    by_cases hu : upO lt o x < o.length
    · have h1 := upO_at hu
      have h2 : o.drop (upO lt o x) = o.getD (upO lt o x) default :: o.drop (upO lt o x + 1) := by
        rw [List.drop_eq_getElem_cons hu, List.getD_eq_getElem?_getD, List.getElem?_eq_getElem hu]; rfl
      have h3 : srtd lt (o.drop (upO lt o x)) := List.Pairwise.sublist (List.drop_sublist _ _) h
      rw [h2] at ha h3
      rcases List.mem_cons.1 ha with rfl | ha
      · exact O.asym h1
      · have h4 := (List.pairwise_cons.1 h3).1 a ha
        exact O.swo.ntrans _ _ _ h4 (O.asym h1)
    · rw [List.drop_eq_nil_of_le (by omega)] at ha; cases ha
  refine ⟨List.Pairwise.sublist (List.take_sublist _ _) h, ⟨haft, List.Pairwise.sublist (List.drop_sublist _ _) h⟩, fun a ha b hb => ?_⟩
  rcases List.mem_cons.1 hb with rfl | hb
  · exact hbef a ha
  · exact O.swo.ntrans _ _ _ (haft b hb) (hbef a ha)
theorem insO_sorted (O : Ordr lt) (l : List α) (x : α) : insO lt (sorted lt l) x = sorted lt (x :: l) :=
  srtd_uni O (insO_srtd O (sorted_srtd O l) x) (sorted_srtd O _) (((insO_perm _ x).trans (List.Perm.cons x (sorted_perm l))).trans (sorted_perm _).symm)
theorem sorted_cong {β : Type} {lt : β → β → Bool} (O : Ordr lt) {a b : List β} (h : a.Perm b) : sorted lt a = sorted lt b :=
  srtd_uni O (sorted_srtd O a) (sorted_srtd O b) (((sorted_perm a).trans h).trans (sorted_perm b).symm)
structure QOk (lt : α → α → Bool) (d : Array α) (S : List α) : Prop where
  hp : Hp lt 0 d.size d
  so : S = sorted lt d.toList
theorem QOk.len {d : Array α} {S : List α} (h : QOk lt d S) : S.length = d.size := by rw [h.so, sorted_len]; simp
theorem QOk.nil : QOk lt (#[] : Array α) [] := ⟨fun k hk => by simp at hk, by simp [sorted]⟩
theorem QOk.put (O : Ordr lt) {d : Array α} {S : List α} (h : QOk lt d S) (x : α) : QOk lt (hpPut lt d x) (insO lt S x) := by
  refine ⟨hpPut_hp O.swo x h.hp, ?_⟩
  rw [h.so, insO_sorted O]
  exact sorted_cong O (hpPut_perm d x).symm
theorem QOk.take (O : Ordr lt) {d : Array α} {S : List α} (h : QOk lt d S) (h0 : 0 < d.size) : S = d[0]! :: sorted lt (hpPop lt d).toList ∧ QOk lt (hpPop lt d) (sorted lt (hpPop lt d).toList) := by
  refine ⟨?_, hpPop_hp O.swo h0 h.hp, rfl⟩
  rw [h.so]
  refine srtd_uni O (sorted_srtd O _) ?_ (((sorted_perm _).trans (hpPop_perm h0).symm).trans (List.Perm.cons _ (sorted_perm _).symm))
  refine List.Pairwise.cons (fun x hx => ?_) (sorted_srtd O _)
  have hx2 : x ∈ d.toList := (hpPop_perm (lt := lt) h0).mem_iff.1 (List.mem_cons_of_mem _ ((sorted_perm _).mem_iff.1 hx))
  obtain ⟨k, hk, rfl⟩ := List.getElem_of_mem hx2
  have := hp_least O.swo h.hp k (by simpa using hk)
  rwa [getElem!_pos d k (by simpa using hk)] at this
theorem QOk.cut (O : Ordr lt) {d : Array α} {S : List α} (h : QOk lt d S) (h0 : 0 < d.size) : S = sorted lt (hpRem lt d (lst lt d d.size)).toList ++ [d[lst lt d d.size]!] ∧ QOk lt (hpRem lt d (lst lt d d.size)) (sorted lt (hpRem lt d (lst lt d d.size)).toList) := by
  have hl := lst_lt (lt := lt) d d.size h0
  obtain ⟨h1, h2, h3⟩ := hpRem_spec O.swo hl h.hp
  refine ⟨?_, h1, rfl⟩
  rw [h.so]
  refine srtd_uni O (sorted_srtd O _) ?_ (((sorted_perm _).trans h2.symm).trans (((List.Perm.cons _ (sorted_perm _).symm)).trans (List.perm_append_singleton _ _).symm))
  unfold srtd
  rw [List.pairwise_append]
  refine ⟨sorted_srtd O _, List.pairwise_singleton _ _, fun a ha b hb => ?_⟩
  rw [List.mem_singleton] at hb
  subst hb
  have hx2 : a ∈ d.toList := h2.mem_iff.1 (List.mem_cons_of_mem _ ((sorted_perm _).mem_iff.1 ha))
  obtain ⟨k, hk, rfl⟩ := List.getElem_of_mem hx2
  have := lst_max O.swo d d.size k (by simpa using hk)
  rwa [getElem!_pos d k (by simpa using hk)] at this
end
end Go.Proofs.Ytpanhbaiimnlhaa
