/- Messages, combined: of each key the least; by thought alone. -/
import Derived.Test.YtpbdbhpneihopaaSm
import Derived.Test.YtpbdbhpneihopaaKh
namespace Go.Proofs.Ytpbdbhpneihopaa
set_option linter.unusedSimpArgs false
set_option linter.unusedVariables false
set_option maxHeartbeats 4000000
set_option maxRecDepth 100000
def kyM (m : Ml) : Ky := ⟨m.s, m.b, m.v⟩
def ddK (l : List Ky) : List Ky := l.foldl (fun a x => if x ∈ a then a else a ++ [x]) []
theorem ddK_snoc (l : List Ky) (x : Ky) : ddK (l ++ [x]) = if x ∈ ddK l then ddK l else ddK l ++ [x] := by unfold ddK; rw [List.foldl_append]; rfl
theorem snocIndK {α : Type} {p : List α → Prop} (h0 : p []) (h1 : ∀ l x, p l → p (l ++ [x])) : ∀ l, p l := by
  have key : ∀ l : List α, p l.reverse := by
    intro l
    induction l with
    | nil => exact h0
    | cons x l ih => rw [List.reverse_cons]; exact h1 _ _ ih
  intro l
  simpa using key l.reverse
theorem ddK_mem (l : List Ky) (x : Ky) : x ∈ ddK l ↔ x ∈ l := by
  refine snocIndK (p := fun l => x ∈ ddK l ↔ x ∈ l) (by simp [ddK]) (fun l y ih => ?_) l
  · rw [ddK_snoc]
    by_cases h : y ∈ ddK l
    · rw [if_pos h, List.mem_append, List.mem_singleton, ih]
      constructor
      · exact .inl
      · rintro (h1 | rfl)
        · exact h1
        · exact ih.1 h
    · rw [if_neg h, List.mem_append, List.mem_append, ih]
theorem ddK_len (l : List Ky) : (ddK l).length ≤ l.length := by
  refine snocIndK (p := fun l => (ddK l).length ≤ l.length) (by simp [ddK]) (fun l y ih => ?_) l
  · rw [ddK_snoc]
    split
    · simp; omega
    · simp; omega
theorem ddK_nodup (l : List Ky) : (ddK l).Nodup := by
  refine snocIndK (p := fun l => (ddK l).Nodup) (by simp [ddK]) (fun l y ih => ?_) l
  · rw [ddK_snoc]
    split
    · exact ih
    · rename_i h
      rw [List.nodup_append]
      refine ⟨ih, by simp, fun a ha b hb => ?_⟩
      rw [List.mem_singleton] at hb
      subst hb
      exact fun e => h (e ▸ ha)
def kyL (ms : List Ml) : List Ky := ddK (ms.map kyM)
theorem kyL_snoc (ms : List Ml) (m : Ml) : kyL (ms ++ [m]) = if kyM m ∈ kyL ms then kyL ms else kyL ms ++ [kyM m] := by
  unfold kyL; rw [List.map_append]; exact ddK_snoc _ _
theorem kyL_mem (ms : List Ml) (k : Ky) : k ∈ kyL ms ↔ ∃ m ∈ ms, kyM m = k := by
  unfold kyL; rw [ddK_mem]; simp
theorem kyL_len (ms : List Ml) : (kyL ms).length ≤ ms.length := by
  have := ddK_len (ms.map kyM); rw [List.length_map] at this; exact this
theorem kyL_nodup (ms : List Ml) : (kyL ms).Nodup := ddK_nodup _
def lst : List Int → Int
  | [] => 0
  | x :: r => r.foldl (fun a b => if b < a then b else a) x
def lD (ms : List Ml) (k : Ky) : Int := lst ((ms.filter fun m => decide (kyM m = k)).map (·.d))
theorem lst_snoc {l : List Int} (h : l ≠ []) (x : Int) : lst (l ++ [x]) = if x < lst l then x else lst l := by
  obtain ⟨a, r, rfl⟩ := List.exists_cons_of_ne_nil h
  simp only [lst, List.cons_append, List.foldl_append, List.foldl_cons, List.foldl_nil]
  rfl
theorem lD_snoc (ms : List Ml) (m : Ml) (k : Ky) : lD (ms ++ [m]) k = if kyM m = k then (if k ∈ kyL ms then (if m.d < lD ms k then m.d else lD ms k) else m.d) else lD ms k := by
  unfold lD
  rw [List.filter_append, List.map_append]
  by_cases h : kyM m = k
  · rw [if_pos h, List.filter_cons_of_pos (by simpa using h), List.filter_nil, List.map_cons, List.map_nil]
    by_cases hk : k ∈ kyL ms
    · rw [if_pos hk]
      refine lst_snoc ?_ _
      obtain ⟨m', h1, h2⟩ := (kyL_mem ms k).1 hk
      intro he
      have : m'.d ∈ (ms.filter fun m => decide (kyM m = k)).map (·.d) := List.mem_map.2 ⟨m', List.mem_filter.2 ⟨h1, by simpa using h2⟩, rfl⟩
      rw [he] at this
      cases this
    · rw [if_neg hk]
      have : (ms.filter fun m => decide (kyM m = k)) = [] := by
        rw [List.filter_eq_nil_iff]
        intro m' h1 h2
        exact hk ((kyL_mem ms k).2 ⟨m', h1, by simpa using h2⟩)
      rw [this]
      rfl
  · rw [if_neg h, List.filter_cons_of_neg (by simpa using h), List.filter_nil, List.map_nil, List.append_nil]
def kcs (l : List Ky) : List AV := l.map fun k => .agg [.int .i64 k.s, .int .i64 k.d, .int .i64 k.v]
def vcs (ms : List Ml) : List AV := (kyL ms).map fun k => .int .i64 (lD ms k)
theorem kcs_len (l : List Ky) : (kcs l).length = l.length := by simp [kcs]
theorem vcs_len (ms : List Ml) : (vcs ms).length = (kyL ms).length := by simp [vcs]
theorem kcs_idlt' (n : Nat) : ∀ l : List Ky, allL (pidlt n) (kcs l) = true
  | [] => rfl
  | k :: l => by
    have ih := kcs_idlt' n l
    unfold kcs at ih ⊢
    simp only [List.map_cons, allL, ih, AV.allv, pidlt, Bool.and_self]
theorem vcs_idlt' (n : Nat) (ms : List Ml) : allL (pidlt n) (vcs ms) = true := by
  unfold vcs
  generalize kyL ms = l
  induction l with
  | nil => rfl
  | cons k l ih => simp only [List.map_cons, allL, ih, AV.allv, pidlt, Bool.and_self]
theorem kcs_ren' (f : Nat → Nat) : ∀ l : List Ky, mapL (ren1 f) (kcs l) = kcs l
  | [] => rfl
  | k :: l => by
    have ih := kcs_ren' f l
    unfold kcs at ih ⊢
    simp only [List.map_cons, mapL, AV.mapv, ren1, ih]
theorem vcs_ren' (f : Nat → Nat) (ms : List Ml) : mapL (ren1 f) (vcs ms) = vcs ms := by
  unfold vcs
  generalize kyL ms = l
  induction l with
  | nil => rfl
  | cons k l ih => simp only [List.map_cons, mapL, AV.mapv, ren1, ih]
attribute [go_sem] kcs_ren' vcs_ren' kcs_len vcs_len kcs_idlt' vcs_idlt'
theorem kcs_snoc (l : List Ky) (k : Ky) : kcs l ++ [.agg [.int .i64 k.s, .int .i64 k.d, .int .i64 k.v]] = kcs (l ++ [k]) := by simp [kcs]
theorem keq_ky (a b : Ky) : keq (.agg [.int .i64 a.s, .int .i64 a.d, .int .i64 a.v]) (.agg [.int .i64 b.s, .int .i64 b.d, .int .i64 b.v]) = some (decide (a = b)) := by
  obtain ⟨a1, a2, a3⟩ := a
  obtain ⟨b1, b2, b3⟩ := b
  simp only [keq, aeqL, aeq, if_true, Option.bind_some, Option.map_some, Bool.and_true]
  congr 1
  rw [Bool.eq_iff_iff]
  simp
theorem kfind_outK {k : AV} : ∀ {ks : List AV}, (∀ x ∈ ks, keq k x = some false) → kfind k ks = some none
  | [], _ => rfl
  | x :: ks, h => by
    have ih := kfind_outK (k := k) (ks := ks) fun y hy => h y (List.mem_cons_of_mem _ hy)
    simp only [kfind, h x (by simp), Option.bind_some, Bool.false_eq_true, if_false, ih, Option.map_some, Option.map_none]
theorem kfind_inK {k : AV} : ∀ {ks : List AV} {j : Nat} {x : AV}, (∀ i y, i < j → ks[i]? = some y → keq k y = some false) → ks[j]? = some x → keq k x = some true → kfind k ks = some (some j)
  | [], j, x, _, h, _ => by simp at h
  | y :: ks, 0, x, _, h, hx => by
    simp at h; subst h
    simp only [kfind, hx, Option.bind_some, if_true]
  | y :: ks, j + 1, x, hlt, h, hx => by
    have := hlt 0 y (by omega) rfl
    have ih := kfind_inK (k := k) (ks := ks) (j := j) (x := x) (fun i z hi hz => hlt (i + 1) z (by omega) (by simpa using hz)) (by simpa using h) hx
    simp only [kfind, this, Option.bind_some, Bool.false_eq_true, if_false, ih, Option.map_some]
theorem kget_kout {k : Ky} {l : List Ky} (h : k ∉ l) : kget 16 (.agg [.int .i64 k.s, .int .i64 k.d, .int .i64 k.v]) (kcs l) = some none := by
  unfold kget
  rw [if_pos (show kOk _ _ = true from rfl)]
  refine kfind_outK fun x hx => ?_
  simp only [kcs, List.mem_map] at hx
  obtain ⟨y, hy, rfl⟩ := hx
  rw [keq_ky, decide_eq_false (fun e => h (by rw [e]; exact hy))]
theorem kget_kin {k : Ky} {l : List Ky} (hn : l.Nodup) (h : k ∈ l) : ∃ j, j < l.length ∧ l[j]? = some k ∧ kget 16 (.agg [.int .i64 k.s, .int .i64 k.d, .int .i64 k.v]) (kcs l) = some (some j) := by
  obtain ⟨j, hj, e⟩ := List.mem_iff_getElem.1 h
  refine ⟨j, hj, by rw [List.getElem?_eq_getElem hj, e], ?_⟩
  unfold kget
  rw [if_pos (show kOk _ _ = true from rfl)]
  have hat : ∀ i (hi : i < l.length), (kcs l)[i]? = some (.agg [.int .i64 l[i].s, .int .i64 l[i].d, .int .i64 l[i].v]) := fun i hi => by simp [kcs, List.getElem?_eq_getElem hi]
  refine kfind_inK (fun i y hi hy => ?_) (hat j hj) (by rw [keq_ky, decide_eq_true e.symm])
  rw [hat i (by omega)] at hy
  injection hy with hy
  subst hy
  rw [keq_ky, decide_eq_false]
  intro h
  have := List.pairwise_iff_getElem.1 hn i j (by omega) hj hi
  exact this (h.symm.trans e.symm)
theorem vcs_at {ms : List Ml} {j : Nat} {k : Ky} (h : (kyL ms)[j]? = some k) : (vcs ms)[j]? = some (.int .i64 (lD ms k)) := by
  unfold vcs; rw [List.getElem?_map, h]; rfl
theorem vcs_keep {ms : List Ml} {m : Ml} (h : kyM m ∈ kyL ms) (hd : ¬ m.d < lD ms (kyM m)) : vcs (ms ++ [m]) = vcs ms := by
  unfold vcs
  rw [kyL_snoc, if_pos h]
  refine List.map_congr_left fun k hk => ?_
  rw [lD_snoc]
  by_cases e : kyM m = k
  · subst e; rw [if_pos rfl, if_pos hk, if_neg hd]
  · rw [if_neg e]
theorem vcs_less {ms : List Ml} {m : Ml} {j : Nat} (h : kyM m ∈ kyL ms) (hj : (kyL ms)[j]? = some (kyM m)) (hd : m.d < lD ms (kyM m)) : vcs (ms ++ [m]) = (vcs ms).set j (.int .i64 m.d) := by
  unfold vcs
  rw [kyL_snoc, if_pos h]
  refine List.ext_getElem (by simp) fun i h1 h2 => ?_
  rw [List.length_map] at h1
  rw [List.getElem_set]
  simp only [List.getElem_map, lD_snoc]
  obtain ⟨hjl, hje⟩ := List.getElem?_eq_some_iff.1 hj
  by_cases hij : j = i
  · subst hij
    rw [if_pos rfl, if_pos hje.symm, if_pos (by rw [hje]; exact h), hje, if_pos hd]
  · rw [if_neg hij, if_neg]
    intro hh
    exact hij ((List.getElem_inj (kyL_nodup ms) (h₀ := hjl) (h₁ := h1)).1 (hje.trans hh))
theorem vcs_new {ms : List Ml} {m : Ml} (h : kyM m ∉ kyL ms) : vcs (ms ++ [m]) = vcs ms ++ [.int .i64 m.d] := by
  unfold vcs
  rw [kyL_snoc, if_neg h, List.map_append, List.map_cons, List.map_nil, lD_snoc, if_pos rfl, if_neg h]
  congr 1
  refine List.map_congr_left fun k hk => ?_
  rw [lD_snoc, if_neg (fun e => h (by rw [e]; exact hk))]
end Go.Proofs.Ytpbdbhpneihopaa
