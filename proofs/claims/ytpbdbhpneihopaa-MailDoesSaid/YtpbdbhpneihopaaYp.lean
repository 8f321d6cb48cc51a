/- Layer 16: the document's Combine; MailDoes. -/
import Derived.Test.YtpbdbhpneihopaaYn
namespace Go.Proofs.Ytpbdbhpneihopaa
set_option linter.unusedSimpArgs false
set_option linter.unusedVariables false
set_option maxHeartbeats 4000000
set_option maxRecDepth 100000
def preN (k : Ky) : List Ml → Nat
  | [] => 0
  | y :: l => if ltT (kyM y) k then preN k l + 1 else 0
theorem preN_le (k : Ky) : ∀ l, preN k l ≤ l.length
  | [] => Nat.le_refl _
  | y :: l => by have := preN_le k l; simp only [preN]; split <;> simp <;> omega
theorem preN_lt {k : Ky} : ∀ {l : List Ml} {i : Nat}, i < preN k l → ltT (kyM (l.getD i default)) k = true
  | [], i, h => by simp [preN] at h
  | y :: l, 0, h => by
    simp only [preN] at h
    split at h
    · rename_i hh; simpa using hh
    · simp at h
  | y :: l, i + 1, h => by
    simp only [preN] at h
    split at h
    · simpa using preN_lt (l := l) (i := i) (by omega)
    · simp at h
theorem preN_at {k : Ky} : ∀ {l : List Ml}, preN k l < l.length → ltT (kyM (l.getD (preN k l) default)) k = false
  | [], h => by simp at h
  | y :: l, h => by
    simp only [preN] at h ⊢
    split
    · rename_i hh
      rw [if_pos hh] at h
      simpa using preN_at (l := l) (by simpa using h)
    · rename_i hh
      simpa using hh
def putM (l : List Ml) (x : Ml) : List Ml :=
  if preN (kyM x) l < l.length ∧ kyM (l.getD (preN (kyM x) l) default) = kyM x then l.take (preN (kyM x) l) ++ ({ x with d := if x.d ≤ (l.getD (preN (kyM x) l) default).d then x.d else (l.getD (preN (kyM x) l) default).d } :: l.drop (preN (kyM x) l + 1))
  else l.take (preN (kyM x) l) ++ (x :: l.drop (preN (kyM x) l))
theorem kyM_with (x : Ml) (d : Int) : kyM { x with d := d } = kyM x := rfl
theorem putM_cmb (l : List Ml) (x : Ml) : putM (cmb l) x = cmb (l ++ [x]) := by
  have hasc := cmb_asc l
  have hkey := fun k => cmb_key_mem (l := l) (k := k)
  have hd := fun y (h : y ∈ cmb l) => cmb_d h
  have hmem := fun y (h : y ∈ cmb l) => cmb_mem h
  have hlt := fun i => preN_lt (k := kyM x) (l := cmb l) (i := i)
  have hat := preN_at (k := kyM x) (l := cmb l)
  have hle := preN_le (kyM x) (cmb l)
  have kmem : ∀ k, k ∈ kyL (l ++ [x]) ↔ k ∈ kyL l ∨ k = kyM x := by
    intro k
    rw [kyL_snoc]
    split
    · rename_i h; constructor
      · exact .inl
      · rintro (h2 | rfl)
        · exact h2
        · exact h
    · rw [List.mem_append, List.mem_singleton]
  have lDx : ∀ k, lD (l ++ [x]) k = if kyM x = k then (if k ∈ kyL l then (if x.d < lD l k then x.d else lD l k) else x.d) else lD l k := lD_snoc l x
  have htk : ∀ y ∈ (cmb l).take (preN (kyM x) (cmb l)), ltT (kyM y) (kyM x) = true := by
    intro y hy
    obtain ⟨i, hi, rfl⟩ := List.getElem_of_mem hy
    rw [List.length_take] at hi
    have := hlt i (by omega)
    rw [List.getD_eq_getElem?_getD, List.getElem?_eq_getElem (by omega)] at this
    rw [List.getElem_take]
    exact this
  generalize cmb l = A at *
  unfold putM
  generalize preN (kyM x) A = p at *
  have hsplit : A = A.take p ++ A.drop p := (List.take_append_drop p A).symm
  split
  · rename_i hc
    obtain ⟨hp, hk⟩ := hc
    have hdr : A.drop p = A.getD p default :: A.drop (p + 1) := by
      rw [List.drop_eq_getElem_cons hp, List.getD_eq_getElem?_getD, List.getElem?_eq_getElem hp]; rfl
    have hy : A.getD p default ∈ A := by rw [List.getD_eq_getElem?_getD, List.getElem?_eq_getElem hp]; exact List.getElem_mem hp
    generalize A.getD p default = y at *
    have hA : A = A.take p ++ (y :: A.drop (p + 1)) := by rw [← hdr]; exact hsplit
    have hkl : kyM x ∈ kyL l := (hkey _).1 (List.mem_map.2 ⟨y, hy, hk⟩)
    have hdy := hd y hy
    rw [hk] at hdy
    have hmapA : (A.take p ++ ({ x with d := if x.d ≤ y.d then x.d else y.d } :: A.drop (p + 1))).map kyM = A.map kyM := by
      conv => rhs; rw [hA]
      rw [List.map_append, List.map_append, List.map_cons, List.map_cons, kyM_with, hk]
    refine cmb_uniq (by rw [hmapA]; exact hasc) (fun k => ?_) (fun z hz => ?_)
    · rw [hmapA, hkey, kmem]
      constructor
      · exact .inl
      · rintro (h | rfl)
        · exact h
        · exact hkl
    · have hnd : (A.map kyM).Pairwise (fun a b => ltT a b = true) := hasc
      rcases List.mem_append.1 hz with hz | hz
      · have hzA : z ∈ A := List.mem_of_mem_take hz
        have hne : ¬ kyM x = kyM z := by
          intro e
          have := htk z hz
          rw [e, ordrT.irr] at this; cases this
        rw [lDx, if_neg hne]
        exact hd z hzA
      · rcases List.mem_cons.1 hz with rfl | hz
        · rw [kyM_with, lDx, if_pos rfl, if_pos hkl, ← hdy]
          simp only
          split <;> split <;> omega
        · have hzA : z ∈ A := List.mem_of_mem_drop hz
          have hne : ¬ kyM x = kyM z := by
            intro e
            rw [hA, List.map_append, List.map_cons] at hnd
            have := (List.pairwise_cons.1 (List.pairwise_append.1 hnd).2.1).1 (kyM z) (List.mem_map.2 ⟨z, hz, rfl⟩)
            rw [hk, e, ordrT.irr] at this; cases this
          rw [lDx, if_neg hne]
          exact hd z hzA
  · rename_i hc
    have hdrop : ∀ y ∈ A.drop p, ltT (kyM x) (kyM y) = true := by
      intro y hy
      have hp : p < A.length := by
        have := List.length_pos_of_mem hy
        rw [List.length_drop] at this; omega
      have h1 := hat hp
      have h2 : ¬ kyM (A.getD p default) = kyM x := fun e => hc ⟨hp, e⟩
      have hdr : A.drop p = A.getD p default :: A.drop (p + 1) := by
        rw [List.drop_eq_getElem_cons hp, List.getD_eq_getElem?_getD, List.getElem?_eq_getElem hp]; rfl
      have h3 : ltT (kyM x) (kyM (A.getD p default)) = true := by
        cases hq : ltT (kyM x) (kyM (A.getD p default)) with
        | true => rfl
        | false => exact absurd (ordrT.tri _ _ h1 hq) h2
      rw [hdr] at hy
      rcases List.mem_cons.1 hy with rfl | hy
      · exact h3
      · have hnd : (A.map kyM).Pairwise (fun a b => ltT a b = true) := hasc
        rw [hsplit, hdr, List.map_append, List.map_cons] at hnd
        have := (List.pairwise_cons.1 (List.pairwise_append.1 hnd).2.1).1 (kyM y) (List.mem_map.2 ⟨y, hy, rfl⟩)
        exact ordrT.tr _ _ _ h3 this
    have hxl : kyM x ∉ kyL l := by
      intro h
      obtain ⟨y, hy, hk⟩ := List.mem_map.1 ((hkey _).2 h)
      rw [hsplit] at hy
      rcases List.mem_append.1 hy with hy | hy
      · have := htk y hy; rw [hk, ordrT.irr] at this; cases this
      · have := hdrop y hy; rw [hk, ordrT.irr] at this; cases this
    refine cmb_uniq ?_ (fun k => ?_) (fun z hz => ?_)
    · have hnd : (A.map kyM).Pairwise (fun a b => ltT a b = true) := hasc
      rw [hsplit, List.map_append] at hnd
      obtain ⟨a1, a2, a3⟩ := List.pairwise_append.1 hnd
      show List.Pairwise (fun a b => ltT a b = true) _
      rw [List.map_append, List.map_cons]
      refine List.pairwise_append.2 ⟨a1, List.pairwise_cons.2 ⟨fun k hk => ?_, a2⟩, fun a ha b hb => ?_⟩
      · obtain ⟨y, hy, rfl⟩ := List.mem_map.1 hk
        exact hdrop y hy
      · rcases List.mem_cons.1 hb with rfl | hb
        · obtain ⟨y, hy, rfl⟩ := List.mem_map.1 ha
          exact htk y hy
        · exact a3 a ha b hb
    · rw [kmem, ← hkey]
      conv => rhs; rw [hsplit]
      simp only [List.map_append, List.map_cons, List.mem_append, List.mem_cons]
      constructor
      · rintro (h | h | h)
        · exact .inl (.inl h)
        · exact .inr h
        · exact .inl (.inr h)
      · rintro ((h | h) | h)
        · exact .inl h
        · exact .inr (.inr h)
        · exact .inr (.inl h)
    · have hz' : z = x ∨ z ∈ A := by
        rcases List.mem_append.1 hz with hz | hz
        · exact .inr (List.mem_of_mem_take hz)
        · rcases List.mem_cons.1 hz with rfl | hz
          · exact .inl rfl
          · exact .inr (List.mem_of_mem_drop hz)
      rcases hz' with rfl | hzA
      · rw [lDx, if_pos rfl, if_neg hxl]
      · have hne : ¬ kyM x = kyM z := by
          intro e
          exact hxl ((hkey _).1 (List.mem_map.2 ⟨z, hzA, e.symm⟩))
        rw [lDx, if_neg hne]
        exact hd z hzA
end Go.Proofs.Ytpbdbhpneihopaa
