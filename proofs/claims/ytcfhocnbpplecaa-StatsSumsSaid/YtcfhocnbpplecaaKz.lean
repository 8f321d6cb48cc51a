import Derived.Test.YtcfhocnbpplecaaKx
namespace Go.Proofs.Ytcfhocnbpplecaa
def flat : AV → Bool
  | .int _ _ | .bool _ | .str _ => true
  | _ => false
section
variable {l : List AV}
theorem flat_cases {v : AV} (h : flat v = true) : (∃ k n, v = .int k n) ∨ (∃ b, v = .bool b) ∨ (∃ s, v = .str s) := by
  cases v <;> simp [flat] at h
  · exact .inr (.inl ⟨_, rfl⟩)
  · exact .inl ⟨_, _, rfl⟩
  · exact .inr (.inr ⟨_, rfl⟩)
theorem flat_allL {p : AV → Bool} (hi : ∀ k n, p (.int k n) = true) (hb : ∀ b, p (.bool b) = true) (hs : ∀ s, p (.str s) = true) : ∀ {l : List AV}, l.all flat = true → allL p l = true
  | [], _ => rfl
  | v :: l, h => by
    simp only [List.all_cons, Bool.and_eq_true] at h
    rw [allL, flat_allL hi hb hs h.2, Bool.and_true]
    rcases flat_cases h.1 with ⟨k, n, rfl⟩ | ⟨b, rfl⟩ | ⟨s, rfl⟩
    · exact hi k n
    · exact hb b
    · exact hs s
theorem flat_mapL {f : AV → AV} (hi : ∀ k n, f (.int k n) = .int k n) (hb : ∀ b, f (.bool b) = .bool b) (hs : ∀ s, f (.str s) = .str s) : ∀ {l : List AV}, l.all flat = true → mapL f l = l
  | [], _ => rfl
  | v :: l, h => by
    simp only [List.all_cons, Bool.and_eq_true] at h
    rw [mapL, flat_mapL hi hb hs h.2]
    rcases flat_cases h.1 with ⟨k, n, rfl⟩ | ⟨b, rfl⟩ | ⟨s, rfl⟩
    · simp only [AV.mapv, hi]
    · simp only [AV.mapv, hb]
    · simp only [AV.mapv, hs]
theorem flat_noidL (h : l.all flat = true) : noidL l = true := flat_allL (fun _ _ => rfl) (fun _ => rfl) (fun _ => rfl) h
theorem flat_noinlL (h : l.all flat = true) : noinlL l = true := flat_allL (fun _ _ => rfl) (fun _ => rfl) (fun _ => rfl) h
theorem flat_idltL {n : Nat} (h : l.all flat = true) : idltL n l = true := flat_allL (fun _ _ => rfl) (fun _ => rfl) (fun _ => rfl) h
theorem flat_noimmL (h : l.all flat = true) : allL pnoimm l = true := flat_allL (fun _ _ => rfl) (fun _ => rfl) (fun _ => rfl) h
theorem flat_frzL (h : l.all flat = true) : frzL l = l := flat_mapL (fun _ _ => rfl) (fun _ => rfl) (fun _ => rfl) h
theorem flat_renL {r : Nat → Nat} (h : l.all flat = true) : renL r l = l := flat_mapL (fun _ _ => rfl) (fun _ => rfl) (fun _ => rfl) h
theorem flat_idsL : ∀ {l : List AV}, l.all flat = true → idsL l = []
  | [], _ => rfl
  | v :: l, h => by
    simp only [List.all_cons, Bool.and_eq_true] at h
    rw [idsL, flat_idsL h.2, List.append_nil]
    rcases flat_cases h.1 with ⟨k, n, rfl⟩ | ⟨b, rfl⟩ | ⟨s, rfl⟩ <;> rfl
theorem flat_fzL {hp : List Blk} : ∀ {l : List AV}, l.all flat = true → fzL hp l = some l
  | [], _ => rfl
  | v :: l, h => by
    simp only [List.all_cons, Bool.and_eq_true] at h
    rw [fzL, flat_fzL h.2]
    rcases flat_cases h.1 with ⟨k, n, rfl⟩ | ⟨b, rfl⟩ | ⟨s, rfl⟩ <;> rfl
theorem flat_pkL {n : Nat} : ∀ {l : List AV} {hp : List Blk}, l.all flat = true → pkL n hp l = some (l, hp)
  | [], _, _ => rfl
  | v :: l, hp, h => by
    simp only [List.all_cons, Bool.and_eq_true] at h
    rw [pkL]
    rcases flat_cases h.1 with ⟨k, m, rfl⟩ | ⟨b, rfl⟩ | ⟨s, rfl⟩ <;> simp only [pk, Option.bind_some, flat_pkL h.2, Option.map_some]
theorem flat_pksL : ∀ {l : List AV} {hp : List Blk}, l.all flat = true → pksL hp l = some (l, hp)
  | [], _, _ => rfl
  | v :: l, hp, h => by
    simp only [List.all_cons, Bool.and_eq_true] at h
    rw [pksL]
    rcases flat_cases h.1 with ⟨k, m, rfl⟩ | ⟨b, rfl⟩ | ⟨s, rfl⟩ <;> simp only [pks, pk, Option.bind_some, flat_pksL h.2, Option.map_some]
theorem flat_thawL : ∀ {l : List AV} {hp : List Blk}, l.all flat = true → thawL hp l = (l, hp)
  | [], _, _ => rfl
  | v :: l, hp, h => by
    simp only [List.all_cons, Bool.and_eq_true] at h
    rcases flat_cases h.1 with ⟨k, m, rfl⟩ | ⟨b, rfl⟩ | ⟨s, rfl⟩ <;> simp only [thawL, thaw, flat_thawL h.2]
theorem flat_okc : ∀ {l : List AV}, l.all flat = true → l.all AV.okc = true
  | [], _ => rfl
  | v :: l, h => by
    simp only [List.all_cons, Bool.and_eq_true] at h ⊢
    refine ⟨?_, flat_okc h.2⟩
    rcases flat_cases h.1 with ⟨k, m, rfl⟩ | ⟨b, rfl⟩ | ⟨s, rfl⟩ <;> rfl
end
def ints (l : List Int) : List AV := l.map (.int .i64)
theorem ints_length (l : List Int) : (ints l).length = l.length := by simp [ints]
theorem ints_append (a b : List Int) : ints a ++ ints b = ints (a ++ b) := by simp [ints]
theorem ints_drop (l : List Int) (n : Nat) : (ints l).drop n = ints (l.drop n) := by simp [ints]
theorem ints_take (l : List Int) (n : Nat) : (ints l).take n = ints (l.take n) := by simp [ints]
theorem ints_snoc (l : List Int) (x : Int) : ints l ++ [.int .i64 x] = ints (l ++ [x]) := by simp [ints]
theorem ints_set (l : List Int) (n : Nat) (x : Int) : (ints l).set n (.int .i64 x) = ints (l.set n x) := by simp [ints, List.map_set]
theorem ints_take_all {l : List Int} {n : Nat} (h : l.length ≤ n) : (ints l).take n = ints l := List.take_of_length_le (by simpa [ints] using h)
theorem ints_flat (l : List Int) : (ints l).all flat = true := by simp [ints, flat]
theorem ints_okc (l : List Int) : (ints l).all AV.okc = true := flat_okc (ints_flat l)
theorem ints_idsL (l : List Int) : idsL (ints l) = [] := flat_idsL (ints_flat l)
theorem ints_noid (l : List Int) : noidL (ints l) = true := flat_noidL (ints_flat l)
theorem ints_noid' (l : List Int) : allL pnoid (ints l) = true := flat_noidL (ints_flat l)
theorem ints_noinl (l : List Int) : noinlL (ints l) = true := flat_noinlL (ints_flat l)
theorem ints_noinl' (l : List Int) : allL pnoinl (ints l) = true := flat_noinlL (ints_flat l)
theorem ints_noimm (l : List Int) : allL pnoimm (ints l) = true := flat_noimmL (ints_flat l)
theorem ints_idlt (n : Nat) (l : List Int) : idltL n (ints l) = true := flat_idltL (ints_flat l)
theorem ints_idlt' (n : Nat) (l : List Int) : allL (pidlt n) (ints l) = true := flat_idltL (ints_flat l)
theorem ints_frz (l : List Int) : frzL (ints l) = ints l := flat_frzL (ints_flat l)
theorem ints_frz' (l : List Int) : mapL frz1 (ints l) = ints l := flat_frzL (ints_flat l)
theorem ints_ren (r : Nat → Nat) (l : List Int) : renL r (ints l) = ints l := flat_renL (ints_flat l)
theorem ints_ren' (r : Nat → Nat) (l : List Int) : mapL (ren1 r) (ints l) = ints l := flat_renL (ints_flat l)
theorem ints_fz (hp : List Blk) (l : List Int) : fzL hp (ints l) = some (ints l) := flat_fzL (ints_flat l)
theorem ints_pk (n : Nat) (hp : List Blk) (l : List Int) : pkL n hp (ints l) = some (ints l, hp) := flat_pkL (ints_flat l)
theorem ints_pks (hp : List Blk) (l : List Int) : pksL hp (ints l) = some (ints l, hp) := flat_pksL (ints_flat l)
theorem ints_thaw (hp : List Blk) (l : List Int) : thawL hp (ints l) = (ints l, hp) := flat_thawL (ints_flat l)
theorem ints_rdc {l : List Int} {i : Nat} (h : i < l.length) : rdc ((ints l).drop i) none = some (.int .i64 (l.getD i 0)) := by
  simp [rdc, ints, List.head?_drop, List.getD_eq_getElem?_getD, h]
theorem ints_rdc0 {l : List Int} {i : Nat} (h : i < l.length) : rdc (ints (l.drop i)) none = some (.int .i64 (l.getD i 0)) := by rw [← ints_drop]; exact ints_rdc h
attribute [go_sem] ints_okc ints_idsL ints_noid ints_noid' ints_noinl ints_noinl' ints_noimm ints_idlt ints_idlt' ints_frz ints_frz' ints_ren ints_ren' ints_fz ints_pk ints_pks ints_thaw ints_length ints_append ints_snoc
theorem take_len_drop {α : Type} (l : List α) (j : Nat) : (l.drop j).take (l.length - j) = l.drop j := List.take_of_length_le (by simp)
theorem first_ix (p : Nat → Prop) [DecidablePred p] : ∀ n, (∀ i, i < n → p i) ∨ ∃ m, m < n ∧ (∀ i, i < m → p i) ∧ ¬ p m
  | 0 => .inl (by omega)
  | n + 1 => by
    rcases first_ix p n with h | ⟨m, h1, h2, h3⟩
    · by_cases hp : p n
      · exact .inl fun i hi => if h' : i < n then h i h' else by rw [show i = n by omega]; exact hp
      · exact .inr ⟨n, by omega, h, hp⟩
    · exact .inr ⟨m, by omega, h2, h3⟩
theorem take_snoc {α : Type} {l : List α} {i : Nat} (d : α) (h : i < l.length) : l.take (i + 1) = l.take i ++ [l.getD i d] := by
  rw [List.take_add_one, List.getD_eq_getElem?_getD, List.getElem?_eq_getElem h]; rfl
end Go.Proofs.Ytcfhocnbpplecaa

namespace Go.Proofs.Ytcfhocnbpplecaa
attribute [go_sem] unx_miss Option.any_some Nat.zero_div beq_self_eq_true Bool.true_or List.isEmpty_cons Int.zero_add bindParams bindTo Nat.zero_add Nat.add_zero if_pos if_neg cnd_pos cnd_neg grd_tpos grd_tneg grd_fpos grd_fneg astep sln slc part rowc Blk.cells Option.map_some Option.bind_some abin homesOf AV.idof pick_pos pick_neg wrap_id trim tidy gst_if List.all_cons List.all_nil Blk.idlt Blk.noidb idlt idltL noid noidL noinl noinlL noimm allL AV.allv pidlt pnoid pnoinl pnoimm Bool.and_true Bool.true_and Bool.and_self ints_rdc ints_rdc0 ints_take_all Int.toNat_natCast Nat.mul_one Nat.div_one List.length_nil List.length_cons List.take_nil List.take_zero List.take_succ_cons List.drop_zero List.drop_succ_cons List.getElem?_cons_zero List.getElem?_cons_succ List.head?_cons List.set_cons_zero List.set_cons_succ List.cons_append and_self and_true true_and Nat.le_refl Int.natCast_add Int.cast_ofNat_Int ne_eq not_false_eq_true implies_true results rvs rvv rsIds immIds nz nzc nz1 tupv Option.map_none List.map_cons List.map_nil fz fzL frz frzL frz1 mapL AV.mapv ren renL ren1 AV.ids idsL List.append_nil List.nil_append decide_true decide_false not_true_eq_false callP callM subHp putHp idxOf dedup List.reverse_nil List.reverse_cons List.contains_nil Bool.or_false Bool.false_or Bool.or_true Bool.not_true Bool.not_false thaw thawL setAll rdc_one rdc_row AV.cells AV.okc parts tile modify_zero modify_succ dec_pos dec_neg List.not_mem_nil or_false or_true true_or if_true swapAll swapSt swapBl swp renEnv Blk.ren Option.getD_some Option.getD_none Nat.zero_mul Nat.one_mul List.isEmpty_nil still tellK frzmH opnH opnAH opnMH ghost_opnM ownbH fin pk pkL pks pksL Blk.still cnt unpk cut cut3 Option.isSome_some Option.isSome_none Bool.false_eq_true Nat.sub_zero List.getD_cons_zero List.getD_cons_succ Nat.le_add_right Nat.zero_le List.length_append List.length_set ints_drop ints_take ints_set ghost_norm' take_len_drop List.length_take List.length_drop
end Go.Proofs.Ytcfhocnbpplecaa

namespace Go.Proofs.Ytcfhocnbpplecaa
open Go.RowKit
mutual
theorem ren_noid {r : Nat → Nat} : ∀ x : AV, x.allv pnoid = true → ren r x = x
  | .sl sz cs, h => by simp only [AV.allv, Bool.and_eq_true] at h; simp only [ren, AV.mapv]; rw [show mapL (ren1 r) cs = cs from renL_noid cs h.2]; rfl
  | .ip cs, h => by simp only [AV.allv, Bool.and_eq_true] at h; simp only [ren, AV.mapv]; rw [show mapL (ren1 r) cs = cs from renL_noid cs h.2]; rfl
  | .vec sz cs, h => by simp only [AV.allv, Bool.and_eq_true] at h; simp only [ren, AV.mapv]; rw [show mapL (ren1 r) cs = cs from renL_noid cs h.2]; rfl
  | .box cs, h => by simp only [AV.allv, Bool.and_eq_true] at h; simp only [ren, AV.mapv]; rw [show mapL (ren1 r) cs = cs from renL_noid cs h.2]; rfl
  | .agg cs, h => by simp only [AV.allv, Bool.and_eq_true] at h; simp only [ren, AV.mapv]; rw [show mapL (ren1 r) cs = cs from renL_noid cs h.2]; rfl
  | .tup cs, h => by simp only [AV.allv, Bool.and_eq_true] at h; simp only [ren, AV.mapv]; rw [show mapL (ren1 r) cs = cs from renL_noid cs h.2]; rfl
  | .mp ks vs, h => by simp only [AV.allv, Bool.and_eq_true] at h; simp only [ren, AV.mapv]; rw [show mapL (ren1 r) ks = ks from renL_noid ks h.2.1, show mapL (ren1 r) vs = vs from renL_noid vs h.2.2]; rfl
  | .clo f ks vs, h => by simp only [AV.allv, Bool.and_eq_true] at h; simp only [ren, AV.mapv]; rw [show mapL (ren1 r) ks = ks from renL_noid ks h.2.1, show mapL (ren1 r) vs = vs from renL_noid vs h.2.2]; rfl
  | .ifc t v, h => by simp only [AV.allv, Bool.and_eq_true] at h; simp only [ren, AV.mapv]; rw [show v.mapv (ren1 r) = v from ren_noid v h.2]; rfl
  | .unk, _ => rfl
  | .any, _ => rfl
  | .maybe _ _, _ => rfl
  | .bool _, _ => rfl
  | .int _ _, _ => rfl
  | .str _, _ => rfl
  | .nils, _ => rfl
  | .nilp, _ => rfl
  | .nilf, _ => rfl
  | .nili, _ => rfl
  | .nilm, _ => rfl
  | .own _ _, h => by simp [AV.allv, pnoid] at h
  | .osl _ _ _ _, h => by simp [AV.allv, pnoid] at h
  | .ref _ _, h => by simp [AV.allv, pnoid] at h
  | .mref _, h => by simp [AV.allv, pnoid] at h
  | .yld _, h => by simp [AV.allv, pnoid] at h
theorem renL_noid {r : Nat → Nat} : ∀ l : List AV, allL pnoid l = true → renL r l = l
  | [], _ => rfl
  | x :: xs, h => by
    simp only [allL, Bool.and_eq_true] at h
    simp only [renL, mapL]
    rw [show x.mapv (ren1 r) = x from ren_noid x h.1, show mapL (ren1 r) xs = xs from renL_noid xs h.2]
end
mutual
theorem idlt_noid {n : Nat} : ∀ x : AV, x.allv pnoid = true → x.allv (pidlt n) = true
  | .sl sz cs, h => by simp only [AV.allv, Bool.and_eq_true] at h ⊢; exact ⟨rfl, idltL_noid cs h.2⟩
  | .ip cs, h => by simp only [AV.allv, Bool.and_eq_true] at h ⊢; exact ⟨rfl, idltL_noid cs h.2⟩
  | .vec sz cs, h => by simp only [AV.allv, Bool.and_eq_true] at h ⊢; exact ⟨rfl, idltL_noid cs h.2⟩
  | .box cs, h => by simp only [AV.allv, Bool.and_eq_true] at h ⊢; exact ⟨rfl, idltL_noid cs h.2⟩
  | .agg cs, h => by simp only [AV.allv, Bool.and_eq_true] at h ⊢; exact ⟨rfl, idltL_noid cs h.2⟩
  | .tup cs, h => by simp only [AV.allv, Bool.and_eq_true] at h ⊢; exact ⟨rfl, idltL_noid cs h.2⟩
  | .mp ks vs, h => by simp only [AV.allv, Bool.and_eq_true] at h ⊢; exact ⟨rfl, idltL_noid ks h.2.1, idltL_noid vs h.2.2⟩
  | .clo f ks vs, h => by simp only [AV.allv, Bool.and_eq_true] at h ⊢; exact ⟨rfl, idltL_noid ks h.2.1, idltL_noid vs h.2.2⟩
  | .ifc t v, h => by simp only [AV.allv, Bool.and_eq_true] at h ⊢; exact ⟨rfl, idlt_noid v h.2⟩
  | .unk, h => by simp [AV.allv, pnoid] at h
  | .any, _ => rfl
  | .maybe _ _, _ => rfl
  | .bool _, _ => rfl
  | .int _ _, _ => rfl
  | .str _, _ => rfl
  | .nils, _ => rfl
  | .nilp, _ => rfl
  | .nilf, _ => rfl
  | .nili, _ => rfl
  | .nilm, _ => rfl
  | .own _ _, h => by simp [AV.allv, pnoid] at h
  | .osl _ _ _ _, h => by simp [AV.allv, pnoid] at h
  | .ref _ _, h => by simp [AV.allv, pnoid] at h
  | .mref _, h => by simp [AV.allv, pnoid] at h
  | .yld _, h => by simp [AV.allv, pnoid] at h
theorem idltL_noid {n : Nat} : ∀ l : List AV, allL pnoid l = true → allL (pidlt n) l = true
  | [], _ => rfl
  | x :: xs, h => by
    simp only [allL, Bool.and_eq_true] at h ⊢
    exact ⟨idlt_noid x h.1, idltL_noid xs h.2⟩
end
section
variable {P : Program} {fid : FuncId → Option Nat} {T : Nat → Option Entry}
end
end Go.Proofs.Ytcfhocnbpplecaa
