/- slices.Clone: a slice that is nil, or not, comes to the same contents. -/
import Derived.Test.YthpgaecloecflaaKat
namespace Go.Proofs.Ythpgaecloecflaa
set_option linter.unusedSimpArgs false
set_option linter.unusedVariables false
open Go.RowKit
mutual
theorem ren_noid {r : Nat → Nat} : ∀ x : AV, x.allv pnoid = true → ren r x = x
  | .sl sz cs, h => by simp only [AV.allv, Bool.and_eq_true] at h; simp only [ren, AV.mapv]; rw [show mapL (ren1 r) cs = cs from renL_noid cs h.2]; rfl
  | .ip cs, h => by simp only [AV.allv, Bool.and_eq_true] at h; simp only [ren, AV.mapv]; rw [show mapL (ren1 r) cs = cs from renL_noid cs h.2]; rfl
  | .vec sz cs, h => by simp only [AV.allv, Bool.and_eq_true] at h; simp only [ren, AV.mapv]; rw [show mapL (ren1 r) cs = cs from renL_noid cs h.2]; rfl
  | .box cs, h => by simp only [AV.allv, Bool.and_eq_true] at h; simp only [ren, AV.mapv]; rw [show mapL (ren1 r) cs = cs from renL_noid cs h.2]; rfl
  | .agg cs, h => by simp only [AV.allv, Bool.and_eq_true] at h; simp only [ren, AV.mapv]; rw [show mapL (ren1 r) cs = cs from renL_noid cs h.2]; rfl
  | .tup cs, h => by simp only [AV.allv, Bool.and_eq_true] at h; simp only [ren, AV.mapv]; rw [show mapL (ren1 r) cs = cs from renL_noid cs h.2]; rfl
  | .mp ks vs, h => by simp only [AV.allv, Bool.and_eq_true] at h; simp only [ren, AV.mapv]; rw [show mapL (ren1 r) ks = ks from renL_noid ks h.2.1, show mapL (ren1 r) vs = vs from renL_noid vs h.2.2]; rfl
  | .clo f ks vs, h => by simp only [AV.allv, Bool.and_eq_true] at h; simp only [ren, AV.mapv]; rw [show mapL (ren1 r) ks = ks from renL_noid ks h.2.1, show mapL (ren1 r) vs = vs from renL_noid vs h.2.2]; rfl
  | .ifc t v, h => by simp only [AV.allv, Bool.and_eq_true] at h; simp only [ren, AV.mapv]; rw [show v.mapv (ren1 r) = v from ren_noid v h.2]; rfl
  | .unk, _ => rfl
  | .any, _ => rfl
  | .maybe _ _, _ => rfl
  | .bool _, _ => rfl
  | .int _ _, _ => rfl
  | .str _, _ => rfl
  | .nils, _ => rfl
  | .nilp, _ => rfl
  | .nilf, _ => rfl
  | .nili, _ => rfl
  | .nilm, _ => rfl
  | .own _ _, h => by simp [AV.allv, pnoid] at h
  | .osl _ _ _ _, h => by simp [AV.allv, pnoid] at h
  | .ref _ _, h => by simp [AV.allv, pnoid] at h
  | .mref _, h => by simp [AV.allv, pnoid] at h
  | .yld _, h => by simp [AV.allv, pnoid] at h
theorem renL_noid {r : Nat → Nat} : ∀ l : List AV, allL pnoid l = true → renL r l = l
  | [], _ => rfl
  | x :: xs, h => by
    simp only [allL, Bool.and_eq_true] at h
    simp only [renL, mapL]
    rw [show x.mapv (ren1 r) = x from ren_noid x h.1, show mapL (ren1 r) xs = xs from renL_noid xs h.2]
end
mutual
theorem idlt_noid {n : Nat} : ∀ x : AV, x.allv pnoid = true → x.allv (pidlt n) = true
  | .sl sz cs, h => by simp only [AV.allv, Bool.and_eq_true] at h ⊢; exact ⟨rfl, idltL_noid cs h.2⟩
  | .ip cs, h => by simp only [AV.allv, Bool.and_eq_true] at h ⊢; exact ⟨rfl, idltL_noid cs h.2⟩
  | .vec sz cs, h => by simp only [AV.allv, Bool.and_eq_true] at h ⊢; exact ⟨rfl, idltL_noid cs h.2⟩
  | .box cs, h => by simp only [AV.allv, Bool.and_eq_true] at h ⊢; exact ⟨rfl, idltL_noid cs h.2⟩
  | .agg cs, h => by simp only [AV.allv, Bool.and_eq_true] at h ⊢; exact ⟨rfl, idltL_noid cs h.2⟩
  | .tup cs, h => by simp only [AV.allv, Bool.and_eq_true] at h ⊢; exact ⟨rfl, idltL_noid cs h.2⟩
  | .mp ks vs, h => by simp only [AV.allv, Bool.and_eq_true] at h ⊢; exact ⟨rfl, idltL_noid ks h.2.1, idltL_noid vs h.2.2⟩
  | .clo f ks vs, h => by simp only [AV.allv, Bool.and_eq_true] at h ⊢; exact ⟨rfl, idltL_noid ks h.2.1, idltL_noid vs h.2.2⟩
  | .ifc t v, h => by simp only [AV.allv, Bool.and_eq_true] at h ⊢; exact ⟨rfl, idlt_noid v h.2⟩
  | .unk, h => by simp [AV.allv, pnoid] at h
  | .any, _ => rfl
  | .maybe _ _, _ => rfl
  | .bool _, _ => rfl
  | .int _ _, _ => rfl
  | .str _, _ => rfl
  | .nils, _ => rfl
  | .nilp, _ => rfl
  | .nilf, _ => rfl
  | .nili, _ => rfl
  | .nilm, _ => rfl
  | .own _ _, h => by simp [AV.allv, pnoid] at h
  | .osl _ _ _ _, h => by simp [AV.allv, pnoid] at h
  | .ref _ _, h => by simp [AV.allv, pnoid] at h
  | .mref _, h => by simp [AV.allv, pnoid] at h
  | .yld _, h => by simp [AV.allv, pnoid] at h
theorem idltL_noid {n : Nat} : ∀ l : List AV, allL pnoid l = true → allL (pidlt n) l = true
  | [], _ => rfl
  | x :: xs, h => by
    simp only [allL, Bool.and_eq_true] at h ⊢
    exact ⟨idlt_noid x h.1, idltL_noid xs h.2⟩
end
section
variable {P : Program} {fid : FuncId → Option Nat} {T : Nat → Option Entry}
end
end Go.Proofs.Ythpgaecloecflaa
