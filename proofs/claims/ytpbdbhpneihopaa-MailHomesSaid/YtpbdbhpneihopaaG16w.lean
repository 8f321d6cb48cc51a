/- The code of scan.Need and scan.Whole. -/
import Derived.Test.YtpbdbhpneihopaaG16
import Derived.Test.YtpbdbhpneihopaaYf
namespace Go.Proofs.Ytpbdbhpneihopaa
set_option linter.unusedSimpArgs false
set_option linter.unusedVariables false
set_option maxRecDepth 1000000
def cSeqL : Code → Code
  | .seq a _ => a
  | _ => .skip
def cSeqR : Code → Code
  | .seq _ b => b
  | _ => .skip
def cThn : Code → Code
  | .cond _ a _ => a
  | _ => .skip
def cId : Code → Nat
  | .region id _ _ => id
  | _ => 0
def cOp (c : Code) (i : Nat) : Oper := match c with
  | .region _ ops _ => ops[i]?.getD default
  | _ => default
def cTy : Op → TypeId
  | .binOp _ t _ _ _ => t
  | _ => 0
def cTz : Op → TypeId
  | .binOp _ _ _ _ t => t
  | _ => 0
theorem fid_one {k n : Nat} (h : (fidL.all fun p => !(p.2 == k) || p.1 == n) = true) {f : Nat} (hf : fid f = some k) : f = n := by
  have := List.all_eq_true.1 h (f, k) (fid_mem hf)
  simpa using this
theorem need_is : NeedIs Try.prog := by
  intro f fn hf hfn
  have := fid_one (n := 47) (by kernel_rfl) hf
  subst this
  have e : Try.prog.funcs[47]? = some Try.f47 := by kernel_rfl
  rw [e] at hfn
  injection hfn with hfn; subst hfn
  show lastPan (Try.f47.body.getD .skip) = true
  kernel_rfl
noncomputable abbrev cW : Code := Try.f34.body.getD .skip
noncomputable abbrev cB : Code := Try.f46.body.getD .skip
theorem catch_is : Catch Try.prog fid 34 23 6 wA0 wR2 wR3 wR4 wR5 wB1 wB2 wRs := by
  refine ⟨Try.f34, cSeqL cW, cId (cSeqL (cSeqR cW)), cOp (cSeqL (cSeqR cW)) 0, cOp (cSeqL (cSeqR cW)) 1, cSeqR (cSeqR cW), 46, Try.f46, cId (cSeqL cB), cOp (cSeqL cB) 0, cOp (cSeqL cB) 1, cThn (cSeqR cB), by kernel_rfl, by kernel_rfl, by kernel_rfl, by kernel_rfl, ⟨by kernel_rfl, by kernel_rfl, fun _ => by kernel_rfl⟩, ⟨by kernel_rfl, by kernel_rfl, fun _ => by kernel_rfl⟩, by kernel_rfl, ⟨by kernel_rfl, by kernel_rfl, by kernel_rfl⟩, ⟨by kernel_rfl, by kernel_rfl, by kernel_rfl⟩, by kernel_rfl, by kernel_rfl, by kernel_rfl, by kernel_rfl, by kernel_rfl, ⟨by kernel_rfl, by kernel_rfl, by kernel_rfl⟩, ?_, ⟨by kernel_rfl, by kernel_rfl, fun _ => by kernel_rfl⟩⟩
  exact ⟨cTy (cOp (cSeqL cB) 1).op, cTz (cOp (cSeqL cB) 1).op, #[], by kernel_rfl, by kernel_rfl, by kernel_rfl, by kernel_rfl⟩
end Go.Proofs.Ytpbdbhpneihopaa
