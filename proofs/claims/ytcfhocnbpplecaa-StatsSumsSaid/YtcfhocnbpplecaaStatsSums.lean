/-
  StatsSums: whatever comes in, it returns true, and what came in reads as it did. No condition beside the given row's own.
-/
import Derived.Test.YtcfhocnbpplecaaUj
import Derived.Test.YtcfhocnbpplecaaG26
import Derived.Test.YtcfhocnbpplecaaLa
import Derived.Test.YtcfhocnbpplecaaRows
import Derived.WalkKit
import Derived.ProofKit
import Derived.OpenShut
import Derived.ShutString
import Derived.ChangeOld
import Derived.Below
namespace Go.Proofs.Ytcfhocnbpplecaa.statsSums
open Go.ChangeShapes Go.WideShapes Go.ChangeAt Go.RowKit
theorem own : ownKnob Try.prog.godebug = none := by kernel_rfl
theorem laidOut : laidOutB Try.prog = true := by kernel_rfl
set_option maxRecDepth 100000 in
theorem lifted (os : Os) (started : os.Started) (H : Type) (enc : TypeId × Value → H) :
    ReturnsInHanded {} Try.checked os 9 .any (Rows.statsSumsSpec.pre6 enc Try.prog Try.f9 Rows.statsSumsRow.domain false) (Rows.statsSumsSpec.post enc Try.prog Try.f9 false true false false) := by
  refine returnsInHanded_of_change (C := Try.checked) own started (by kernel_rfl) Try.func9
    (ChangeSpec.witness6 (enc := enc) (C := Try.checked) false ⟨#[], #[.slice none 0 0, .slice none 0 0, .int .i64 0], []⟩ 8 (by kernel_rfl) (by kernel_rfl) (by kernel_rfl) (by kernel_rfl)) ?_
  intro W base args ds gs before hval0 hW hcnd _
  have hval : ∀ (j : Nat) t v, Try.f9.params[j]? = some t → args[j]? = some v → Value.okWide Try.prog W .any base t v := hval0
  have hW' := hW
  obtain ⟨p, q, hA0, hV, rfl, hfz, hnd⟩ := hW
  have hA : DataW.TrodAll enc Try.prog W 0 (fun _ => true) true Try.f9.params.toList args.toList ds p := hA0
  rw [Try.params9] at hA hval
  obtain ⟨v0, vs0, d0, ds0, p0, q0, hargs, rfl, rfl, t0, r0⟩ := trodAll_cons hA
  obtain ⟨v1, vs1, d1, ds1, p1, q1, rfl, rfl, rfl, t1, r1⟩ := trodAll_cons r0
  obtain ⟨v2, vs2, d2, ds2, p2, q2, rfl, rfl, rfl, t2, r2⟩ := trodAll_cons r1
  obtain ⟨rfl, rfl, rfl⟩ := trodAll_nil r2
  obtain rfl : args = #[v0, v1, v2] := by cases args; simp_all
  obtain ⟨rfl, rfl⟩ := trodVars_none hV
  have lt0 : ∀ x ∈ p0, x.block < W.heap.size := by obtain ⟨m, hm⟩ := t0; exact DataW.trod_lt m _ _ _ hm
  obtain ⟨a0, h0, c0⟩ := open_one (fid := fid) (n := 8) (ty := .sl 1 [.str]) (t := 22) (by kernel_rfl) (by intro fs; rw [Try.underlying22]; simp) (hval 0 22 v0 rfl rfl) t0
  have lt1 : ∀ x ∈ p1, x.block < W.heap.size := by obtain ⟨m, hm⟩ := t1; exact DataW.trod_lt m _ _ _ hm
  obtain ⟨a1, h1, c1⟩ := open_one (fid := fid) (n := 8) (ty := .sl 1 [.str]) (t := 22) (by kernel_rfl) (by intro fs; rw [Try.underlying22]; simp) (hval 1 22 v1 rfl rfl) t1
  have lt2 : ∀ x ∈ p2, x.block < W.heap.size := by obtain ⟨m, hm⟩ := t2; exact DataW.trod_lt m _ _ _ hm
  obtain ⟨a2, h2, c2⟩ := open_one (fid := fid) (n := 8) (ty := .int .i64) (t := 3) (by kernel_rfl) (by intro fs; rw [Try.underlying3]; simp) (hval 2 3 v2 rfl rfl) t2
  clear hA0 hval0
  have hrun : runP tabP 1394 [a0, a1, a2] [] = some (.bool true, []) := (by obtain ⟨l, rfl, a, b⟩ := fit_strs h0; obtain ⟨m, rfl, c, d⟩ := fit_strs h1; obtain ⟨n, rfl, e⟩ := fit_int h2; exact sums_law a b c d)
  have hcl : CL (mem0 Try.prog fid W) [a0, a1, a2] (fun i => (#[v0, v1, v2] : Array Value)[i]?) := ⟨⟨_, rfl, c0⟩, ⟨⟨_, rfl, c1⟩, ⟨⟨_, rfl, c2⟩, trivial⟩⟩⟩
  refine (law_calls goodPP (f := 9) (by rfl) hrun hcl rfl).mono fun e W' ⟨he, bel⟩ => ?_
  subst he
  exact ⟨_, rfl, _, _, _, [], _, [], hW', trodAll_mk1 (shut_bool Try.underlying4 _), trodAll_cons_mk (Below.trod laidOut (by kernel_rfl) (of_decide_eq_true (by kernel_rfl)) t0 bel lt0) (trodAll_cons_mk (Below.trod laidOut (by kernel_rfl) (of_decide_eq_true (by kernel_rfl)) t1 bel lt1) (trodAll_cons_mk (Below.trod laidOut (by kernel_rfl) (of_decide_eq_true (by kernel_rfl)) t2 bel lt2) (trodAll_mk0))), rfl, bel.frame _, fun h => by cases h⟩
theorem over : Rows.statsSumsRow.holds Try.pinned (OpenSpec.ofChange Rows.statsSumsSpec) :=
  OpenClaim.holds_of_wide 9 Try.f9 rfl rfl rfl rfl rfl rfl rfl ⟨rfl, rfl, rfl, rfl, rfl⟩ rfl rfl rfl rfl rfl (by kernel_rfl) Try.func9 (by kernel_rfl)
    (of_decide_eq_true (by kernel_rfl)) (by unfold Func.isWrapper; first | (rw [if_pos (by decide +kernel)]; kernel_rfl) | (rw [if_neg (by decide +kernel)]; exact ⟨rfl, rfl⟩))
    (fun os started H enc _ => lifted os started H enc)
theorem proved : Rows.StatsSumsSaid := over
#print axioms proved
end Go.Proofs.Ytcfhocnbpplecaa.statsSums
