/-
  No cell of these rows narrows 'for every input' (looked for: loops, veiled, ifaces, maps, wideKeys, modest, calm, conditions, laid).
  DERIVED. THE GIVEN ROWS OF THIS SEAT. 5 by the template 'for every input the law returns true; each argument reads behind the call as it read before'; 0 by the template 'total and deterministic' (their statements: YtpanhbaiimnlhaaTotals.lean).
  GIVEN WITH THE SEED: the statements are not yours to turn. If you find one false, say at which input.
  Laid BY PROGRAM, IN A SANDBOX (cutbox-rows.mjs): the forced cells as the released guide's own fill.sh prints them over the translation 519bdd473912e135… (all of the seat's roots in one cut). By AI agents, Wed Nov 11 2026. No macro, syntax, notation, axiom, sorry.
-/
import Derived.Test.YtpanhbaiimnlhaaChecked
import GoSem.Claim
import GoSem.ClaimJoined
import GoSem.ClaimMapViews
import Derived.JoinedTies
import Derived.KernelRfl
namespace Go.Proofs.Ytpanhbaiimnlhaa
/- THE CELL 'sum', in the pinned program and in every row, IS THE sha256 OF THE DUMP (.gsa) THAT YtpanhbaiimnlhaaProg.lean LOADS. Nothing in Lean hashes anything: it is a label: what it is worth is what the hold of that sum in a sandbox is worth. -/
noncomputable def Try.pinned : Pinned := { name := "ytpanhbaiimnlhaa", sum := "519bdd473912e13548064db05bff62067e40cd569455619945c72f06f6cd255e", checked := Try.checked }
namespace Rows
def none {H : Type} : Left H := { results := [], args := [] }

/-- 'waysidelaw10.BestRuns': WHATEVER THE INPUT: true; the input reads as it did. -/
def bestRunsSpec : ChangeSpec := { name := "bestRuns", fn := fun _ => fun
  | [d1, d2] => { results := [.lit (.bool true)], args := [d1, d2] }
  | _ => none }
def bestRunsRow : OpenClaim := { program := "ytpanhbaiimnlhaa", sum := "519bdd473912e13548064db05bff62067e40cd569455619945c72f06f6cd255e", func := "wayside/waysidelaw10.BestRuns", spec := "bestRuns", unfollowed := true, recurses := true, apart := false }
def BestRunsSaid : Prop := bestRunsRow.holds Try.pinned (OpenSpec.ofChange bestRunsSpec)

/-- ITS FALSE NEIGHBOUR: 'it returns false'. Refute it at one input. -/
def bestRunsWrong : ChangeSpec := { name := "bestRuns", fn := fun _ => fun
  | [d1, d2] => { results := [.lit (.bool false)], args := [d1, d2] }
  | _ => none }
def BestRunsWrongFalsely : Prop := bestRunsRow.holds Try.pinned (OpenSpec.ofChange bestRunsWrong)

/-- 'waysidelaw10.BestFirst': WHATEVER THE INPUT: true; the input reads as it did. -/
def bestFirstSpec : ChangeSpec := { name := "bestFirst", fn := fun _ => fun
  | [d1, d2] => { results := [.lit (.bool true)], args := [d1, d2] }
  | _ => none }
def bestFirstRow : OpenClaim := { program := "ytpanhbaiimnlhaa", sum := "519bdd473912e13548064db05bff62067e40cd569455619945c72f06f6cd255e", func := "wayside/waysidelaw10.BestFirst", spec := "bestFirst", unfollowed := true, recurses := true, apart := false }
def BestFirstSaid : Prop := bestFirstRow.holds Try.pinned (OpenSpec.ofChange bestFirstSpec)

/-- ITS FALSE NEIGHBOUR: 'it returns false'. Refute it at one input. -/
def bestFirstWrong : ChangeSpec := { name := "bestFirst", fn := fun _ => fun
  | [d1, d2] => { results := [.lit (.bool false)], args := [d1, d2] }
  | _ => none }
def BestFirstWrongFalsely : Prop := bestFirstRow.holds Try.pinned (OpenSpec.ofChange bestFirstWrong)

/-- 'waysidelaw10.BestKeeps': WHATEVER THE INPUT: true; the input reads as it did. -/
def bestKeepsSpec : ChangeSpec := { name := "bestKeeps", fn := fun _ => fun
  | [d1, d2] => { results := [.lit (.bool true)], args := [d1, d2] }
  | _ => none }
def bestKeepsRow : OpenClaim := { program := "ytpanhbaiimnlhaa", sum := "519bdd473912e13548064db05bff62067e40cd569455619945c72f06f6cd255e", func := "wayside/waysidelaw10.BestKeeps", spec := "bestKeeps", unfollowed := true, recurses := true, apart := false }
def BestKeepsSaid : Prop := bestKeepsRow.holds Try.pinned (OpenSpec.ofChange bestKeepsSpec)

/-- ITS FALSE NEIGHBOUR: 'it returns false'. Refute it at one input. -/
def bestKeepsWrong : ChangeSpec := { name := "bestKeeps", fn := fun _ => fun
  | [d1, d2] => { results := [.lit (.bool false)], args := [d1, d2] }
  | _ => none }
def BestKeepsWrongFalsely : Prop := bestKeepsRow.holds Try.pinned (OpenSpec.ofChange bestKeepsWrong)

/-- 'waysidelaw10.BestOrder': WHATEVER THE INPUT: true; the input reads as it did. -/
def bestOrderSpec : ChangeSpec := { name := "bestOrder", fn := fun _ => fun
  | [d] => { results := [.lit (.bool true)], args := [d] }
  | _ => none }
def bestOrderRow : OpenClaim := { program := "ytpanhbaiimnlhaa", sum := "519bdd473912e13548064db05bff62067e40cd569455619945c72f06f6cd255e", func := "wayside/waysidelaw10.BestOrder", spec := "bestOrder", unfollowed := true, recurses := true, apart := false }
def BestOrderSaid : Prop := bestOrderRow.holds Try.pinned (OpenSpec.ofChange bestOrderSpec)

/-- ITS FALSE NEIGHBOUR: 'it returns false'. Refute it at one input. -/
def bestOrderWrong : ChangeSpec := { name := "bestOrder", fn := fun _ => fun
  | [d] => { results := [.lit (.bool false)], args := [d] }
  | _ => none }
def BestOrderWrongFalsely : Prop := bestOrderRow.holds Try.pinned (OpenSpec.ofChange bestOrderWrong)

/-- 'waysidelaw10.BestNil': WHATEVER THE INPUT: true; the input reads as it did. -/
def bestNilSpec : ChangeSpec := { name := "bestNil", fn := fun _ => fun
  | [d] => { results := [.lit (.bool true)], args := [d] }
  | _ => none }
def bestNilRow : OpenClaim := { program := "ytpanhbaiimnlhaa", sum := "519bdd473912e13548064db05bff62067e40cd569455619945c72f06f6cd255e", func := "wayside/waysidelaw10.BestNil", spec := "bestNil", unfollowed := true, recurses := true, apart := false }
def BestNilSaid : Prop := bestNilRow.holds Try.pinned (OpenSpec.ofChange bestNilSpec)

/-- ITS FALSE NEIGHBOUR: 'it returns false'. Refute it at one input. -/
def bestNilWrong : ChangeSpec := { name := "bestNil", fn := fun _ => fun
  | [d] => { results := [.lit (.bool false)], args := [d] }
  | _ => none }
def BestNilWrongFalsely : Prop := bestNilRow.holds Try.pinned (OpenSpec.ofChange bestNilWrong)

/- THE SECOND FORM. 'bulk': how many values and letters a reading holds, each counted each time it is reached (what is shared counts as often as it is met; a slice's spare places count too). A statement '..UptoSaid' is the law's where the arguments, and the package variables that the reading takes, are together of bulk at most 1048576: NARROWER than '..Said'. Prove '..Said' where nothing that the law and all that it calls make is longer than what came in: it says more and counts as full. Else prove '..UptoSaid'. A law counts once. -/
mutual
def uptoBulk {H : Type} : DataW H → Nat
  | .lit (.string bytes) => bytes.length + 1
  | .lit _ => 1
  | .nil => 1
  | .ptr d => uptoBulk d + 1
  | .slice elems spare => uptoBulkAll elems + uptoBulkAll spare + 1
  | .agg parts => uptoBulkAll parts + 1
  | .iface _ d => uptoBulk d + 1
  | .map entries => uptoBulkEntries entries + 1
  | .held _ => 1
def uptoBulkAll {H : Type} : List (DataW H) → Nat
  | [] => 0
  | d :: r => uptoBulk d + uptoBulkAll r
def uptoBulkEntries {H : Type} : List (Lit × DataW H) → Nat
  | [] => 0
  | x :: r => uptoBulkEntry x + uptoBulkEntries r
def uptoBulkEntry {H : Type} : Lit × DataW H → Nat
  | (.string bytes, d) => bytes.length + uptoBulk d + 1
  | (_, d) => uptoBulk d + 1
 end
def uptoSmall : (H : Type) → List (DataW H) → Bool := fun _ ds => decide (uptoBulkAll ds ≤ 1048576)
def OpenSpec.upto (s : _root_.Go.ChangeSpec) : _root_.Go.OpenSpec := { _root_.Go.OpenSpec.ofChange s with cond := some uptoSmall }

/-- 'waysidelaw10.BestRuns', WHERE WHAT IT READS IS OF BULK AT MOST 1048576: true; the input reads as it did. -/
def bestRunsUptoRow : OpenClaim := { program := "ytpanhbaiimnlhaa", sum := "519bdd473912e13548064db05bff62067e40cd569455619945c72f06f6cd255e", func := "wayside/waysidelaw10.BestRuns", spec := "bestRuns", unfollowed := true, recurses := true, apart := false, narrowed := true }
def BestRunsUptoSaid : Prop := bestRunsUptoRow.holds Try.pinned (OpenSpec.upto bestRunsSpec)

/-- 'waysidelaw10.BestFirst', WHERE WHAT IT READS IS OF BULK AT MOST 1048576: true; the input reads as it did. -/
def bestFirstUptoRow : OpenClaim := { program := "ytpanhbaiimnlhaa", sum := "519bdd473912e13548064db05bff62067e40cd569455619945c72f06f6cd255e", func := "wayside/waysidelaw10.BestFirst", spec := "bestFirst", unfollowed := true, recurses := true, apart := false, narrowed := true }
def BestFirstUptoSaid : Prop := bestFirstUptoRow.holds Try.pinned (OpenSpec.upto bestFirstSpec)

/-- 'waysidelaw10.BestKeeps', WHERE WHAT IT READS IS OF BULK AT MOST 1048576: true; the input reads as it did. -/
def bestKeepsUptoRow : OpenClaim := { program := "ytpanhbaiimnlhaa", sum := "519bdd473912e13548064db05bff62067e40cd569455619945c72f06f6cd255e", func := "wayside/waysidelaw10.BestKeeps", spec := "bestKeeps", unfollowed := true, recurses := true, apart := false, narrowed := true }
def BestKeepsUptoSaid : Prop := bestKeepsUptoRow.holds Try.pinned (OpenSpec.upto bestKeepsSpec)

/-- 'waysidelaw10.BestOrder', WHERE WHAT IT READS IS OF BULK AT MOST 1048576: true; the input reads as it did. -/
def bestOrderUptoRow : OpenClaim := { program := "ytpanhbaiimnlhaa", sum := "519bdd473912e13548064db05bff62067e40cd569455619945c72f06f6cd255e", func := "wayside/waysidelaw10.BestOrder", spec := "bestOrder", unfollowed := true, recurses := true, apart := false, narrowed := true }
def BestOrderUptoSaid : Prop := bestOrderUptoRow.holds Try.pinned (OpenSpec.upto bestOrderSpec)

/-- 'waysidelaw10.BestNil', WHERE WHAT IT READS IS OF BULK AT MOST 1048576: true; the input reads as it did. -/
def bestNilUptoRow : OpenClaim := { program := "ytpanhbaiimnlhaa", sum := "519bdd473912e13548064db05bff62067e40cd569455619945c72f06f6cd255e", func := "wayside/waysidelaw10.BestNil", spec := "bestNil", unfollowed := true, recurses := true, apart := false, narrowed := true }
def BestNilUptoSaid : Prop := bestNilUptoRow.holds Try.pinned (OpenSpec.upto bestNilSpec)

end Rows
end Go.Proofs.Ytpanhbaiimnlhaa
