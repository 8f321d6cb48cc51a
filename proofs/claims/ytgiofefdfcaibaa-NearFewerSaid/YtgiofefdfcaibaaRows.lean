/-
  No cell of these rows narrows 'for every input' (looked for: loops, veiled, ifaces, maps, wideKeys, modest, calm, conditions, laid).
  DERIVED. THE GIVEN ROWS OF THIS SEAT. 3 by the template 'for every input the law returns true; each argument reads behind the call as it read before'; 0 by the template 'total and deterministic' (their statements: YtgiofefdfcaibaaTotals.lean).
  GIVEN WITH THE SEED: the statements are not yours to turn. If you find one false, say at which input.
  Laid BY PROGRAM, IN A SANDBOX (cutbox-rows.mjs): the forced cells as the released guide's own fill.sh prints them over the translation 805639e311d361cf… (all of the seat's roots in one cut). By AI agents, Wed Nov 11 2026. No macro, syntax, notation, axiom, sorry.
-/
import Derived.Test.YtgiofefdfcaibaaChecked
import GoSem.Claim
import GoSem.ClaimJoined
import GoSem.ClaimMapViews
import Derived.JoinedTies
import Derived.KernelRfl
namespace Go.Proofs.Ytgiofefdfcaibaa
/- THE CELL 'sum', in the pinned program and in every row, IS THE sha256 OF THE DUMP (.gsa) THAT YtgiofefdfcaibaaProg.lean LOADS. Nothing in Lean hashes anything: it is a label: what it is worth is what the hold of that sum in a sandbox is worth. -/
noncomputable def Try.pinned : Pinned := { name := "ytgiofefdfcaibaa", sum := "805639e311d361cf633a8f16f98467772a3ea7adc1d6877a007252344d5f1828", checked := Try.checked }
namespace Rows
def none {H : Type} : Left H := { results := [], args := [] }

/-- 'waysidelaw09.NearSound': WHATEVER THE INPUT: true; the input reads as it did. -/
def nearSoundSpec : ChangeSpec := { name := "nearSound", fn := fun _ => fun
  | [d1, d2, d3, d4, d5] => { results := [.lit (.bool true)], args := [d1, d2, d3, d4, d5] }
  | _ => none }
def nearSoundRow : OpenClaim := { program := "ytgiofefdfcaibaa", sum := "805639e311d361cf633a8f16f98467772a3ea7adc1d6877a007252344d5f1828", func := "wayside/waysidelaw09.NearSound", spec := "nearSound", inPlace := ["internal/bytealg.abigen_runtime_cmpstring"], unfollowed := true, recurses := true, apart := false }
def NearSoundSaid : Prop := nearSoundRow.holds Try.pinned (OpenSpec.ofChange nearSoundSpec)

/-- ITS FALSE NEIGHBOUR: 'it returns false'. Refute it at one input. -/
def nearSoundWrong : ChangeSpec := { name := "nearSound", fn := fun _ => fun
  | [d1, d2, d3, d4, d5] => { results := [.lit (.bool false)], args := [d1, d2, d3, d4, d5] }
  | _ => none }
def NearSoundWrongFalsely : Prop := nearSoundRow.holds Try.pinned (OpenSpec.ofChange nearSoundWrong)

/-- 'waysidelaw09.NearWider': WHATEVER THE INPUT: true; the input reads as it did. -/
def nearWiderSpec : ChangeSpec := { name := "nearWider", fn := fun _ => fun
  | [d1, d2, d3, d4, d5, d6] => { results := [.lit (.bool true)], args := [d1, d2, d3, d4, d5, d6] }
  | _ => none }
def nearWiderRow : OpenClaim := { program := "ytgiofefdfcaibaa", sum := "805639e311d361cf633a8f16f98467772a3ea7adc1d6877a007252344d5f1828", func := "wayside/waysidelaw09.NearWider", spec := "nearWider", inPlace := ["internal/bytealg.abigen_runtime_cmpstring"], unfollowed := true, recurses := true, apart := false }
def NearWiderSaid : Prop := nearWiderRow.holds Try.pinned (OpenSpec.ofChange nearWiderSpec)

/-- ITS FALSE NEIGHBOUR: 'it returns false'. Refute it at one input. -/
def nearWiderWrong : ChangeSpec := { name := "nearWider", fn := fun _ => fun
  | [d1, d2, d3, d4, d5, d6] => { results := [.lit (.bool false)], args := [d1, d2, d3, d4, d5, d6] }
  | _ => none }
def NearWiderWrongFalsely : Prop := nearWiderRow.holds Try.pinned (OpenSpec.ofChange nearWiderWrong)

/-- 'waysidelaw09.NearFewer': WHATEVER THE INPUT: true; the input reads as it did. -/
def nearFewerSpec : ChangeSpec := { name := "nearFewer", fn := fun _ => fun
  | [d1, d2, d3, d4, d5, d6] => { results := [.lit (.bool true)], args := [d1, d2, d3, d4, d5, d6] }
  | _ => none }
def nearFewerRow : OpenClaim := { program := "ytgiofefdfcaibaa", sum := "805639e311d361cf633a8f16f98467772a3ea7adc1d6877a007252344d5f1828", func := "wayside/waysidelaw09.NearFewer", spec := "nearFewer", inPlace := ["internal/bytealg.abigen_runtime_cmpstring"], unfollowed := true, recurses := true, apart := false }
def NearFewerSaid : Prop := nearFewerRow.holds Try.pinned (OpenSpec.ofChange nearFewerSpec)

/-- ITS FALSE NEIGHBOUR: 'it returns false'. Refute it at one input. -/
def nearFewerWrong : ChangeSpec := { name := "nearFewer", fn := fun _ => fun
  | [d1, d2, d3, d4, d5, d6] => { results := [.lit (.bool false)], args := [d1, d2, d3, d4, d5, d6] }
  | _ => none }
def NearFewerWrongFalsely : Prop := nearFewerRow.holds Try.pinned (OpenSpec.ofChange nearFewerWrong)

/- THE SECOND FORM. 'bulk': how many values and letters a reading holds, each counted each time it is reached (what is shared counts as often as it is met; a slice's spare places count too). A statement '..UptoSaid' is the law's where the arguments, and the package variables that the reading takes, are together of bulk at most 1048576: NARROWER than '..Said'. Prove '..Said' where nothing that the law and all that it calls make is longer than what came in: it says more and counts as full. Else prove '..UptoSaid'. A law counts once. -/
mutual
def uptoBulk {H : Type} : DataW H → Nat
  | .lit (.string bytes) => bytes.length + 1
  | .lit _ => 1
  | .nil => 1
  | .ptr d => uptoBulk d + 1
  | .slice elems spare => uptoBulkAll elems + uptoBulkAll spare + 1
  | .agg parts => uptoBulkAll parts + 1
  | .iface _ d => uptoBulk d + 1
  | .map entries => uptoBulkEntries entries + 1
  | .held _ => 1
def uptoBulkAll {H : Type} : List (DataW H) → Nat
  | [] => 0
  | d :: r => uptoBulk d + uptoBulkAll r
def uptoBulkEntries {H : Type} : List (Lit × DataW H) → Nat
  | [] => 0
  | x :: r => uptoBulkEntry x + uptoBulkEntries r
def uptoBulkEntry {H : Type} : Lit × DataW H → Nat
  | (.string bytes, d) => bytes.length + uptoBulk d + 1
  | (_, d) => uptoBulk d + 1
 end
def uptoSmall : (H : Type) → List (DataW H) → Bool := fun _ ds => decide (uptoBulkAll ds ≤ 1048576)
def OpenSpec.upto (s : _root_.Go.ChangeSpec) : _root_.Go.OpenSpec := { _root_.Go.OpenSpec.ofChange s with cond := some uptoSmall }

/-- 'waysidelaw09.NearSound', WHERE WHAT IT READS IS OF BULK AT MOST 1048576: true; the input reads as it did. -/
def nearSoundUptoRow : OpenClaim := { program := "ytgiofefdfcaibaa", sum := "805639e311d361cf633a8f16f98467772a3ea7adc1d6877a007252344d5f1828", func := "wayside/waysidelaw09.NearSound", spec := "nearSound", inPlace := ["internal/bytealg.abigen_runtime_cmpstring"], unfollowed := true, recurses := true, apart := false, narrowed := true }
def NearSoundUptoSaid : Prop := nearSoundUptoRow.holds Try.pinned (OpenSpec.upto nearSoundSpec)

/-- 'waysidelaw09.NearWider', WHERE WHAT IT READS IS OF BULK AT MOST 1048576: true; the input reads as it did. -/
def nearWiderUptoRow : OpenClaim := { program := "ytgiofefdfcaibaa", sum := "805639e311d361cf633a8f16f98467772a3ea7adc1d6877a007252344d5f1828", func := "wayside/waysidelaw09.NearWider", spec := "nearWider", inPlace := ["internal/bytealg.abigen_runtime_cmpstring"], unfollowed := true, recurses := true, apart := false, narrowed := true }
def NearWiderUptoSaid : Prop := nearWiderUptoRow.holds Try.pinned (OpenSpec.upto nearWiderSpec)

/-- 'waysidelaw09.NearFewer', WHERE WHAT IT READS IS OF BULK AT MOST 1048576: true; the input reads as it did. -/
def nearFewerUptoRow : OpenClaim := { program := "ytgiofefdfcaibaa", sum := "805639e311d361cf633a8f16f98467772a3ea7adc1d6877a007252344d5f1828", func := "wayside/waysidelaw09.NearFewer", spec := "nearFewer", inPlace := ["internal/bytealg.abigen_runtime_cmpstring"], unfollowed := true, recurses := true, apart := false, narrowed := true }
def NearFewerUptoSaid : Prop := nearFewerUptoRow.holds Try.pinned (OpenSpec.upto nearFewerSpec)

end Rows
end Go.Proofs.Ytgiofefdfcaibaa
