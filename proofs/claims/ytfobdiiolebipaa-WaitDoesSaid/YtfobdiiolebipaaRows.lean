/-
  No cell of these rows narrows 'for every input' (looked for: loops, veiled, ifaces, maps, wideKeys, modest, calm, conditions, laid).
  DERIVED. THE GIVEN ROWS OF THIS SEAT. 4 by the template 'for every input the law returns true; each argument reads behind the call as it read before'; 0 by the template 'total and deterministic' (their statements: YtfobdiiolebipaaTotals.lean).
  GIVEN WITH THE SEED: the statements are not yours to turn. If you find one false, say at which input.
  Laid BY PROGRAM, IN A SANDBOX (cutbox-rows.mjs): the forced cells as the released guide's own fill.sh prints them over the translation 4c7c88c23b253674… (all of the seat's roots in one cut). By AI agents, Wed Nov 11 2026. No macro, syntax, notation, axiom, sorry.
-/
import Derived.Test.YtfobdiiolebipaaChecked
import GoSem.Claim
import GoSem.ClaimJoined
import GoSem.ClaimMapViews
import Derived.JoinedTies
import Derived.KernelRfl
namespace Go.Proofs.Ytfobdiiolebipaa
/- THE CELL 'sum', in the pinned program and in every row, IS THE sha256 OF THE DUMP (.gsa) THAT YtfobdiiolebipaaProg.lean LOADS. Nothing in Lean hashes anything: it is a label: what it is worth is what the hold of that sum in a sandbox is worth. -/
noncomputable def Try.pinned : Pinned := { name := "ytfobdiiolebipaa", sum := "4c7c88c23b2536746c172ac770270415c5bcc8d10294bedb5b6aa912626aaf51", checked := Try.checked }
namespace Rows
def none {H : Type} : Left H := { results := [], args := [] }

/-- 'waysidelaw23.WaitDoes': WHATEVER THE INPUT: true; the input reads as it did. -/
def waitDoesSpec : ChangeSpec := { name := "waitDoes", fn := fun _ => fun
  | [d1, d2, d3, d4] => { results := [.lit (.bool true)], args := [d1, d2, d3, d4] }
  | _ => none }
def waitDoesRow : OpenClaim := { program := "ytfobdiiolebipaa", sum := "4c7c88c23b2536746c172ac770270415c5bcc8d10294bedb5b6aa912626aaf51", func := "wayside/waysidelaw23.WaitDoes", spec := "waitDoes", unfollowed := true, recurses := true, apart := false }
def WaitDoesSaid : Prop := waitDoesRow.holds Try.pinned (OpenSpec.ofChange waitDoesSpec)

/-- ITS FALSE NEIGHBOUR: 'it returns false'. Refute it at one input. -/
def waitDoesWrong : ChangeSpec := { name := "waitDoes", fn := fun _ => fun
  | [d1, d2, d3, d4] => { results := [.lit (.bool false)], args := [d1, d2, d3, d4] }
  | _ => none }
def WaitDoesWrongFalsely : Prop := waitDoesRow.holds Try.pinned (OpenSpec.ofChange waitDoesWrong)

/-- 'waysidelaw23.WaitOrder': WHATEVER THE INPUT: true; the input reads as it did. -/
def waitOrderSpec : ChangeSpec := { name := "waitOrder", fn := fun _ => fun
  | [d1, d2] => { results := [.lit (.bool true)], args := [d1, d2] }
  | _ => none }
def waitOrderRow : OpenClaim := { program := "ytfobdiiolebipaa", sum := "4c7c88c23b2536746c172ac770270415c5bcc8d10294bedb5b6aa912626aaf51", func := "wayside/waysidelaw23.WaitOrder", spec := "waitOrder", unfollowed := true, recurses := true, apart := false }
def WaitOrderSaid : Prop := waitOrderRow.holds Try.pinned (OpenSpec.ofChange waitOrderSpec)

/-- ITS FALSE NEIGHBOUR: 'it returns false'. Refute it at one input. -/
def waitOrderWrong : ChangeSpec := { name := "waitOrder", fn := fun _ => fun
  | [d1, d2] => { results := [.lit (.bool false)], args := [d1, d2] }
  | _ => none }
def WaitOrderWrongFalsely : Prop := waitOrderRow.holds Try.pinned (OpenSpec.ofChange waitOrderWrong)

/-- 'waysidelaw23.WaitBack': WHATEVER THE INPUT: true; the input reads as it did. -/
def waitBackSpec : ChangeSpec := { name := "waitBack", fn := fun _ => fun
  | [d1, d2] => { results := [.lit (.bool true)], args := [d1, d2] }
  | _ => none }
def waitBackRow : OpenClaim := { program := "ytfobdiiolebipaa", sum := "4c7c88c23b2536746c172ac770270415c5bcc8d10294bedb5b6aa912626aaf51", func := "wayside/waysidelaw23.WaitBack", spec := "waitBack", unfollowed := true, recurses := true, apart := false }
def WaitBackSaid : Prop := waitBackRow.holds Try.pinned (OpenSpec.ofChange waitBackSpec)

/-- ITS FALSE NEIGHBOUR: 'it returns false'. Refute it at one input. -/
def waitBackWrong : ChangeSpec := { name := "waitBack", fn := fun _ => fun
  | [d1, d2] => { results := [.lit (.bool false)], args := [d1, d2] }
  | _ => none }
def WaitBackWrongFalsely : Prop := waitBackRow.holds Try.pinned (OpenSpec.ofChange waitBackWrong)

/-- 'waysidelaw23.WaitFirst': WHATEVER THE INPUT: true; the input reads as it did. -/
def waitFirstSpec : ChangeSpec := { name := "waitFirst", fn := fun _ => fun
  | [d] => { results := [.lit (.bool true)], args := [d] }
  | _ => none }
def waitFirstRow : OpenClaim := { program := "ytfobdiiolebipaa", sum := "4c7c88c23b2536746c172ac770270415c5bcc8d10294bedb5b6aa912626aaf51", func := "wayside/waysidelaw23.WaitFirst", spec := "waitFirst", unfollowed := true, recurses := true, apart := false }
def WaitFirstSaid : Prop := waitFirstRow.holds Try.pinned (OpenSpec.ofChange waitFirstSpec)

/-- ITS FALSE NEIGHBOUR: 'it returns false'. Refute it at one input. -/
def waitFirstWrong : ChangeSpec := { name := "waitFirst", fn := fun _ => fun
  | [d] => { results := [.lit (.bool false)], args := [d] }
  | _ => none }
def WaitFirstWrongFalsely : Prop := waitFirstRow.holds Try.pinned (OpenSpec.ofChange waitFirstWrong)

/- THE SECOND FORM. 'bulk': how many values and letters a reading holds, each counted each time it is reached (what is shared counts as often as it is met; a slice's spare places count too). A statement '..UptoSaid' is the law's where the arguments, and the package variables that the reading takes, are together of bulk at most 1048576: NARROWER than '..Said'. Prove '..Said' where nothing that the law and all that it calls make is longer than what came in: it says more and counts as full. Else prove '..UptoSaid'. A law counts once. -/
mutual
def uptoBulk {H : Type} : DataW H → Nat
  | .lit (.string bytes) => bytes.length + 1
  | .lit _ => 1
  | .nil => 1
  | .ptr d => uptoBulk d + 1
  | .slice elems spare => uptoBulkAll elems + uptoBulkAll spare + 1
  | .agg parts => uptoBulkAll parts + 1
  | .iface _ d => uptoBulk d + 1
  | .map entries => uptoBulkEntries entries + 1
  | .held _ => 1
def uptoBulkAll {H : Type} : List (DataW H) → Nat
  | [] => 0
  | d :: r => uptoBulk d + uptoBulkAll r
def uptoBulkEntries {H : Type} : List (Lit × DataW H) → Nat
  | [] => 0
  | x :: r => uptoBulkEntry x + uptoBulkEntries r
def uptoBulkEntry {H : Type} : Lit × DataW H → Nat
  | (.string bytes, d) => bytes.length + uptoBulk d + 1
  | (_, d) => uptoBulk d + 1
 end
def uptoSmall : (H : Type) → List (DataW H) → Bool := fun _ ds => decide (uptoBulkAll ds ≤ 1048576)
def OpenSpec.upto (s : _root_.Go.ChangeSpec) : _root_.Go.OpenSpec := { _root_.Go.OpenSpec.ofChange s with cond := some uptoSmall }

/-- 'waysidelaw23.WaitDoes', WHERE WHAT IT READS IS OF BULK AT MOST 1048576: true; the input reads as it did. -/
def waitDoesUptoRow : OpenClaim := { program := "ytfobdiiolebipaa", sum := "4c7c88c23b2536746c172ac770270415c5bcc8d10294bedb5b6aa912626aaf51", func := "wayside/waysidelaw23.WaitDoes", spec := "waitDoes", unfollowed := true, recurses := true, apart := false, narrowed := true }
def WaitDoesUptoSaid : Prop := waitDoesUptoRow.holds Try.pinned (OpenSpec.upto waitDoesSpec)

/-- 'waysidelaw23.WaitOrder', WHERE WHAT IT READS IS OF BULK AT MOST 1048576: true; the input reads as it did. -/
def waitOrderUptoRow : OpenClaim := { program := "ytfobdiiolebipaa", sum := "4c7c88c23b2536746c172ac770270415c5bcc8d10294bedb5b6aa912626aaf51", func := "wayside/waysidelaw23.WaitOrder", spec := "waitOrder", unfollowed := true, recurses := true, apart := false, narrowed := true }
def WaitOrderUptoSaid : Prop := waitOrderUptoRow.holds Try.pinned (OpenSpec.upto waitOrderSpec)

/-- 'waysidelaw23.WaitBack', WHERE WHAT IT READS IS OF BULK AT MOST 1048576: true; the input reads as it did. -/
def waitBackUptoRow : OpenClaim := { program := "ytfobdiiolebipaa", sum := "4c7c88c23b2536746c172ac770270415c5bcc8d10294bedb5b6aa912626aaf51", func := "wayside/waysidelaw23.WaitBack", spec := "waitBack", unfollowed := true, recurses := true, apart := false, narrowed := true }
def WaitBackUptoSaid : Prop := waitBackUptoRow.holds Try.pinned (OpenSpec.upto waitBackSpec)

/-- 'waysidelaw23.WaitFirst', WHERE WHAT IT READS IS OF BULK AT MOST 1048576: true; the input reads as it did. -/
def waitFirstUptoRow : OpenClaim := { program := "ytfobdiiolebipaa", sum := "4c7c88c23b2536746c172ac770270415c5bcc8d10294bedb5b6aa912626aaf51", func := "wayside/waysidelaw23.WaitFirst", spec := "waitFirst", unfollowed := true, recurses := true, apart := false, narrowed := true }
def WaitFirstUptoSaid : Prop := waitFirstUptoRow.holds Try.pinned (OpenSpec.upto waitFirstSpec)

end Rows
end Go.Proofs.Ytfobdiiolebipaa
