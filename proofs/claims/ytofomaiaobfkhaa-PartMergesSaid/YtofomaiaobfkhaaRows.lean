/-
  No cell of these rows narrows 'for every input' (looked for: loops, veiled, ifaces, maps, wideKeys, modest, calm, conditions, laid).
  DERIVED. THE GIVEN ROWS OF THIS SEAT. 5 by the template 'for every input the law returns true; each argument reads behind the call as it read before'; 0 by the template 'total and deterministic' (their statements: YtofomaiaobfkhaaTotals.lean).
  GIVEN WITH THE SEED: the statements are not yours to turn. If you find one false, say at which input.
  Laid BY PROGRAM, IN A SANDBOX (cutbox-rows.mjs): the forced cells as the released guide's own fill.sh prints them over the translation 001c332b491bde5b… (all of the seat's roots in one cut). By AI agents, Wed Nov 11 2026. No macro, syntax, notation, axiom, sorry.
-/
import Derived.Test.YtofomaiaobfkhaaChecked
import GoSem.Claim
import GoSem.ClaimJoined
import GoSem.ClaimMapViews
import Derived.JoinedTies
import Derived.KernelRfl
namespace Go.Proofs.Ytofomaiaobfkhaa
/- THE CELL 'sum', in the pinned program and in every row, IS THE sha256 OF THE DUMP (.gsa) THAT YtofomaiaobfkhaaProg.lean LOADS. Nothing in Lean hashes anything: it is a label: what it is worth is what the hold of that sum in a sandbox is worth. -/
noncomputable def Try.pinned : Pinned := { name := "ytofomaiaobfkhaa", sum := "001c332b491bde5bd54a4e651d2da9b8f2e0d0c9ace07d29c287b51a28318aa1", checked := Try.checked }
namespace Rows
def none {H : Type} : Left H := { results := [], args := [] }

/-- 'waysidelaw06.PartHomes': WHATEVER THE INPUT: true; the input reads as it did. -/
def partHomesSpec : ChangeSpec := { name := "partHomes", fn := fun _ => fun
  | [d1, d2, d3, d4] => { results := [.lit (.bool true)], args := [d1, d2, d3, d4] }
  | _ => none }
def partHomesRow : OpenClaim := { program := "ytofomaiaobfkhaa", sum := "001c332b491bde5bd54a4e651d2da9b8f2e0d0c9ace07d29c287b51a28318aa1", func := "wayside/waysidelaw06.PartHomes", spec := "partHomes", unfollowed := true, recurses := true, apart := false }
def PartHomesSaid : Prop := partHomesRow.holds Try.pinned (OpenSpec.ofChange partHomesSpec)

/-- ITS FALSE NEIGHBOUR: 'it returns false'. Refute it at one input. -/
def partHomesWrong : ChangeSpec := { name := "partHomes", fn := fun _ => fun
  | [d1, d2, d3, d4] => { results := [.lit (.bool false)], args := [d1, d2, d3, d4] }
  | _ => none }
def PartHomesWrongFalsely : Prop := partHomesRow.holds Try.pinned (OpenSpec.ofChange partHomesWrong)

/-- 'waysidelaw06.PartMerges': WHATEVER THE INPUT: true; the input reads as it did. -/
def partMergesSpec : ChangeSpec := { name := "partMerges", fn := fun _ => fun
  | [d] => { results := [.lit (.bool true)], args := [d] }
  | _ => none }
def partMergesRow : OpenClaim := { program := "ytofomaiaobfkhaa", sum := "001c332b491bde5bd54a4e651d2da9b8f2e0d0c9ace07d29c287b51a28318aa1", func := "wayside/waysidelaw06.PartMerges", spec := "partMerges", unfollowed := true, recurses := true, apart := false }
def PartMergesSaid : Prop := partMergesRow.holds Try.pinned (OpenSpec.ofChange partMergesSpec)

/-- ITS FALSE NEIGHBOUR: 'it returns false'. Refute it at one input. -/
def partMergesWrong : ChangeSpec := { name := "partMerges", fn := fun _ => fun
  | [d] => { results := [.lit (.bool false)], args := [d] }
  | _ => none }
def PartMergesWrongFalsely : Prop := partMergesRow.holds Try.pinned (OpenSpec.ofChange partMergesWrong)

/-- 'waysidelaw06.PartWhole': WHATEVER THE INPUT: true; the input reads as it did. -/
def partWholeSpec : ChangeSpec := { name := "partWhole", fn := fun _ => fun
  | [d1, d2] => { results := [.lit (.bool true)], args := [d1, d2] }
  | _ => none }
def partWholeRow : OpenClaim := { program := "ytofomaiaobfkhaa", sum := "001c332b491bde5bd54a4e651d2da9b8f2e0d0c9ace07d29c287b51a28318aa1", func := "wayside/waysidelaw06.PartWhole", spec := "partWhole", unfollowed := true, recurses := true, apart := false }
def PartWholeSaid : Prop := partWholeRow.holds Try.pinned (OpenSpec.ofChange partWholeSpec)

/-- ITS FALSE NEIGHBOUR: 'it returns false'. Refute it at one input. -/
def partWholeWrong : ChangeSpec := { name := "partWhole", fn := fun _ => fun
  | [d1, d2] => { results := [.lit (.bool false)], args := [d1, d2] }
  | _ => none }
def PartWholeWrongFalsely : Prop := partWholeRow.holds Try.pinned (OpenSpec.ofChange partWholeWrong)

/-- 'waysidelaw06.PartBack': WHATEVER THE INPUT: true; the input reads as it did. -/
def partBackSpec : ChangeSpec := { name := "partBack", fn := fun _ => fun
  | [d1, d2] => { results := [.lit (.bool true)], args := [d1, d2] }
  | _ => none }
def partBackRow : OpenClaim := { program := "ytofomaiaobfkhaa", sum := "001c332b491bde5bd54a4e651d2da9b8f2e0d0c9ace07d29c287b51a28318aa1", func := "wayside/waysidelaw06.PartBack", spec := "partBack", unfollowed := true, recurses := true, apart := false }
def PartBackSaid : Prop := partBackRow.holds Try.pinned (OpenSpec.ofChange partBackSpec)

/-- ITS FALSE NEIGHBOUR: 'it returns false'. Refute it at one input. -/
def partBackWrong : ChangeSpec := { name := "partBack", fn := fun _ => fun
  | [d1, d2] => { results := [.lit (.bool false)], args := [d1, d2] }
  | _ => none }
def PartBackWrongFalsely : Prop := partBackRow.holds Try.pinned (OpenSpec.ofChange partBackWrong)

/-- 'waysidelaw06.PartRows': WHATEVER THE INPUT: true; the input reads as it did. -/
def partRowsSpec : ChangeSpec := { name := "partRows", fn := fun _ => fun
  | [d] => { results := [.lit (.bool true)], args := [d] }
  | _ => none }
def partRowsRow : OpenClaim := { program := "ytofomaiaobfkhaa", sum := "001c332b491bde5bd54a4e651d2da9b8f2e0d0c9ace07d29c287b51a28318aa1", func := "wayside/waysidelaw06.PartRows", spec := "partRows", unfollowed := true, recurses := true, apart := false }
def PartRowsSaid : Prop := partRowsRow.holds Try.pinned (OpenSpec.ofChange partRowsSpec)

/-- ITS FALSE NEIGHBOUR: 'it returns false'. Refute it at one input. -/
def partRowsWrong : ChangeSpec := { name := "partRows", fn := fun _ => fun
  | [d] => { results := [.lit (.bool false)], args := [d] }
  | _ => none }
def PartRowsWrongFalsely : Prop := partRowsRow.holds Try.pinned (OpenSpec.ofChange partRowsWrong)

/- THE SECOND FORM. 'bulk': how many values and letters a reading holds, each counted each time it is reached (what is shared counts as often as it is met; a slice's spare places count too). A statement '..UptoSaid' is the law's where the arguments, and the package variables that the reading takes, are together of bulk at most 1048576: NARROWER than '..Said'. Prove '..Said' where nothing that the law and all that it calls make is longer than what came in: it says more and counts as full. Else prove '..UptoSaid'. A law counts once. -/
mutual
def uptoBulk {H : Type} : DataW H → Nat
  | .lit (.string bytes) => bytes.length + 1
  | .lit _ => 1
  | .nil => 1
  | .ptr d => uptoBulk d + 1
  | .slice elems spare => uptoBulkAll elems + uptoBulkAll spare + 1
  | .agg parts => uptoBulkAll parts + 1
  | .iface _ d => uptoBulk d + 1
  | .map entries => uptoBulkEntries entries + 1
  | .held _ => 1
def uptoBulkAll {H : Type} : List (DataW H) → Nat
  | [] => 0
  | d :: r => uptoBulk d + uptoBulkAll r
def uptoBulkEntries {H : Type} : List (Lit × DataW H) → Nat
  | [] => 0
  | x :: r => uptoBulkEntry x + uptoBulkEntries r
def uptoBulkEntry {H : Type} : Lit × DataW H → Nat
  | (.string bytes, d) => bytes.length + uptoBulk d + 1
  | (_, d) => uptoBulk d + 1
 end
def uptoSmall : (H : Type) → List (DataW H) → Bool := fun _ ds => decide (uptoBulkAll ds ≤ 1048576)
def OpenSpec.upto (s : _root_.Go.ChangeSpec) : _root_.Go.OpenSpec := { _root_.Go.OpenSpec.ofChange s with cond := some uptoSmall }

/-- 'waysidelaw06.PartHomes', WHERE WHAT IT READS IS OF BULK AT MOST 1048576: true; the input reads as it did. -/
def partHomesUptoRow : OpenClaim := { program := "ytofomaiaobfkhaa", sum := "001c332b491bde5bd54a4e651d2da9b8f2e0d0c9ace07d29c287b51a28318aa1", func := "wayside/waysidelaw06.PartHomes", spec := "partHomes", unfollowed := true, recurses := true, apart := false, narrowed := true }
def PartHomesUptoSaid : Prop := partHomesUptoRow.holds Try.pinned (OpenSpec.upto partHomesSpec)

/-- 'waysidelaw06.PartMerges', WHERE WHAT IT READS IS OF BULK AT MOST 1048576: true; the input reads as it did. -/
def partMergesUptoRow : OpenClaim := { program := "ytofomaiaobfkhaa", sum := "001c332b491bde5bd54a4e651d2da9b8f2e0d0c9ace07d29c287b51a28318aa1", func := "wayside/waysidelaw06.PartMerges", spec := "partMerges", unfollowed := true, recurses := true, apart := false, narrowed := true }
def PartMergesUptoSaid : Prop := partMergesUptoRow.holds Try.pinned (OpenSpec.upto partMergesSpec)

/-- 'waysidelaw06.PartWhole', WHERE WHAT IT READS IS OF BULK AT MOST 1048576: true; the input reads as it did. -/
def partWholeUptoRow : OpenClaim := { program := "ytofomaiaobfkhaa", sum := "001c332b491bde5bd54a4e651d2da9b8f2e0d0c9ace07d29c287b51a28318aa1", func := "wayside/waysidelaw06.PartWhole", spec := "partWhole", unfollowed := true, recurses := true, apart := false, narrowed := true }
def PartWholeUptoSaid : Prop := partWholeUptoRow.holds Try.pinned (OpenSpec.upto partWholeSpec)

/-- 'waysidelaw06.PartBack', WHERE WHAT IT READS IS OF BULK AT MOST 1048576: true; the input reads as it did. -/
def partBackUptoRow : OpenClaim := { program := "ytofomaiaobfkhaa", sum := "001c332b491bde5bd54a4e651d2da9b8f2e0d0c9ace07d29c287b51a28318aa1", func := "wayside/waysidelaw06.PartBack", spec := "partBack", unfollowed := true, recurses := true, apart := false, narrowed := true }
def PartBackUptoSaid : Prop := partBackUptoRow.holds Try.pinned (OpenSpec.upto partBackSpec)

/-- 'waysidelaw06.PartRows', WHERE WHAT IT READS IS OF BULK AT MOST 1048576: true; the input reads as it did. -/
def partRowsUptoRow : OpenClaim := { program := "ytofomaiaobfkhaa", sum := "001c332b491bde5bd54a4e651d2da9b8f2e0d0c9ace07d29c287b51a28318aa1", func := "wayside/waysidelaw06.PartRows", spec := "partRows", unfollowed := true, recurses := true, apart := false, narrowed := true }
def PartRowsUptoSaid : Prop := partRowsUptoRow.holds Try.pinned (OpenSpec.upto partRowsSpec)

end Rows
end Go.Proofs.Ytofomaiaobfkhaa
