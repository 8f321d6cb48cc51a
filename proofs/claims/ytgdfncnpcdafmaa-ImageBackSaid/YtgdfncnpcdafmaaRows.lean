/-
  No cell of these rows narrows 'for every input' (looked for: loops, veiled, ifaces, maps, wideKeys, modest, calm, conditions, laid).
  DERIVED. THE GIVEN ROWS OF THIS SEAT. 5 by the template 'for every input the law returns true; each argument reads behind the call as it read before'; 0 by the template 'total and deterministic' (their statements: YtgdfncnpcdafmaaTotals.lean).
  GIVEN WITH THE SEED: the statements are not yours to turn. If you find one false, say at which input.
  Laid BY PROGRAM, IN A SANDBOX (cutbox-rows.mjs): the forced cells as the released guide's own fill.sh prints them over the translation 1fb3e97bcb09548c… (all of the seat's roots in one cut). By AI agents, Wed Nov 11 2026. No macro, syntax, notation, axiom, sorry.
-/
import Derived.Test.YtgdfncnpcdafmaaChecked
import GoSem.Claim
import GoSem.ClaimJoined
import GoSem.ClaimMapViews
import Derived.JoinedTies
import Derived.KernelRfl
namespace Go.Proofs.Ytgdfncnpcdafmaa
/- THE CELL 'sum', in the pinned program and in every row, IS THE sha256 OF THE DUMP (.gsa) THAT YtgdfncnpcdafmaaProg.lean LOADS. Nothing in Lean hashes anything: it is a label: what it is worth is what the hold of that sum in a sandbox is worth. -/
noncomputable def Try.pinned : Pinned := { name := "ytgdfncnpcdafmaa", sum := "1fb3e97bcb09548ce551da0b529065e6c7f575e5eaaeb12347b15d2f4af76739", checked := Try.checked }
namespace Rows
def none {H : Type} : Left H := { results := [], args := [] }

/-- 'waysidelaw03.ImagePrints': WHATEVER THE INPUT: true; the input reads as it did. -/
def imagePrintsSpec : ChangeSpec := { name := "imagePrints", fn := fun _ => fun
  | [d] => { results := [.lit (.bool true)], args := [d] }
  | _ => none }
def imagePrintsRow : OpenClaim := { program := "ytgdfncnpcdafmaa", sum := "1fb3e97bcb09548ce551da0b529065e6c7f575e5eaaeb12347b15d2f4af76739", func := "wayside/waysidelaw03.ImagePrints", spec := "imagePrints", inPlace := ["internal/bytealg.abigen_runtime_cmpstring"], unfollowed := true, recurses := true, apart := false }
def ImagePrintsSaid : Prop := imagePrintsRow.holds Try.pinned (OpenSpec.ofChange imagePrintsSpec)

/-- ITS FALSE NEIGHBOUR: 'it returns false'. Refute it at one input. -/
def imagePrintsWrong : ChangeSpec := { name := "imagePrints", fn := fun _ => fun
  | [d] => { results := [.lit (.bool false)], args := [d] }
  | _ => none }
def ImagePrintsWrongFalsely : Prop := imagePrintsRow.holds Try.pinned (OpenSpec.ofChange imagePrintsWrong)

/-- 'waysidelaw03.ImageParses': WHATEVER THE INPUT: true; the input reads as it did. -/
def imageParsesSpec : ChangeSpec := { name := "imageParses", fn := fun _ => fun
  | [d] => { results := [.lit (.bool true)], args := [d] }
  | _ => none }
def imageParsesRow : OpenClaim := { program := "ytgdfncnpcdafmaa", sum := "1fb3e97bcb09548ce551da0b529065e6c7f575e5eaaeb12347b15d2f4af76739", func := "wayside/waysidelaw03.ImageParses", spec := "imageParses", inPlace := ["internal/bytealg.abigen_runtime_cmpstring"], unfollowed := true, recurses := true, apart := false }
def ImageParsesSaid : Prop := imageParsesRow.holds Try.pinned (OpenSpec.ofChange imageParsesSpec)

/-- ITS FALSE NEIGHBOUR: 'it returns false'. Refute it at one input. -/
def imageParsesWrong : ChangeSpec := { name := "imageParses", fn := fun _ => fun
  | [d] => { results := [.lit (.bool false)], args := [d] }
  | _ => none }
def ImageParsesWrongFalsely : Prop := imageParsesRow.holds Try.pinned (OpenSpec.ofChange imageParsesWrong)

/-- 'waysidelaw03.ImageBack': WHATEVER THE INPUT: true; the input reads as it did. -/
def imageBackSpec : ChangeSpec := { name := "imageBack", fn := fun _ => fun
  | [d] => { results := [.lit (.bool true)], args := [d] }
  | _ => none }
def imageBackRow : OpenClaim := { program := "ytgdfncnpcdafmaa", sum := "1fb3e97bcb09548ce551da0b529065e6c7f575e5eaaeb12347b15d2f4af76739", func := "wayside/waysidelaw03.ImageBack", spec := "imageBack", inPlace := ["internal/bytealg.abigen_runtime_cmpstring"], unfollowed := true, recurses := true, apart := false }
def ImageBackSaid : Prop := imageBackRow.holds Try.pinned (OpenSpec.ofChange imageBackSpec)

/-- ITS FALSE NEIGHBOUR: 'it returns false'. Refute it at one input. -/
def imageBackWrong : ChangeSpec := { name := "imageBack", fn := fun _ => fun
  | [d] => { results := [.lit (.bool false)], args := [d] }
  | _ => none }
def ImageBackWrongFalsely : Prop := imageBackRow.holds Try.pinned (OpenSpec.ofChange imageBackWrong)

/-- 'waysidelaw03.ImageSame': WHATEVER THE INPUT: true; the input reads as it did. -/
def imageSameSpec : ChangeSpec := { name := "imageSame", fn := fun _ => fun
  | [d] => { results := [.lit (.bool true)], args := [d] }
  | _ => none }
def imageSameRow : OpenClaim := { program := "ytgdfncnpcdafmaa", sum := "1fb3e97bcb09548ce551da0b529065e6c7f575e5eaaeb12347b15d2f4af76739", func := "wayside/waysidelaw03.ImageSame", spec := "imageSame", inPlace := ["internal/bytealg.abigen_runtime_cmpstring"], unfollowed := true, recurses := true, apart := false }
def ImageSameSaid : Prop := imageSameRow.holds Try.pinned (OpenSpec.ofChange imageSameSpec)

/-- ITS FALSE NEIGHBOUR: 'it returns false'. Refute it at one input. -/
def imageSameWrong : ChangeSpec := { name := "imageSame", fn := fun _ => fun
  | [d] => { results := [.lit (.bool false)], args := [d] }
  | _ => none }
def ImageSameWrongFalsely : Prop := imageSameRow.holds Try.pinned (OpenSpec.ofChange imageSameWrong)

/-- 'waysidelaw03.ImageFront': WHATEVER THE INPUT: true; the input reads as it did. -/
def imageFrontSpec : ChangeSpec := { name := "imageFront", fn := fun _ => fun
  | [d1, d2] => { results := [.lit (.bool true)], args := [d1, d2] }
  | _ => none }
def imageFrontRow : OpenClaim := { program := "ytgdfncnpcdafmaa", sum := "1fb3e97bcb09548ce551da0b529065e6c7f575e5eaaeb12347b15d2f4af76739", func := "wayside/waysidelaw03.ImageFront", spec := "imageFront", inPlace := ["internal/bytealg.abigen_runtime_cmpstring"], unfollowed := true, recurses := true, apart := false }
def ImageFrontSaid : Prop := imageFrontRow.holds Try.pinned (OpenSpec.ofChange imageFrontSpec)

/-- ITS FALSE NEIGHBOUR: 'it returns false'. Refute it at one input. -/
def imageFrontWrong : ChangeSpec := { name := "imageFront", fn := fun _ => fun
  | [d1, d2] => { results := [.lit (.bool false)], args := [d1, d2] }
  | _ => none }
def ImageFrontWrongFalsely : Prop := imageFrontRow.holds Try.pinned (OpenSpec.ofChange imageFrontWrong)

/- THE SECOND FORM. 'bulk': how many values and letters a reading holds, each counted each time it is reached (what is shared counts as often as it is met; a slice's spare places count too). A statement '..UptoSaid' is the law's where the arguments, and the package variables that the reading takes, are together of bulk at most 1048576: NARROWER than '..Said'. Prove '..Said' where nothing that the law and all that it calls make is longer than what came in: it says more and counts as full. Else prove '..UptoSaid'. A law counts once. -/
mutual
def uptoBulk {H : Type} : DataW H → Nat
  | .lit (.string bytes) => bytes.length + 1
  | .lit _ => 1
  | .nil => 1
  | .ptr d => uptoBulk d + 1
  | .slice elems spare => uptoBulkAll elems + uptoBulkAll spare + 1
  | .agg parts => uptoBulkAll parts + 1
  | .iface _ d => uptoBulk d + 1
  | .map entries => uptoBulkEntries entries + 1
  | .held _ => 1
def uptoBulkAll {H : Type} : List (DataW H) → Nat
  | [] => 0
  | d :: r => uptoBulk d + uptoBulkAll r
def uptoBulkEntries {H : Type} : List (Lit × DataW H) → Nat
  | [] => 0
  | x :: r => uptoBulkEntry x + uptoBulkEntries r
def uptoBulkEntry {H : Type} : Lit × DataW H → Nat
  | (.string bytes, d) => bytes.length + uptoBulk d + 1
  | (_, d) => uptoBulk d + 1
 end
def uptoSmall : (H : Type) → List (DataW H) → Bool := fun _ ds => decide (uptoBulkAll ds ≤ 1048576)
def OpenSpec.upto (s : _root_.Go.ChangeSpec) : _root_.Go.OpenSpec := { _root_.Go.OpenSpec.ofChange s with cond := some uptoSmall }

/-- 'waysidelaw03.ImagePrints', WHERE WHAT IT READS IS OF BULK AT MOST 1048576: true; the input reads as it did. -/
def imagePrintsUptoRow : OpenClaim := { program := "ytgdfncnpcdafmaa", sum := "1fb3e97bcb09548ce551da0b529065e6c7f575e5eaaeb12347b15d2f4af76739", func := "wayside/waysidelaw03.ImagePrints", spec := "imagePrints", inPlace := ["internal/bytealg.abigen_runtime_cmpstring"], unfollowed := true, recurses := true, apart := false, narrowed := true }
def ImagePrintsUptoSaid : Prop := imagePrintsUptoRow.holds Try.pinned (OpenSpec.upto imagePrintsSpec)

/-- 'waysidelaw03.ImageParses', WHERE WHAT IT READS IS OF BULK AT MOST 1048576: true; the input reads as it did. -/
def imageParsesUptoRow : OpenClaim := { program := "ytgdfncnpcdafmaa", sum := "1fb3e97bcb09548ce551da0b529065e6c7f575e5eaaeb12347b15d2f4af76739", func := "wayside/waysidelaw03.ImageParses", spec := "imageParses", inPlace := ["internal/bytealg.abigen_runtime_cmpstring"], unfollowed := true, recurses := true, apart := false, narrowed := true }
def ImageParsesUptoSaid : Prop := imageParsesUptoRow.holds Try.pinned (OpenSpec.upto imageParsesSpec)

/-- 'waysidelaw03.ImageBack', WHERE WHAT IT READS IS OF BULK AT MOST 1048576: true; the input reads as it did. -/
def imageBackUptoRow : OpenClaim := { program := "ytgdfncnpcdafmaa", sum := "1fb3e97bcb09548ce551da0b529065e6c7f575e5eaaeb12347b15d2f4af76739", func := "wayside/waysidelaw03.ImageBack", spec := "imageBack", inPlace := ["internal/bytealg.abigen_runtime_cmpstring"], unfollowed := true, recurses := true, apart := false, narrowed := true }
def ImageBackUptoSaid : Prop := imageBackUptoRow.holds Try.pinned (OpenSpec.upto imageBackSpec)

/-- 'waysidelaw03.ImageSame', WHERE WHAT IT READS IS OF BULK AT MOST 1048576: true; the input reads as it did. -/
def imageSameUptoRow : OpenClaim := { program := "ytgdfncnpcdafmaa", sum := "1fb3e97bcb09548ce551da0b529065e6c7f575e5eaaeb12347b15d2f4af76739", func := "wayside/waysidelaw03.ImageSame", spec := "imageSame", inPlace := ["internal/bytealg.abigen_runtime_cmpstring"], unfollowed := true, recurses := true, apart := false, narrowed := true }
def ImageSameUptoSaid : Prop := imageSameUptoRow.holds Try.pinned (OpenSpec.upto imageSameSpec)

/-- 'waysidelaw03.ImageFront', WHERE WHAT IT READS IS OF BULK AT MOST 1048576: true; the input reads as it did. -/
def imageFrontUptoRow : OpenClaim := { program := "ytgdfncnpcdafmaa", sum := "1fb3e97bcb09548ce551da0b529065e6c7f575e5eaaeb12347b15d2f4af76739", func := "wayside/waysidelaw03.ImageFront", spec := "imageFront", inPlace := ["internal/bytealg.abigen_runtime_cmpstring"], unfollowed := true, recurses := true, apart := false, narrowed := true }
def ImageFrontUptoSaid : Prop := imageFrontUptoRow.holds Try.pinned (OpenSpec.upto imageFrontSpec)

end Rows
end Go.Proofs.Ytgdfncnpcdafmaa
