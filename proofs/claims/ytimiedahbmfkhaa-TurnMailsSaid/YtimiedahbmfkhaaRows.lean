/-
  No cell of these rows narrows 'for every input' (looked for: loops, veiled, ifaces, maps, wideKeys, modest, calm, conditions, laid).
  DERIVED. THE GIVEN ROWS OF THIS SEAT. 5 by the template 'for every input the law returns true; each argument reads behind the call as it read before'; 0 by the template 'total and deterministic' (their statements: YtimiedahbmfkhaaTotals.lean).
  GIVEN WITH THE SEED: the statements are not yours to turn. If you find one false, say at which input.
  Laid BY PROGRAM, IN A SANDBOX (cutbox-rows.mjs): the forced cells as the released guide's own fill.sh prints them over the translation 2fcab4d08f25d11c… (all of the seat's roots in one cut). By AI agents, Wed Nov 11 2026. No macro, syntax, notation, axiom, sorry.
-/
import Derived.Test.YtimiedahbmfkhaaChecked
import GoSem.Claim
import GoSem.ClaimJoined
import GoSem.ClaimMapViews
import Derived.JoinedTies
import Derived.KernelRfl
namespace Go.Proofs.Ytimiedahbmfkhaa
/- THE CELL 'sum', in the pinned program and in every row, IS THE sha256 OF THE DUMP (.gsa) THAT YtimiedahbmfkhaaProg.lean LOADS. Nothing in Lean hashes anything: it is a label: what it is worth is what the hold of that sum in a sandbox is worth. -/
noncomputable def Try.pinned : Pinned := { name := "ytimiedahbmfkhaa", sum := "2fcab4d08f25d11c7045701461be69ce18cc85322c7a57b03b99ac39fd5b641b", checked := Try.checked }
namespace Rows
def none {H : Type} : Left H := { results := [], args := [] }

/-- 'waysidelaw17.TurnOrders': WHATEVER THE INPUT: true; the input reads as it did. -/
def turnOrdersSpec : ChangeSpec := { name := "turnOrders", fn := fun _ => fun
  | [d1, d2, d3, d4, d5] => { results := [.lit (.bool true)], args := [d1, d2, d3, d4, d5] }
  | _ => none }
def turnOrdersRow : OpenClaim := { program := "ytimiedahbmfkhaa", sum := "2fcab4d08f25d11c7045701461be69ce18cc85322c7a57b03b99ac39fd5b641b", func := "wayside/waysidelaw17.TurnOrders", spec := "turnOrders", unfollowed := true, recurses := true, plainKeys := false, apart := false }
def TurnOrdersSaid : Prop := turnOrdersRow.holds Try.pinned (OpenSpec.ofChange turnOrdersSpec)

/-- ITS FALSE NEIGHBOUR: 'it returns false'. Refute it at one input. -/
def turnOrdersWrong : ChangeSpec := { name := "turnOrders", fn := fun _ => fun
  | [d1, d2, d3, d4, d5] => { results := [.lit (.bool false)], args := [d1, d2, d3, d4, d5] }
  | _ => none }
def TurnOrdersWrongFalsely : Prop := turnOrdersRow.holds Try.pinned (OpenSpec.ofChange turnOrdersWrong)

/-- 'waysidelaw17.TurnWhole': WHATEVER THE INPUT: true; the input reads as it did. -/
def turnWholeSpec : ChangeSpec := { name := "turnWhole", fn := fun _ => fun
  | [d1, d2] => { results := [.lit (.bool true)], args := [d1, d2] }
  | _ => none }
def turnWholeRow : OpenClaim := { program := "ytimiedahbmfkhaa", sum := "2fcab4d08f25d11c7045701461be69ce18cc85322c7a57b03b99ac39fd5b641b", func := "wayside/waysidelaw17.TurnWhole", spec := "turnWhole", unfollowed := true, recurses := true, plainKeys := false, apart := false }
def TurnWholeSaid : Prop := turnWholeRow.holds Try.pinned (OpenSpec.ofChange turnWholeSpec)

/-- ITS FALSE NEIGHBOUR: 'it returns false'. Refute it at one input. -/
def turnWholeWrong : ChangeSpec := { name := "turnWhole", fn := fun _ => fun
  | [d1, d2] => { results := [.lit (.bool false)], args := [d1, d2] }
  | _ => none }
def TurnWholeWrongFalsely : Prop := turnWholeRow.holds Try.pinned (OpenSpec.ofChange turnWholeWrong)

/-- 'waysidelaw17.TurnMails': WHATEVER THE INPUT: true; the input reads as it did. -/
def turnMailsSpec : ChangeSpec := { name := "turnMails", fn := fun _ => fun
  | [d1, d2] => { results := [.lit (.bool true)], args := [d1, d2] }
  | _ => none }
def turnMailsRow : OpenClaim := { program := "ytimiedahbmfkhaa", sum := "2fcab4d08f25d11c7045701461be69ce18cc85322c7a57b03b99ac39fd5b641b", func := "wayside/waysidelaw17.TurnMails", spec := "turnMails", unfollowed := true, recurses := true, plainKeys := false, apart := false }
def TurnMailsSaid : Prop := turnMailsRow.holds Try.pinned (OpenSpec.ofChange turnMailsSpec)

/-- ITS FALSE NEIGHBOUR: 'it returns false'. Refute it at one input. -/
def turnMailsWrong : ChangeSpec := { name := "turnMails", fn := fun _ => fun
  | [d1, d2] => { results := [.lit (.bool false)], args := [d1, d2] }
  | _ => none }
def TurnMailsWrongFalsely : Prop := turnMailsRow.holds Try.pinned (OpenSpec.ofChange turnMailsWrong)

/-- 'waysidelaw17.TurnLeft': WHATEVER THE INPUT: true; the input reads as it did. -/
def turnLeftSpec : ChangeSpec := { name := "turnLeft", fn := fun _ => fun
  | [d1, d2, d3] => { results := [.lit (.bool true)], args := [d1, d2, d3] }
  | _ => none }
def turnLeftRow : OpenClaim := { program := "ytimiedahbmfkhaa", sum := "2fcab4d08f25d11c7045701461be69ce18cc85322c7a57b03b99ac39fd5b641b", func := "wayside/waysidelaw17.TurnLeft", spec := "turnLeft", unfollowed := true, recurses := true, plainKeys := false, apart := false }
def TurnLeftSaid : Prop := turnLeftRow.holds Try.pinned (OpenSpec.ofChange turnLeftSpec)

/-- ITS FALSE NEIGHBOUR: 'it returns false'. Refute it at one input. -/
def turnLeftWrong : ChangeSpec := { name := "turnLeft", fn := fun _ => fun
  | [d1, d2, d3] => { results := [.lit (.bool false)], args := [d1, d2, d3] }
  | _ => none }
def TurnLeftWrongFalsely : Prop := turnLeftRow.holds Try.pinned (OpenSpec.ofChange turnLeftWrong)

/-- 'waysidelaw17.TurnDeals': WHATEVER THE INPUT: true; the input reads as it did. -/
def turnDealsSpec : ChangeSpec := { name := "turnDeals", fn := fun _ => fun
  | [d1, d2] => { results := [.lit (.bool true)], args := [d1, d2] }
  | _ => none }
def turnDealsRow : OpenClaim := { program := "ytimiedahbmfkhaa", sum := "2fcab4d08f25d11c7045701461be69ce18cc85322c7a57b03b99ac39fd5b641b", func := "wayside/waysidelaw17.TurnDeals", spec := "turnDeals", unfollowed := true, recurses := true, plainKeys := false, apart := false }
def TurnDealsSaid : Prop := turnDealsRow.holds Try.pinned (OpenSpec.ofChange turnDealsSpec)

/-- ITS FALSE NEIGHBOUR: 'it returns false'. Refute it at one input. -/
def turnDealsWrong : ChangeSpec := { name := "turnDeals", fn := fun _ => fun
  | [d1, d2] => { results := [.lit (.bool false)], args := [d1, d2] }
  | _ => none }
def TurnDealsWrongFalsely : Prop := turnDealsRow.holds Try.pinned (OpenSpec.ofChange turnDealsWrong)

/- THE SECOND FORM. 'bulk': how many values and letters a reading holds, each counted each time it is reached (what is shared counts as often as it is met; a slice's spare places count too). A statement '..UptoSaid' is the law's where the arguments, and the package variables that the reading takes, are together of bulk at most 1048576: NARROWER than '..Said'. Prove '..Said' where nothing that the law and all that it calls make is longer than what came in: it says more and counts as full. Else prove '..UptoSaid'. A law counts once. -/
mutual
def uptoBulk {H : Type} : DataW H → Nat
  | .lit (.string bytes) => bytes.length + 1
  | .lit _ => 1
  | .nil => 1
  | .ptr d => uptoBulk d + 1
  | .slice elems spare => uptoBulkAll elems + uptoBulkAll spare + 1
  | .agg parts => uptoBulkAll parts + 1
  | .iface _ d => uptoBulk d + 1
  | .map entries => uptoBulkEntries entries + 1
  | .held _ => 1
def uptoBulkAll {H : Type} : List (DataW H) → Nat
  | [] => 0
  | d :: r => uptoBulk d + uptoBulkAll r
def uptoBulkEntries {H : Type} : List (Lit × DataW H) → Nat
  | [] => 0
  | x :: r => uptoBulkEntry x + uptoBulkEntries r
def uptoBulkEntry {H : Type} : Lit × DataW H → Nat
  | (.string bytes, d) => bytes.length + uptoBulk d + 1
  | (_, d) => uptoBulk d + 1
 end
def uptoSmall : (H : Type) → List (DataW H) → Bool := fun _ ds => decide (uptoBulkAll ds ≤ 1048576)
def OpenSpec.upto (s : _root_.Go.ChangeSpec) : _root_.Go.OpenSpec := { _root_.Go.OpenSpec.ofChange s with cond := some uptoSmall }

/-- 'waysidelaw17.TurnOrders', WHERE WHAT IT READS IS OF BULK AT MOST 1048576: true; the input reads as it did. -/
def turnOrdersUptoRow : OpenClaim := { program := "ytimiedahbmfkhaa", sum := "2fcab4d08f25d11c7045701461be69ce18cc85322c7a57b03b99ac39fd5b641b", func := "wayside/waysidelaw17.TurnOrders", spec := "turnOrders", unfollowed := true, recurses := true, plainKeys := false, apart := false, narrowed := true }
def TurnOrdersUptoSaid : Prop := turnOrdersUptoRow.holds Try.pinned (OpenSpec.upto turnOrdersSpec)

/-- 'waysidelaw17.TurnWhole', WHERE WHAT IT READS IS OF BULK AT MOST 1048576: true; the input reads as it did. -/
def turnWholeUptoRow : OpenClaim := { program := "ytimiedahbmfkhaa", sum := "2fcab4d08f25d11c7045701461be69ce18cc85322c7a57b03b99ac39fd5b641b", func := "wayside/waysidelaw17.TurnWhole", spec := "turnWhole", unfollowed := true, recurses := true, plainKeys := false, apart := false, narrowed := true }
def TurnWholeUptoSaid : Prop := turnWholeUptoRow.holds Try.pinned (OpenSpec.upto turnWholeSpec)

/-- 'waysidelaw17.TurnMails', WHERE WHAT IT READS IS OF BULK AT MOST 1048576: true; the input reads as it did. -/
def turnMailsUptoRow : OpenClaim := { program := "ytimiedahbmfkhaa", sum := "2fcab4d08f25d11c7045701461be69ce18cc85322c7a57b03b99ac39fd5b641b", func := "wayside/waysidelaw17.TurnMails", spec := "turnMails", unfollowed := true, recurses := true, plainKeys := false, apart := false, narrowed := true }
def TurnMailsUptoSaid : Prop := turnMailsUptoRow.holds Try.pinned (OpenSpec.upto turnMailsSpec)

/-- 'waysidelaw17.TurnLeft', WHERE WHAT IT READS IS OF BULK AT MOST 1048576: true; the input reads as it did. -/
def turnLeftUptoRow : OpenClaim := { program := "ytimiedahbmfkhaa", sum := "2fcab4d08f25d11c7045701461be69ce18cc85322c7a57b03b99ac39fd5b641b", func := "wayside/waysidelaw17.TurnLeft", spec := "turnLeft", unfollowed := true, recurses := true, plainKeys := false, apart := false, narrowed := true }
def TurnLeftUptoSaid : Prop := turnLeftUptoRow.holds Try.pinned (OpenSpec.upto turnLeftSpec)

/-- 'waysidelaw17.TurnDeals', WHERE WHAT IT READS IS OF BULK AT MOST 1048576: true; the input reads as it did. -/
def turnDealsUptoRow : OpenClaim := { program := "ytimiedahbmfkhaa", sum := "2fcab4d08f25d11c7045701461be69ce18cc85322c7a57b03b99ac39fd5b641b", func := "wayside/waysidelaw17.TurnDeals", spec := "turnDeals", unfollowed := true, recurses := true, plainKeys := false, apart := false, narrowed := true }
def TurnDealsUptoSaid : Prop := turnDealsUptoRow.holds Try.pinned (OpenSpec.upto turnDealsSpec)

end Rows
end Go.Proofs.Ytimiedahbmfkhaa
