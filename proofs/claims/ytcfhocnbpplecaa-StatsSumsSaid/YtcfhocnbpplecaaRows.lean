/-
  No cell of these rows narrows 'for every input' (looked for: loops, veiled, ifaces, maps, wideKeys, modest, calm, conditions, laid).
  DERIVED. THE GIVEN ROWS OF THIS SEAT. 9 by the template 'for every input the law returns true; each argument reads behind the call as it read before'; 0 by the template 'total and deterministic' (their statements: YtcfhocnbpplecaaTotals.lean).
  GIVEN WITH THE SEED: the statements are not yours to turn. If you find one false, say at which input.
  Laid BY PROGRAM, IN A SANDBOX (cutbox-rows.mjs): the forced cells as the released guide's own fill.sh prints them over the translation b6412d3eae525436… (all of the seat's roots in one cut). By AI agents, Wed Nov 11 2026. No macro, syntax, notation, axiom, sorry.
-/
import Derived.Test.YtcfhocnbpplecaaChecked
import GoSem.Claim
import GoSem.ClaimJoined
import GoSem.ClaimMapViews
import Derived.JoinedTies
import Derived.KernelRfl
namespace Go.Proofs.Ytcfhocnbpplecaa
/- THE CELL 'sum', in the pinned program and in every row, IS THE sha256 OF THE DUMP (.gsa) THAT YtcfhocnbpplecaaProg.lean LOADS. Nothing in Lean hashes anything: it is a label: what it is worth is what the hold of that sum in a sandbox is worth. -/
noncomputable def Try.pinned : Pinned := { name := "ytcfhocnbpplecaa", sum := "b6412d3eae5254368b52ce4e15e8a4f54a935763b3588104f2b5bd96510db6f1", checked := Try.checked }
namespace Rows
def none {H : Type} : Left H := { results := [], args := [] }

/-- 'waysidelaw22.FrameRequests': WHATEVER THE INPUT: true; the input reads as it did. -/
def frameRequestsSpec : ChangeSpec := { name := "frameRequests", fn := fun _ => fun
  | [d1, d2] => { results := [.lit (.bool true)], args := [d1, d2] }
  | _ => none }
def frameRequestsRow : OpenClaim := { program := "ytcfhocnbpplecaa", sum := "b6412d3eae5254368b52ce4e15e8a4f54a935763b3588104f2b5bd96510db6f1", func := "wayside/waysidelaw22.FrameRequests", spec := "frameRequests", unfollowed := true, recurses := true, apart := false }
def FrameRequestsSaid : Prop := frameRequestsRow.holds Try.pinned (OpenSpec.ofChange frameRequestsSpec)

/-- ITS FALSE NEIGHBOUR: 'it returns false'. Refute it at one input. -/
def frameRequestsWrong : ChangeSpec := { name := "frameRequests", fn := fun _ => fun
  | [d1, d2] => { results := [.lit (.bool false)], args := [d1, d2] }
  | _ => none }
def FrameRequestsWrongFalsely : Prop := frameRequestsRow.holds Try.pinned (OpenSpec.ofChange frameRequestsWrong)

/-- 'waysidelaw22.FrameReplies': WHATEVER THE INPUT: true; the input reads as it did. -/
def frameRepliesSpec : ChangeSpec := { name := "frameReplies", fn := fun _ => fun
  | [d1, d2] => { results := [.lit (.bool true)], args := [d1, d2] }
  | _ => none }
def frameRepliesRow : OpenClaim := { program := "ytcfhocnbpplecaa", sum := "b6412d3eae5254368b52ce4e15e8a4f54a935763b3588104f2b5bd96510db6f1", func := "wayside/waysidelaw22.FrameReplies", spec := "frameReplies", unfollowed := true, recurses := true, apart := false }
def FrameRepliesSaid : Prop := frameRepliesRow.holds Try.pinned (OpenSpec.ofChange frameRepliesSpec)

/-- ITS FALSE NEIGHBOUR: 'it returns false'. Refute it at one input. -/
def frameRepliesWrong : ChangeSpec := { name := "frameReplies", fn := fun _ => fun
  | [d1, d2] => { results := [.lit (.bool false)], args := [d1, d2] }
  | _ => none }
def FrameRepliesWrongFalsely : Prop := frameRepliesRow.holds Try.pinned (OpenSpec.ofChange frameRepliesWrong)

/-- 'waysidelaw22.FrameBack': WHATEVER THE INPUT: true; the input reads as it did. -/
def frameBackSpec : ChangeSpec := { name := "frameBack", fn := fun _ => fun
  | [d1, d2] => { results := [.lit (.bool true)], args := [d1, d2] }
  | _ => none }
def frameBackRow : OpenClaim := { program := "ytcfhocnbpplecaa", sum := "b6412d3eae5254368b52ce4e15e8a4f54a935763b3588104f2b5bd96510db6f1", func := "wayside/waysidelaw22.FrameBack", spec := "frameBack", unfollowed := true, recurses := true, apart := false }
def FrameBackSaid : Prop := frameBackRow.holds Try.pinned (OpenSpec.ofChange frameBackSpec)

/-- ITS FALSE NEIGHBOUR: 'it returns false'. Refute it at one input. -/
def frameBackWrong : ChangeSpec := { name := "frameBack", fn := fun _ => fun
  | [d1, d2] => { results := [.lit (.bool false)], args := [d1, d2] }
  | _ => none }
def FrameBackWrongFalsely : Prop := frameBackRow.holds Try.pinned (OpenSpec.ofChange frameBackWrong)

/-- 'waysidelaw22.FrameSame': WHATEVER THE INPUT: true; the input reads as it did. -/
def frameSameSpec : ChangeSpec := { name := "frameSame", fn := fun _ => fun
  | [d] => { results := [.lit (.bool true)], args := [d] }
  | _ => none }
def frameSameRow : OpenClaim := { program := "ytcfhocnbpplecaa", sum := "b6412d3eae5254368b52ce4e15e8a4f54a935763b3588104f2b5bd96510db6f1", func := "wayside/waysidelaw22.FrameSame", spec := "frameSame", unfollowed := true, recurses := true, apart := false }
def FrameSameSaid : Prop := frameSameRow.holds Try.pinned (OpenSpec.ofChange frameSameSpec)

/-- ITS FALSE NEIGHBOUR: 'it returns false'. Refute it at one input. -/
def frameSameWrong : ChangeSpec := { name := "frameSame", fn := fun _ => fun
  | [d] => { results := [.lit (.bool false)], args := [d] }
  | _ => none }
def FrameSameWrongFalsely : Prop := frameSameRow.holds Try.pinned (OpenSpec.ofChange frameSameWrong)

/-- 'waysidelaw22.FrameApart': WHATEVER THE INPUT: true; the input reads as it did. -/
def frameApartSpec : ChangeSpec := { name := "frameApart", fn := fun _ => fun
  | [d1, d2, d3, d4] => { results := [.lit (.bool true)], args := [d1, d2, d3, d4] }
  | _ => none }
def frameApartRow : OpenClaim := { program := "ytcfhocnbpplecaa", sum := "b6412d3eae5254368b52ce4e15e8a4f54a935763b3588104f2b5bd96510db6f1", func := "wayside/waysidelaw22.FrameApart", spec := "frameApart", unfollowed := true, recurses := true, apart := false }
def FrameApartSaid : Prop := frameApartRow.holds Try.pinned (OpenSpec.ofChange frameApartSpec)

/-- ITS FALSE NEIGHBOUR: 'it returns false'. Refute it at one input. -/
def frameApartWrong : ChangeSpec := { name := "frameApart", fn := fun _ => fun
  | [d1, d2, d3, d4] => { results := [.lit (.bool false)], args := [d1, d2, d3, d4] }
  | _ => none }
def FrameApartWrongFalsely : Prop := frameApartRow.holds Try.pinned (OpenSpec.ofChange frameApartWrong)

/-- 'waysidelaw26.StatsTell': WHATEVER THE INPUT: true; the input reads as it did. -/
def statsTellSpec : ChangeSpec := { name := "statsTell", fn := fun _ => fun
  | [d1, d2] => { results := [.lit (.bool true)], args := [d1, d2] }
  | _ => none }
def statsTellRow : OpenClaim := { program := "ytcfhocnbpplecaa", sum := "b6412d3eae5254368b52ce4e15e8a4f54a935763b3588104f2b5bd96510db6f1", func := "wayside/waysidelaw26.StatsTell", spec := "statsTell", unfollowed := true, recurses := true, apart := false }
def StatsTellSaid : Prop := statsTellRow.holds Try.pinned (OpenSpec.ofChange statsTellSpec)

/-- ITS FALSE NEIGHBOUR: 'it returns false'. Refute it at one input. -/
def statsTellWrong : ChangeSpec := { name := "statsTell", fn := fun _ => fun
  | [d1, d2] => { results := [.lit (.bool false)], args := [d1, d2] }
  | _ => none }
def StatsTellWrongFalsely : Prop := statsTellRow.holds Try.pinned (OpenSpec.ofChange statsTellWrong)

/-- 'waysidelaw26.StatsSums': WHATEVER THE INPUT: true; the input reads as it did. -/
def statsSumsSpec : ChangeSpec := { name := "statsSums", fn := fun _ => fun
  | [d1, d2, d3] => { results := [.lit (.bool true)], args := [d1, d2, d3] }
  | _ => none }
def statsSumsRow : OpenClaim := { program := "ytcfhocnbpplecaa", sum := "b6412d3eae5254368b52ce4e15e8a4f54a935763b3588104f2b5bd96510db6f1", func := "wayside/waysidelaw26.StatsSums", spec := "statsSums", unfollowed := true, recurses := true, apart := false }
def StatsSumsSaid : Prop := statsSumsRow.holds Try.pinned (OpenSpec.ofChange statsSumsSpec)

/-- ITS FALSE NEIGHBOUR: 'it returns false'. Refute it at one input. -/
def statsSumsWrong : ChangeSpec := { name := "statsSums", fn := fun _ => fun
  | [d1, d2, d3] => { results := [.lit (.bool false)], args := [d1, d2, d3] }
  | _ => none }
def StatsSumsWrongFalsely : Prop := statsSumsRow.holds Try.pinned (OpenSpec.ofChange statsSumsWrong)

/-- 'waysidelaw26.StatsOnce': WHATEVER THE INPUT: true; the input reads as it did. -/
def statsOnceSpec : ChangeSpec := { name := "statsOnce", fn := fun _ => fun
  | [d] => { results := [.lit (.bool true)], args := [d] }
  | _ => none }
def statsOnceRow : OpenClaim := { program := "ytcfhocnbpplecaa", sum := "b6412d3eae5254368b52ce4e15e8a4f54a935763b3588104f2b5bd96510db6f1", func := "wayside/waysidelaw26.StatsOnce", spec := "statsOnce", unfollowed := true, recurses := true, apart := false }
def StatsOnceSaid : Prop := statsOnceRow.holds Try.pinned (OpenSpec.ofChange statsOnceSpec)

/-- ITS FALSE NEIGHBOUR: 'it returns false'. Refute it at one input. -/
def statsOnceWrong : ChangeSpec := { name := "statsOnce", fn := fun _ => fun
  | [d] => { results := [.lit (.bool false)], args := [d] }
  | _ => none }
def StatsOnceWrongFalsely : Prop := statsOnceRow.holds Try.pinned (OpenSpec.ofChange statsOnceWrong)

/-- 'waysidelaw26.StatsBack': WHATEVER THE INPUT: true; the input reads as it did. -/
def statsBackSpec : ChangeSpec := { name := "statsBack", fn := fun _ => fun
  | [d1, d2] => { results := [.lit (.bool true)], args := [d1, d2] }
  | _ => none }
def statsBackRow : OpenClaim := { program := "ytcfhocnbpplecaa", sum := "b6412d3eae5254368b52ce4e15e8a4f54a935763b3588104f2b5bd96510db6f1", func := "wayside/waysidelaw26.StatsBack", spec := "statsBack", unfollowed := true, recurses := true, apart := false }
def StatsBackSaid : Prop := statsBackRow.holds Try.pinned (OpenSpec.ofChange statsBackSpec)

/-- ITS FALSE NEIGHBOUR: 'it returns false'. Refute it at one input. -/
def statsBackWrong : ChangeSpec := { name := "statsBack", fn := fun _ => fun
  | [d1, d2] => { results := [.lit (.bool false)], args := [d1, d2] }
  | _ => none }
def StatsBackWrongFalsely : Prop := statsBackRow.holds Try.pinned (OpenSpec.ofChange statsBackWrong)

/- THE SECOND FORM. 'bulk': how many values and letters a reading holds, each counted each time it is reached (what is shared counts as often as it is met; a slice's spare places count too). A statement '..UptoSaid' is the law's where the arguments, and the package variables that the reading takes, are together of bulk at most 1048576: NARROWER than '..Said'. Prove '..Said' where nothing that the law and all that it calls make is longer than what came in: it says more and counts as full. Else prove '..UptoSaid'. A law counts once. -/
mutual
def uptoBulk {H : Type} : DataW H → Nat
  | .lit (.string bytes) => bytes.length + 1
  | .lit _ => 1
  | .nil => 1
  | .ptr d => uptoBulk d + 1
  | .slice elems spare => uptoBulkAll elems + uptoBulkAll spare + 1
  | .agg parts => uptoBulkAll parts + 1
  | .iface _ d => uptoBulk d + 1
  | .map entries => uptoBulkEntries entries + 1
  | .held _ => 1
def uptoBulkAll {H : Type} : List (DataW H) → Nat
  | [] => 0
  | d :: r => uptoBulk d + uptoBulkAll r
def uptoBulkEntries {H : Type} : List (Lit × DataW H) → Nat
  | [] => 0
  | x :: r => uptoBulkEntry x + uptoBulkEntries r
def uptoBulkEntry {H : Type} : Lit × DataW H → Nat
  | (.string bytes, d) => bytes.length + uptoBulk d + 1
  | (_, d) => uptoBulk d + 1
 end
def uptoSmall : (H : Type) → List (DataW H) → Bool := fun _ ds => decide (uptoBulkAll ds ≤ 1048576)
def OpenSpec.upto (s : _root_.Go.ChangeSpec) : _root_.Go.OpenSpec := { _root_.Go.OpenSpec.ofChange s with cond := some uptoSmall }

/-- 'waysidelaw22.FrameRequests', WHERE WHAT IT READS IS OF BULK AT MOST 1048576: true; the input reads as it did. -/
def frameRequestsUptoRow : OpenClaim := { program := "ytcfhocnbpplecaa", sum := "b6412d3eae5254368b52ce4e15e8a4f54a935763b3588104f2b5bd96510db6f1", func := "wayside/waysidelaw22.FrameRequests", spec := "frameRequests", unfollowed := true, recurses := true, apart := false, narrowed := true }
def FrameRequestsUptoSaid : Prop := frameRequestsUptoRow.holds Try.pinned (OpenSpec.upto frameRequestsSpec)

/-- 'waysidelaw22.FrameReplies', WHERE WHAT IT READS IS OF BULK AT MOST 1048576: true; the input reads as it did. -/
def frameRepliesUptoRow : OpenClaim := { program := "ytcfhocnbpplecaa", sum := "b6412d3eae5254368b52ce4e15e8a4f54a935763b3588104f2b5bd96510db6f1", func := "wayside/waysidelaw22.FrameReplies", spec := "frameReplies", unfollowed := true, recurses := true, apart := false, narrowed := true }
def FrameRepliesUptoSaid : Prop := frameRepliesUptoRow.holds Try.pinned (OpenSpec.upto frameRepliesSpec)

/-- 'waysidelaw22.FrameBack', WHERE WHAT IT READS IS OF BULK AT MOST 1048576: true; the input reads as it did. -/
def frameBackUptoRow : OpenClaim := { program := "ytcfhocnbpplecaa", sum := "b6412d3eae5254368b52ce4e15e8a4f54a935763b3588104f2b5bd96510db6f1", func := "wayside/waysidelaw22.FrameBack", spec := "frameBack", unfollowed := true, recurses := true, apart := false, narrowed := true }
def FrameBackUptoSaid : Prop := frameBackUptoRow.holds Try.pinned (OpenSpec.upto frameBackSpec)

/-- 'waysidelaw22.FrameSame', WHERE WHAT IT READS IS OF BULK AT MOST 1048576: true; the input reads as it did. -/
def frameSameUptoRow : OpenClaim := { program := "ytcfhocnbpplecaa", sum := "b6412d3eae5254368b52ce4e15e8a4f54a935763b3588104f2b5bd96510db6f1", func := "wayside/waysidelaw22.FrameSame", spec := "frameSame", unfollowed := true, recurses := true, apart := false, narrowed := true }
def FrameSameUptoSaid : Prop := frameSameUptoRow.holds Try.pinned (OpenSpec.upto frameSameSpec)

/-- 'waysidelaw22.FrameApart', WHERE WHAT IT READS IS OF BULK AT MOST 1048576: true; the input reads as it did. -/
def frameApartUptoRow : OpenClaim := { program := "ytcfhocnbpplecaa", sum := "b6412d3eae5254368b52ce4e15e8a4f54a935763b3588104f2b5bd96510db6f1", func := "wayside/waysidelaw22.FrameApart", spec := "frameApart", unfollowed := true, recurses := true, apart := false, narrowed := true }
def FrameApartUptoSaid : Prop := frameApartUptoRow.holds Try.pinned (OpenSpec.upto frameApartSpec)

/-- 'waysidelaw26.StatsTell', WHERE WHAT IT READS IS OF BULK AT MOST 1048576: true; the input reads as it did. -/
def statsTellUptoRow : OpenClaim := { program := "ytcfhocnbpplecaa", sum := "b6412d3eae5254368b52ce4e15e8a4f54a935763b3588104f2b5bd96510db6f1", func := "wayside/waysidelaw26.StatsTell", spec := "statsTell", unfollowed := true, recurses := true, apart := false, narrowed := true }
def StatsTellUptoSaid : Prop := statsTellUptoRow.holds Try.pinned (OpenSpec.upto statsTellSpec)

/-- 'waysidelaw26.StatsSums', WHERE WHAT IT READS IS OF BULK AT MOST 1048576: true; the input reads as it did. -/
def statsSumsUptoRow : OpenClaim := { program := "ytcfhocnbpplecaa", sum := "b6412d3eae5254368b52ce4e15e8a4f54a935763b3588104f2b5bd96510db6f1", func := "wayside/waysidelaw26.StatsSums", spec := "statsSums", unfollowed := true, recurses := true, apart := false, narrowed := true }
def StatsSumsUptoSaid : Prop := statsSumsUptoRow.holds Try.pinned (OpenSpec.upto statsSumsSpec)

/-- 'waysidelaw26.StatsOnce', WHERE WHAT IT READS IS OF BULK AT MOST 1048576: true; the input reads as it did. -/
def statsOnceUptoRow : OpenClaim := { program := "ytcfhocnbpplecaa", sum := "b6412d3eae5254368b52ce4e15e8a4f54a935763b3588104f2b5bd96510db6f1", func := "wayside/waysidelaw26.StatsOnce", spec := "statsOnce", unfollowed := true, recurses := true, apart := false, narrowed := true }
def StatsOnceUptoSaid : Prop := statsOnceUptoRow.holds Try.pinned (OpenSpec.upto statsOnceSpec)

/-- 'waysidelaw26.StatsBack', WHERE WHAT IT READS IS OF BULK AT MOST 1048576: true; the input reads as it did. -/
def statsBackUptoRow : OpenClaim := { program := "ytcfhocnbpplecaa", sum := "b6412d3eae5254368b52ce4e15e8a4f54a935763b3588104f2b5bd96510db6f1", func := "wayside/waysidelaw26.StatsBack", spec := "statsBack", unfollowed := true, recurses := true, apart := false, narrowed := true }
def StatsBackUptoSaid : Prop := statsBackUptoRow.holds Try.pinned (OpenSpec.upto statsBackSpec)

end Rows
end Go.Proofs.Ytcfhocnbpplecaa
