/-
  No cell of these rows narrows 'for every input' (looked for: loops, veiled, ifaces, maps, wideKeys, modest, calm, conditions, laid).
  DERIVED. THE GIVEN ROWS OF THIS SEAT. 10 by the template 'for every input the law returns true; each argument reads behind the call as it read before'; 0 by the template 'total and deterministic' (their statements: YtgjahkebhlphgaaTotals.lean).
  GIVEN WITH THE SEED: the statements are not yours to turn. If you find one false, say at which input.
  Laid BY PROGRAM, IN A SANDBOX (cutbox-rows.mjs): the forced cells as the released guide's own fill.sh prints them over the translation 0b72746160eb29d1… (all of the seat's roots in one cut). By AI agents, Wed Nov 11 2026. No macro, syntax, notation, axiom, sorry.
-/
import Derived.Test.YtgjahkebhlphgaaChecked
import GoSem.Claim
import GoSem.ClaimJoined
import GoSem.ClaimMapViews
import Derived.JoinedTies
import Derived.KernelRfl
namespace Go.Proofs.Ytgjahkebhlphgaa
/- THE CELL 'sum', in the pinned program and in every row, IS THE sha256 OF THE DUMP (.gsa) THAT YtgjahkebhlphgaaProg.lean LOADS. Nothing in Lean hashes anything: it is a label: what it is worth is what the hold of that sum in a sandbox is worth. -/
noncomputable def Try.pinned : Pinned := { name := "ytgjahkebhlphgaa", sum := "0b72746160eb29d161081d7b7dfd51ca44665796f2ff4850443e289197ab1d95", checked := Try.checked }
namespace Rows
def none {H : Type} : Left H := { results := [], args := [] }

/-- 'waysidelaw07.LevelTells': WHATEVER THE INPUT: true; the input reads as it did. -/
def levelTellsSpec : ChangeSpec := { name := "levelTells", fn := fun _ => fun
  | [d1, d2, d3, d4, d5] => { results := [.lit (.bool true)], args := [d1, d2, d3, d4, d5] }
  | _ => none }
def levelTellsRow : OpenClaim := { program := "ytgjahkebhlphgaa", sum := "0b72746160eb29d161081d7b7dfd51ca44665796f2ff4850443e289197ab1d95", func := "wayside/waysidelaw07.LevelTells", spec := "levelTells", inPlace := ["internal/bytealg.abigen_runtime_cmpstring"], unfollowed := true, recurses := true, apart := false }
def LevelTellsSaid : Prop := levelTellsRow.holds Try.pinned (OpenSpec.ofChange levelTellsSpec)

/-- ITS FALSE NEIGHBOUR: 'it returns false'. Refute it at one input. -/
def levelTellsWrong : ChangeSpec := { name := "levelTells", fn := fun _ => fun
  | [d1, d2, d3, d4, d5] => { results := [.lit (.bool false)], args := [d1, d2, d3, d4, d5] }
  | _ => none }
def LevelTellsWrongFalsely : Prop := levelTellsRow.holds Try.pinned (OpenSpec.ofChange levelTellsWrong)

/-- 'waysidelaw07.LevelSteps': WHATEVER THE INPUT: true; the input reads as it did. -/
def levelStepsSpec : ChangeSpec := { name := "levelSteps", fn := fun _ => fun
  | [d1, d2] => { results := [.lit (.bool true)], args := [d1, d2] }
  | _ => none }
def levelStepsRow : OpenClaim := { program := "ytgjahkebhlphgaa", sum := "0b72746160eb29d161081d7b7dfd51ca44665796f2ff4850443e289197ab1d95", func := "wayside/waysidelaw07.LevelSteps", spec := "levelSteps", inPlace := ["internal/bytealg.abigen_runtime_cmpstring"], unfollowed := true, recurses := true, apart := false }
def LevelStepsSaid : Prop := levelStepsRow.holds Try.pinned (OpenSpec.ofChange levelStepsSpec)

/-- ITS FALSE NEIGHBOUR: 'it returns false'. Refute it at one input. -/
def levelStepsWrong : ChangeSpec := { name := "levelSteps", fn := fun _ => fun
  | [d1, d2] => { results := [.lit (.bool false)], args := [d1, d2] }
  | _ => none }
def LevelStepsWrongFalsely : Prop := levelStepsRow.holds Try.pinned (OpenSpec.ofChange levelStepsWrong)

/-- 'waysidelaw07.LevelBack': WHATEVER THE INPUT: true; the input reads as it did. -/
def levelBackSpec : ChangeSpec := { name := "levelBack", fn := fun _ => fun
  | [d] => { results := [.lit (.bool true)], args := [d] }
  | _ => none }
def levelBackRow : OpenClaim := { program := "ytgjahkebhlphgaa", sum := "0b72746160eb29d161081d7b7dfd51ca44665796f2ff4850443e289197ab1d95", func := "wayside/waysidelaw07.LevelBack", spec := "levelBack", inPlace := ["internal/bytealg.abigen_runtime_cmpstring"], unfollowed := true, recurses := true, apart := false }
def LevelBackSaid : Prop := levelBackRow.holds Try.pinned (OpenSpec.ofChange levelBackSpec)

/-- ITS FALSE NEIGHBOUR: 'it returns false'. Refute it at one input. -/
def levelBackWrong : ChangeSpec := { name := "levelBack", fn := fun _ => fun
  | [d] => { results := [.lit (.bool false)], args := [d] }
  | _ => none }
def LevelBackWrongFalsely : Prop := levelBackRow.holds Try.pinned (OpenSpec.ofChange levelBackWrong)

/-- 'waysidelaw07.LevelBalls': WHATEVER THE INPUT: true; the input reads as it did. -/
def levelBallsSpec : ChangeSpec := { name := "levelBalls", fn := fun _ => fun
  | [d1, d2, d3, d4] => { results := [.lit (.bool true)], args := [d1, d2, d3, d4] }
  | _ => none }
def levelBallsRow : OpenClaim := { program := "ytgjahkebhlphgaa", sum := "0b72746160eb29d161081d7b7dfd51ca44665796f2ff4850443e289197ab1d95", func := "wayside/waysidelaw07.LevelBalls", spec := "levelBalls", inPlace := ["internal/bytealg.abigen_runtime_cmpstring"], unfollowed := true, recurses := true, apart := false }
def LevelBallsSaid : Prop := levelBallsRow.holds Try.pinned (OpenSpec.ofChange levelBallsSpec)

/-- ITS FALSE NEIGHBOUR: 'it returns false'. Refute it at one input. -/
def levelBallsWrong : ChangeSpec := { name := "levelBalls", fn := fun _ => fun
  | [d1, d2, d3, d4] => { results := [.lit (.bool false)], args := [d1, d2, d3, d4] }
  | _ => none }
def LevelBallsWrongFalsely : Prop := levelBallsRow.holds Try.pinned (OpenSpec.ofChange levelBallsWrong)

/-- 'waysidelaw07.LevelTriangle': WHATEVER THE INPUT: true; the input reads as it did. -/
def levelTriangleSpec : ChangeSpec := { name := "levelTriangle", fn := fun _ => fun
  | [d1, d2, d3, d4] => { results := [.lit (.bool true)], args := [d1, d2, d3, d4] }
  | _ => none }
def levelTriangleRow : OpenClaim := { program := "ytgjahkebhlphgaa", sum := "0b72746160eb29d161081d7b7dfd51ca44665796f2ff4850443e289197ab1d95", func := "wayside/waysidelaw07.LevelTriangle", spec := "levelTriangle", inPlace := ["internal/bytealg.abigen_runtime_cmpstring"], unfollowed := true, recurses := true, apart := false }
def LevelTriangleSaid : Prop := levelTriangleRow.holds Try.pinned (OpenSpec.ofChange levelTriangleSpec)

/-- ITS FALSE NEIGHBOUR: 'it returns false'. Refute it at one input. -/
def levelTriangleWrong : ChangeSpec := { name := "levelTriangle", fn := fun _ => fun
  | [d1, d2, d3, d4] => { results := [.lit (.bool false)], args := [d1, d2, d3, d4] }
  | _ => none }
def LevelTriangleWrongFalsely : Prop := levelTriangleRow.holds Try.pinned (OpenSpec.ofChange levelTriangleWrong)

/-- 'waysidelaw08.DistTells': WHATEVER THE INPUT: true; the input reads as it did. -/
def distTellsSpec : ChangeSpec := { name := "distTells", fn := fun _ => fun
  | [d1, d2, d3, d4] => { results := [.lit (.bool true)], args := [d1, d2, d3, d4] }
  | _ => none }
def distTellsRow : OpenClaim := { program := "ytgjahkebhlphgaa", sum := "0b72746160eb29d161081d7b7dfd51ca44665796f2ff4850443e289197ab1d95", func := "wayside/waysidelaw08.DistTells", spec := "distTells", inPlace := ["internal/bytealg.abigen_runtime_cmpstring"], unfollowed := true, recurses := true, apart := false }
def DistTellsSaid : Prop := distTellsRow.holds Try.pinned (OpenSpec.ofChange distTellsSpec)

/-- ITS FALSE NEIGHBOUR: 'it returns false'. Refute it at one input. -/
def distTellsWrong : ChangeSpec := { name := "distTells", fn := fun _ => fun
  | [d1, d2, d3, d4] => { results := [.lit (.bool false)], args := [d1, d2, d3, d4] }
  | _ => none }
def DistTellsWrongFalsely : Prop := distTellsRow.holds Try.pinned (OpenSpec.ofChange distTellsWrong)

/-- 'waysidelaw08.DistHalf': WHATEVER THE INPUT: true; the input reads as it did. -/
def distHalfSpec : ChangeSpec := { name := "distHalf", fn := fun _ => fun
  | [d1, d2, d3] => { results := [.lit (.bool true)], args := [d1, d2, d3] }
  | _ => none }
def distHalfRow : OpenClaim := { program := "ytgjahkebhlphgaa", sum := "0b72746160eb29d161081d7b7dfd51ca44665796f2ff4850443e289197ab1d95", func := "wayside/waysidelaw08.DistHalf", spec := "distHalf", inPlace := ["internal/bytealg.abigen_runtime_cmpstring"], unfollowed := true, recurses := true, apart := false }
def DistHalfSaid : Prop := distHalfRow.holds Try.pinned (OpenSpec.ofChange distHalfSpec)

/-- ITS FALSE NEIGHBOUR: 'it returns false'. Refute it at one input. -/
def distHalfWrong : ChangeSpec := { name := "distHalf", fn := fun _ => fun
  | [d1, d2, d3] => { results := [.lit (.bool false)], args := [d1, d2, d3] }
  | _ => none }
def DistHalfWrongFalsely : Prop := distHalfRow.holds Try.pinned (OpenSpec.ofChange distHalfWrong)

/-- 'waysidelaw08.DistPath': WHATEVER THE INPUT: true; the input reads as it did. -/
def distPathSpec : ChangeSpec := { name := "distPath", fn := fun _ => fun
  | [d1, d2, d3] => { results := [.lit (.bool true)], args := [d1, d2, d3] }
  | _ => none }
def distPathRow : OpenClaim := { program := "ytgjahkebhlphgaa", sum := "0b72746160eb29d161081d7b7dfd51ca44665796f2ff4850443e289197ab1d95", func := "wayside/waysidelaw08.DistPath", spec := "distPath", inPlace := ["internal/bytealg.abigen_runtime_cmpstring"], unfollowed := true, recurses := true, apart := false }
def DistPathSaid : Prop := distPathRow.holds Try.pinned (OpenSpec.ofChange distPathSpec)

/-- ITS FALSE NEIGHBOUR: 'it returns false'. Refute it at one input. -/
def distPathWrong : ChangeSpec := { name := "distPath", fn := fun _ => fun
  | [d1, d2, d3] => { results := [.lit (.bool false)], args := [d1, d2, d3] }
  | _ => none }
def DistPathWrongFalsely : Prop := distPathRow.holds Try.pinned (OpenSpec.ofChange distPathWrong)

/-- 'waysidelaw08.DistLevels': WHATEVER THE INPUT: true; the input reads as it did. -/
def distLevelsSpec : ChangeSpec := { name := "distLevels", fn := fun _ => fun
  | [d1, d2, d3] => { results := [.lit (.bool true)], args := [d1, d2, d3] }
  | _ => none }
def distLevelsRow : OpenClaim := { program := "ytgjahkebhlphgaa", sum := "0b72746160eb29d161081d7b7dfd51ca44665796f2ff4850443e289197ab1d95", func := "wayside/waysidelaw08.DistLevels", spec := "distLevels", inPlace := ["internal/bytealg.abigen_runtime_cmpstring"], unfollowed := true, recurses := true, apart := false }
def DistLevelsSaid : Prop := distLevelsRow.holds Try.pinned (OpenSpec.ofChange distLevelsSpec)

/-- ITS FALSE NEIGHBOUR: 'it returns false'. Refute it at one input. -/
def distLevelsWrong : ChangeSpec := { name := "distLevels", fn := fun _ => fun
  | [d1, d2, d3] => { results := [.lit (.bool false)], args := [d1, d2, d3] }
  | _ => none }
def DistLevelsWrongFalsely : Prop := distLevelsRow.holds Try.pinned (OpenSpec.ofChange distLevelsWrong)

/-- 'waysidelaw08.DistLess': WHATEVER THE INPUT: true; the input reads as it did. -/
def distLessSpec : ChangeSpec := { name := "distLess", fn := fun _ => fun
  | [d1, d2, d3] => { results := [.lit (.bool true)], args := [d1, d2, d3] }
  | _ => none }
def distLessRow : OpenClaim := { program := "ytgjahkebhlphgaa", sum := "0b72746160eb29d161081d7b7dfd51ca44665796f2ff4850443e289197ab1d95", func := "wayside/waysidelaw08.DistLess", spec := "distLess", inPlace := ["internal/bytealg.abigen_runtime_cmpstring"], unfollowed := true, recurses := true, apart := false }
def DistLessSaid : Prop := distLessRow.holds Try.pinned (OpenSpec.ofChange distLessSpec)

/-- ITS FALSE NEIGHBOUR: 'it returns false'. Refute it at one input. -/
def distLessWrong : ChangeSpec := { name := "distLess", fn := fun _ => fun
  | [d1, d2, d3] => { results := [.lit (.bool false)], args := [d1, d2, d3] }
  | _ => none }
def DistLessWrongFalsely : Prop := distLessRow.holds Try.pinned (OpenSpec.ofChange distLessWrong)

/- THE SECOND FORM. 'bulk': how many values and letters a reading holds, each counted each time it is reached (what is shared counts as often as it is met; a slice's spare places count too). A statement '..UptoSaid' is the law's where the arguments, and the package variables that the reading takes, are together of bulk at most 1048576: NARROWER than '..Said'. Prove '..Said' where nothing that the law and all that it calls make is longer than what came in: it says more and counts as full. Else prove '..UptoSaid'. A law counts once. -/
mutual
def uptoBulk {H : Type} : DataW H → Nat
  | .lit (.string bytes) => bytes.length + 1
  | .lit _ => 1
  | .nil => 1
  | .ptr d => uptoBulk d + 1
  | .slice elems spare => uptoBulkAll elems + uptoBulkAll spare + 1
  | .agg parts => uptoBulkAll parts + 1
  | .iface _ d => uptoBulk d + 1
  | .map entries => uptoBulkEntries entries + 1
  | .held _ => 1
def uptoBulkAll {H : Type} : List (DataW H) → Nat
  | [] => 0
  | d :: r => uptoBulk d + uptoBulkAll r
def uptoBulkEntries {H : Type} : List (Lit × DataW H) → Nat
  | [] => 0
  | x :: r => uptoBulkEntry x + uptoBulkEntries r
def uptoBulkEntry {H : Type} : Lit × DataW H → Nat
  | (.string bytes, d) => bytes.length + uptoBulk d + 1
  | (_, d) => uptoBulk d + 1
 end
def uptoSmall : (H : Type) → List (DataW H) → Bool := fun _ ds => decide (uptoBulkAll ds ≤ 1048576)
def OpenSpec.upto (s : _root_.Go.ChangeSpec) : _root_.Go.OpenSpec := { _root_.Go.OpenSpec.ofChange s with cond := some uptoSmall }

/-- 'waysidelaw07.LevelTells', WHERE WHAT IT READS IS OF BULK AT MOST 1048576: true; the input reads as it did. -/
def levelTellsUptoRow : OpenClaim := { program := "ytgjahkebhlphgaa", sum := "0b72746160eb29d161081d7b7dfd51ca44665796f2ff4850443e289197ab1d95", func := "wayside/waysidelaw07.LevelTells", spec := "levelTells", inPlace := ["internal/bytealg.abigen_runtime_cmpstring"], unfollowed := true, recurses := true, apart := false, narrowed := true }
def LevelTellsUptoSaid : Prop := levelTellsUptoRow.holds Try.pinned (OpenSpec.upto levelTellsSpec)

/-- 'waysidelaw07.LevelSteps', WHERE WHAT IT READS IS OF BULK AT MOST 1048576: true; the input reads as it did. -/
def levelStepsUptoRow : OpenClaim := { program := "ytgjahkebhlphgaa", sum := "0b72746160eb29d161081d7b7dfd51ca44665796f2ff4850443e289197ab1d95", func := "wayside/waysidelaw07.LevelSteps", spec := "levelSteps", inPlace := ["internal/bytealg.abigen_runtime_cmpstring"], unfollowed := true, recurses := true, apart := false, narrowed := true }
def LevelStepsUptoSaid : Prop := levelStepsUptoRow.holds Try.pinned (OpenSpec.upto levelStepsSpec)

/-- 'waysidelaw07.LevelBack', WHERE WHAT IT READS IS OF BULK AT MOST 1048576: true; the input reads as it did. -/
def levelBackUptoRow : OpenClaim := { program := "ytgjahkebhlphgaa", sum := "0b72746160eb29d161081d7b7dfd51ca44665796f2ff4850443e289197ab1d95", func := "wayside/waysidelaw07.LevelBack", spec := "levelBack", inPlace := ["internal/bytealg.abigen_runtime_cmpstring"], unfollowed := true, recurses := true, apart := false, narrowed := true }
def LevelBackUptoSaid : Prop := levelBackUptoRow.holds Try.pinned (OpenSpec.upto levelBackSpec)

/-- 'waysidelaw07.LevelBalls', WHERE WHAT IT READS IS OF BULK AT MOST 1048576: true; the input reads as it did. -/
def levelBallsUptoRow : OpenClaim := { program := "ytgjahkebhlphgaa", sum := "0b72746160eb29d161081d7b7dfd51ca44665796f2ff4850443e289197ab1d95", func := "wayside/waysidelaw07.LevelBalls", spec := "levelBalls", inPlace := ["internal/bytealg.abigen_runtime_cmpstring"], unfollowed := true, recurses := true, apart := false, narrowed := true }
def LevelBallsUptoSaid : Prop := levelBallsUptoRow.holds Try.pinned (OpenSpec.upto levelBallsSpec)

/-- 'waysidelaw07.LevelTriangle', WHERE WHAT IT READS IS OF BULK AT MOST 1048576: true; the input reads as it did. -/
def levelTriangleUptoRow : OpenClaim := { program := "ytgjahkebhlphgaa", sum := "0b72746160eb29d161081d7b7dfd51ca44665796f2ff4850443e289197ab1d95", func := "wayside/waysidelaw07.LevelTriangle", spec := "levelTriangle", inPlace := ["internal/bytealg.abigen_runtime_cmpstring"], unfollowed := true, recurses := true, apart := false, narrowed := true }
def LevelTriangleUptoSaid : Prop := levelTriangleUptoRow.holds Try.pinned (OpenSpec.upto levelTriangleSpec)

/-- 'waysidelaw08.DistTells', WHERE WHAT IT READS IS OF BULK AT MOST 1048576: true; the input reads as it did. -/
def distTellsUptoRow : OpenClaim := { program := "ytgjahkebhlphgaa", sum := "0b72746160eb29d161081d7b7dfd51ca44665796f2ff4850443e289197ab1d95", func := "wayside/waysidelaw08.DistTells", spec := "distTells", inPlace := ["internal/bytealg.abigen_runtime_cmpstring"], unfollowed := true, recurses := true, apart := false, narrowed := true }
def DistTellsUptoSaid : Prop := distTellsUptoRow.holds Try.pinned (OpenSpec.upto distTellsSpec)

/-- 'waysidelaw08.DistHalf', WHERE WHAT IT READS IS OF BULK AT MOST 1048576: true; the input reads as it did. -/
def distHalfUptoRow : OpenClaim := { program := "ytgjahkebhlphgaa", sum := "0b72746160eb29d161081d7b7dfd51ca44665796f2ff4850443e289197ab1d95", func := "wayside/waysidelaw08.DistHalf", spec := "distHalf", inPlace := ["internal/bytealg.abigen_runtime_cmpstring"], unfollowed := true, recurses := true, apart := false, narrowed := true }
def DistHalfUptoSaid : Prop := distHalfUptoRow.holds Try.pinned (OpenSpec.upto distHalfSpec)

/-- 'waysidelaw08.DistPath', WHERE WHAT IT READS IS OF BULK AT MOST 1048576: true; the input reads as it did. -/
def distPathUptoRow : OpenClaim := { program := "ytgjahkebhlphgaa", sum := "0b72746160eb29d161081d7b7dfd51ca44665796f2ff4850443e289197ab1d95", func := "wayside/waysidelaw08.DistPath", spec := "distPath", inPlace := ["internal/bytealg.abigen_runtime_cmpstring"], unfollowed := true, recurses := true, apart := false, narrowed := true }
def DistPathUptoSaid : Prop := distPathUptoRow.holds Try.pinned (OpenSpec.upto distPathSpec)

/-- 'waysidelaw08.DistLevels', WHERE WHAT IT READS IS OF BULK AT MOST 1048576: true; the input reads as it did. -/
def distLevelsUptoRow : OpenClaim := { program := "ytgjahkebhlphgaa", sum := "0b72746160eb29d161081d7b7dfd51ca44665796f2ff4850443e289197ab1d95", func := "wayside/waysidelaw08.DistLevels", spec := "distLevels", inPlace := ["internal/bytealg.abigen_runtime_cmpstring"], unfollowed := true, recurses := true, apart := false, narrowed := true }
def DistLevelsUptoSaid : Prop := distLevelsUptoRow.holds Try.pinned (OpenSpec.upto distLevelsSpec)

/-- 'waysidelaw08.DistLess', WHERE WHAT IT READS IS OF BULK AT MOST 1048576: true; the input reads as it did. -/
def distLessUptoRow : OpenClaim := { program := "ytgjahkebhlphgaa", sum := "0b72746160eb29d161081d7b7dfd51ca44665796f2ff4850443e289197ab1d95", func := "wayside/waysidelaw08.DistLess", spec := "distLess", inPlace := ["internal/bytealg.abigen_runtime_cmpstring"], unfollowed := true, recurses := true, apart := false, narrowed := true }
def DistLessUptoSaid : Prop := distLessUptoRow.holds Try.pinned (OpenSpec.upto distLessSpec)

end Rows
end Go.Proofs.Ytgjahkebhlphgaa
