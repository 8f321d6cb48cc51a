/- The table in which Whole of a request and of a reply are told. -/
import Derived.Test.YtcfhocnbpplecaaXv
namespace Go.Proofs.Ytcfhocnbpplecaa
set_option linter.unusedSimpArgs false
set_option linter.unusedVariables false
set_option maxHeartbeats 4000000
set_option maxRecDepth 100000
def gWholeR : List AV → List Blk → Option (AV × List Blk)
  | [.str s, .clo 1434 [] []], [] => if s.length ≤ 1000000 then some (.tup (wholeR s), []) else none
  | _, _ => none
def gWholeQ : List AV → List Blk → Option (AV × List Blk)
  | [.str s, .clo 1643 [] []], [] => if s.length ≤ 1000000 then some (.tup (wholeQ s), []) else none
  | _, _ => none
noncomputable def tabM : Nat → Option Entry := fun k => if k = 1433 then some (.orc gWholeR) else if k = 1642 then some (.orc gWholeQ) else tab k
theorem m1433 : tabM 1433 = some (.orc gWholeR) := rfl
theorem m1642 : tabM 1642 = some (.orc gWholeQ) := rfl
theorem tabM_le : TLe tab tabM := by
  intro k e h
  unfold tabM
  split
  · rename_i hk; subst hk; rw [n1433] at h; cases h
  · split
    · rename_i hk; subst hk; rw [n1642] at h; cases h
    · exact h
theorem up {k : Nat} {as : List AV} {hps : List Blk} {r : AV × List Blk} (h : runP tab k as hps = some r) : runP tabM k as hps = some r := runP_up tabM_le h
theorem wholeRM : WholeR tabM := fun s hs => by
  rw [runP_orc m1433]
  simp [gWholeR, hs]
theorem wholeQM : WholeQ tabM := fun s hs => by
  rw [runP_orc m1642]
  simp [gWholeQ, hs]
theorem goodM_of {P : Program} (G : Good P fid tab) (N : NeedIs P) (hR : ∀ f, fid f = some 1433 → Catch P fid f 23 6 wA0 wR2 wR3 wR4 wR5 wB1 wB2 wRs) (hQ : ∀ f, fid f = some 1642 → Catch P fid f 23 6 qA0 wR2 qR3 wR4 qR5 qB1 qB2 qRs) : Good P fid tabM := by
  intro f k e hf he
  unfold tabM at he
  split at he
  · rename_i hk; subst hk; injection he with he; subst he
    refine ⟨(whole_reply G N (hR f hf) (s := []) (by simp)).1, fun as hps r h => ?_⟩
    unfold gWholeR at h
    split at h
    · rename_i s
      split at h
      · rename_i hs
        injection h with h; subst h
        exact (whole_reply G N (hR f hf) hs).2
      · cases h
    · cases h
  · split at he
    · rename_i hk; subst hk; injection he with he; subst he
      refine ⟨(whole_request G N (hQ f hf) (s := []) (by simp)).1, fun as hps r h => ?_⟩
      unfold gWholeQ at h
      split at h
      · rename_i s
        split at h
        · rename_i hs
          injection h with h; subst h
          exact (whole_request G N (hQ f hf) hs).2
        · cases h
      · cases h
    · exact G f k e hf he
theorem getRM {s : Txt} (hs : s.length ≤ 1000000) : runP tabM 1423 [.str s] [] = some (.tup (getRA s), []) := getR_run tabM_le wholeRM hs
theorem getQM {s : Txt} (hs : s.length ≤ 1000000) : runP tabM 1633 [.str s] [] = some (.tup (getQA s), []) := getQ_run tabM_le wholeQM hs
def idA (s : Txt) : List AV := match rdN s 0 with
  | some (n, _) => [.int .i64 (n : Int), .bool true]
  | none => [.int .i64 0, .bool false]
theorem id_run {s : Txt} (hs : s.length ≤ 1000000) : runP tab 1636 [.str s] [] = some (.tup (idA s), []) := by
  refine runP_fn t1636 rfl ?_
  have g := rdnum_run hs (i := 0) (Nat.zero_le _)
  rw [show ((0 : Nat) : Int) = 0 from rfl] at g
  unfold idA
  cases h : rdN s 0 with
  | none =>
    rw [h] at g
    simp only [rdA] at g
    simp (config := { maxSteps := 1000000 }) (disch := omega) only [go_sem, ↓reduceIte, Nat.reduceEqDiff, Nat.reduceAdd, Int.reduceToNat, reduceCtorEq, Nat.reduceLeDiff, Nat.reduceSub, Nat.reduceDiv, Nat.reduceMod, Nat.reduceMul, d1636, g]
  | some r =>
    rw [h] at g
    simp only [rdA] at g
    simp (config := { maxSteps := 1000000 }) (disch := omega) only [go_sem, ↓reduceIte, Nat.reduceEqDiff, Nat.reduceAdd, Int.reduceToNat, reduceCtorEq, Nat.reduceLeDiff, Nat.reduceSub, Nat.reduceDiv, Nat.reduceMod, Nat.reduceMul, d1636, g]
theorem rid_run {s : Txt} (hs : s.length ≤ 1000000) : runP tab 1637 [.str s] [] = some (.tup (idA s), []) := by
  refine runP_fn t1637 rfl ?_
  have g := rrd_run hs (at_ := 0) (Nat.zero_le _)
  rw [show ((0 : Nat) : Int) = 0 from rfl] at g
  unfold idA
  cases h : rdN s 0 with
  | none =>
    rw [h] at g
    simp only [rdA] at g
    simp (config := { maxSteps := 1000000 }) (disch := omega) only [go_sem, ↓reduceIte, Nat.reduceEqDiff, Nat.reduceAdd, Int.reduceToNat, reduceCtorEq, Nat.reduceLeDiff, Nat.reduceSub, Nat.reduceDiv, Nat.reduceMod, Nat.reduceMul, d1637, g]
  | some r =>
    rw [h] at g
    simp only [rdA] at g
    simp (config := { maxSteps := 1000000 }) (disch := omega) only [go_sem, ↓reduceIte, Nat.reduceEqDiff, Nat.reduceAdd, Int.reduceToNat, reduceCtorEq, Nat.reduceLeDiff, Nat.reduceSub, Nat.reduceDiv, Nat.reduceMod, Nat.reduceMul, d1637, g]
end Go.Proofs.Ytcfhocnbpplecaa
