import Derived.Test.YtcfhocnbpplecaaXl
namespace Go.Proofs.Ytcfhocnbpplecaa
set_option maxHeartbeats 4000000
set_option maxRecDepth 100000
def gWholeR : List AV → List Blk → Option (AV × List Blk)
  | [.str s, .clo 1434 [] []], [] => if s.length ≤ 1000000 then some (.tup (wholeR s), []) else none
  | _, _ => none
noncomputable def tabM : Nat → Option Entry := fun k => if k = 1433 then some (.orc gWholeR) else tab k
theorem m1433 : tabM 1433 = some (.orc gWholeR) := rfl
theorem tabM_le : TLe tab tabM := by
  intro k e h
  unfold tabM
  split
  · rename_i hk; subst hk; rw [n1433] at h; cases h
  · exact h
theorem up {k : Nat} {as : List AV} {hps : List Blk} {r : AV × List Blk} (h : runP tab k as hps = some r) : runP tabM k as hps = some r := runP_up tabM_le h
theorem wholeRM : WholeR tabM := fun s hs => by
  rw [runP_orc m1433]
  simp [gWholeR, hs]
theorem goodM_of {P : Program} (G : Good P fid tab) (N : NeedIs P) (hR : ∀ f, fid f = some 1433 → Catch P fid f 23 6 wA0 wR2 wR3 wR4 wR5 wB1 wB2 wRs) : Good P fid tabM := by
  intro f k e hf he
  unfold tabM at he
  split at he
  · rename_i hk; subst hk; injection he with he; subst he
    refine ⟨(whole_reply G N (hR f hf) (s := []) (by simp)).1, fun as hps r h => ?_⟩
    unfold gWholeR at h
    split at h
    · rename_i s
      split at h
      · rename_i hs
        injection h with h; subst h
        exact (whole_reply G N (hR f hf) hs).2
      · cases h
    · cases h
  · exact G f k e hf he
theorem getRM {s : Txt} (hs : s.length ≤ 1000000) : runP tabM 1423 [.str s] [] = some (.tup (getRA s), []) := getR_run tabM_le wholeRM hs
end Go.Proofs.Ytcfhocnbpplecaa
