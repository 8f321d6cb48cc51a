/- scan.Whole of a reply. -/
import Derived.Test.YtcfhocnbpplecaaXi
import Derived.Test.YtcfhocnbpplecaaPw
namespace Go.Proofs.Ytcfhocnbpplecaa
set_option linter.unusedSimpArgs false
set_option linter.unusedVariables false
set_option maxHeartbeats 4000000
set_option maxRecDepth 100000
def wA0 : List SOp := [⟨some 4, .alloc [.int .i64 0, .int .i64 0, .bool false, .int .i64 0, .nils], none⟩, ⟨some 5, .alloc [.bool false], none⟩]
def wR2 : List SOp := [⟨some 8, .move (.tmp 0), none⟩, ⟨some 9, .build [.str [], .int .i64 0] [(0, (1, .tmp 8))], none⟩, ⟨some 10, .box 2 (.tmp 9), none⟩, ⟨some 6, .move (.tmp 10), none⟩]
def wR3 : List SOp := [⟨some 11, .move (.tmp 1), none⟩, ⟨some 12, .move (.tmp 6), none⟩, ⟨some 13, .callf .mem (.tmp 11) [.tmp 12], none⟩, ⟨none, .store false 5 (.tmp 4) (.tmp 13), none⟩]
def wR4 : List SOp := [⟨some 14, .move (.tmp 6), none⟩, ⟨some 15, .nilCheck (.tmp 14), none⟩, ⟨some 16, .fieldAddr 1 (.tmp 15), none⟩, ⟨some 17, .load false none (.tmp 16), none⟩, ⟨some 18, .move (.tmp 0), none⟩, ⟨some 19, .len true (.tmp 18), none⟩, ⟨some 20, .bin 0 .eql (.tmp 17) (.tmp 19), none⟩, ⟨some 21, .call .mem 1444 [.tmp 20], none⟩]
def wR5 : List SOp := [⟨some 22, .load true (some 5) (.tmp 4), none⟩, ⟨none, .store false 5 (.tmp 4) (.tmp 22), none⟩, ⟨none, .store false 1 (.tmp 5) (.val (.bool true)), none⟩]
def wB1 : List SOp := [⟨some 2, .alloc [.int .i64 0, .int .i64 0, .bool false, .int .i64 0, .nils], none⟩]
def wB2 : List SOp := [⟨some 5, .load true (some 5) (.tmp 2), none⟩, ⟨none, .store false 5 (.tmp 0) (.tmp 5), none⟩, ⟨none, .store false 1 (.tmp 1) (.val (.bool false)), none⟩]
def wRs : List RS := [⟨.cell 4 (some 5), [(4, 2, false)]⟩, ⟨.cell 5 none, []⟩]
def alW {α : Type} (t : Rd α) (s : Txt) : Option α := match t.run s 0 with
  | some (x, e) => if e = s.length then some x else none
  | none => none
def zR : Rep := ⟨0, 0, false, 0, []⟩
def wholeR (s : Txt) : List AV := match alW tRep s with
  | some x => [.agg (repV x), .bool true]
  | none => [.agg (repV zR), .bool false]
section
variable {P : Program}
theorem whole_reply (G : Good P fid tab) (N : NeedIs P) {f : FuncId} (hC : Catch P fid f 23 6 wA0 wR2 wR3 wR4 wR5 wB1 wB2 wRs) {s : Txt} (hs : s.length ≤ 1000000) : FnThere P f ∧ CallOk P fid f [.str s, .clo 1434 [] []] [] (.tup (wholeR s), []) := by
  refine whole_ok G hC (by omega) (by omega) ?_
  simp only [wA0, wR2, wR3, wR4, wR5, wB1, wB2, wRs, bindParams]
  simp (config := { maxSteps := 1000000 }) (disch := omega) only [go_sem, ↓reduceIte, Nat.reduceEqDiff, Nat.reduceAdd, Int.reduceToNat, reduceCtorEq, Nat.reduceLeDiff, Nat.reduceSub, Nat.reduceDiv, Nat.reduceMod, Nat.reduceMul]
  cases hp : tRep.run s 0 with
  | none =>
    have g := reply_dies G N hs hp
    refine .inl (DO_take G 2 ?_)
    simp (config := { maxSteps := 1000000 }) (disch := omega) only [go_sem, ↓reduceIte, Nat.reduceEqDiff, Nat.reduceAdd, Int.reduceToNat, reduceCtorEq, Nat.reduceLeDiff, Nat.reduceSub, Nat.reduceDiv, Nat.reduceMod, Nat.reduceMul, List.take_succ_cons, List.take_zero, List.drop_succ_cons, List.drop_zero]
    refine DO_call rfl rfl rfl g ?_
    simp only [wholeR, alW, hp, recQ]
    simp (config := { maxSteps := 1000000 }) (disch := omega) only [go_sem, ↓reduceIte, Nat.reduceEqDiff, Nat.reduceAdd, Int.reduceToNat, reduceCtorEq, Nat.reduceLeDiff, Nat.reduceSub, Nat.reduceDiv, Nat.reduceMod, Nat.reduceMul, putHp, idsL, AV.ids, dedup, dd00, List.replicate_succ, List.replicate_zero, List.length_cons, List.length_nil]
    exact ⟨_, rfl, rfl⟩
  | some r =>
    obtain ⟨x, e⟩ := r
    have g := reply_run hs hp
    simp only [repV] at g
    refine .inr ?_
    by_cases he : e = s.length
    · subst he
      simp (config := { maxSteps := 1000000 }) (disch := omega) only [go_sem, ↓reduceIte, Nat.reduceEqDiff, Nat.reduceAdd, Int.reduceToNat, reduceCtorEq, Nat.reduceLeDiff, Nat.reduceSub, Nat.reduceDiv, Nat.reduceMod, Nat.reduceMul, g]
      refine .inr ?_
      simp (config := { maxSteps := 1000000 }) (disch := omega) only [go_sem, ↓reduceIte, Nat.reduceEqDiff, Nat.reduceAdd, Int.reduceToNat, reduceCtorEq, Nat.reduceLeDiff, Nat.reduceSub, Nat.reduceDiv, Nat.reduceMod, Nat.reduceMul, need_run, wholeR, alW, hp, endQ]
      refine ⟨_, rfl, _, rfl, ?_⟩
      simp (config := { maxSteps := 1000000 }) (disch := omega) only [go_sem, ↓reduceIte, Nat.reduceEqDiff, Nat.reduceAdd, Int.reduceToNat, reduceCtorEq, Nat.reduceLeDiff, Nat.reduceSub, Nat.reduceDiv, Nat.reduceMod, Nat.reduceMul, fin, repV]
    · have hn := needs G N []
      simp (config := { maxSteps := 1000000 }) (disch := omega) only [go_sem, ↓reduceIte, Nat.reduceEqDiff, Nat.reduceAdd, Int.reduceToNat, reduceCtorEq, Nat.reduceLeDiff, Nat.reduceSub, Nat.reduceDiv, Nat.reduceMod, Nat.reduceMul, g]
      refine .inl (DO_take G 7 ?_)
      simp (config := { maxSteps := 1000000 }) (disch := omega) only [go_sem, ↓reduceIte, Nat.reduceEqDiff, Nat.reduceAdd, Int.reduceToNat, reduceCtorEq, Nat.reduceLeDiff, Nat.reduceSub, Nat.reduceDiv, Nat.reduceMod, Nat.reduceMul, List.take_succ_cons, List.take_zero, List.drop_succ_cons, List.drop_zero]
      refine DO_call rfl rfl rfl hn ?_
      simp only [wholeR, alW, hp, if_neg he, recQ]
      simp (config := { maxSteps := 1000000 }) (disch := omega) only [go_sem, ↓reduceIte, Nat.reduceEqDiff, Nat.reduceAdd, Int.reduceToNat, reduceCtorEq, Nat.reduceLeDiff, Nat.reduceSub, Nat.reduceDiv, Nat.reduceMod, Nat.reduceMul, putHp, idsL, AV.ids, dedup, dd00, List.replicate_succ, List.replicate_zero, List.length_cons, List.length_nil]
      exact ⟨_, rfl, rfl⟩
end
end Go.Proofs.Ytcfhocnbpplecaa
