/- scan.Whole of a request; GetRequest. -/
import Derived.Test.YtcfhocnbpplecaaXt
namespace Go.Proofs.Ytcfhocnbpplecaa
set_option linter.unusedSimpArgs false
set_option linter.unusedVariables false
set_option maxHeartbeats 4000000
set_option maxRecDepth 100000
def qA0 : List SOp := [⟨some 4, .alloc [.int .i64 0, .int .i64 0, .int .i64 0, .int .i64 0, .int .i64 0, .nils, .int .i64 0, .int .i64 0], none⟩, ⟨some 5, .alloc [.bool false], none⟩]
def qR3 : List SOp := [⟨some 11, .move (.tmp 1), none⟩, ⟨some 12, .move (.tmp 6), none⟩, ⟨some 13, .callf .mem (.tmp 11) [.tmp 12], none⟩, ⟨none, .store false 8 (.tmp 4) (.tmp 13), none⟩]
def qR5 : List SOp := [⟨some 22, .load true (some 8) (.tmp 4), none⟩, ⟨none, .store false 8 (.tmp 4) (.tmp 22), none⟩, ⟨none, .store false 1 (.tmp 5) (.val (.bool true)), none⟩]
def qB1 : List SOp := [⟨some 2, .alloc [.int .i64 0, .int .i64 0, .int .i64 0, .int .i64 0, .int .i64 0, .nils, .int .i64 0, .int .i64 0], none⟩]
def qB2 : List SOp := [⟨some 5, .load true (some 8) (.tmp 2), none⟩, ⟨none, .store false 8 (.tmp 0) (.tmp 5), none⟩, ⟨none, .store false 1 (.tmp 1) (.val (.bool false)), none⟩]
def qRs : List RS := [⟨.cell 4 (some 8), [(5, 1, false)]⟩, ⟨.cell 5 none, []⟩]
def zReq : Req := ⟨0, 0, 0, 0, 0, [], 0, 0⟩
def wholeQ (s : Txt) : List AV := match alW tReq s with
  | some x => [.agg (reqV x), .bool true]
  | none => [.agg (reqV zReq), .bool false]
section
variable {P : Program}
theorem whole_request (G : Good P fid tab) (N : NeedIs P) {f : FuncId} (hC : Catch P fid f 23 6 qA0 wR2 qR3 wR4 qR5 qB1 qB2 qRs) {s : Txt} (hs : s.length ≤ 1000000) : FnThere P f ∧ CallOk P fid f [.str s, .clo 1643 [] []] [] (.tup (wholeQ s), []) := by
  refine whole_ok G hC (by omega) (by omega) ?_
  simp only [qA0, wR2, qR3, wR4, qR5, qB1, qB2, qRs, bindParams]
  simp (config := { maxSteps := 1000000 }) (disch := omega) only [go_sem, ↓reduceIte, Nat.reduceEqDiff, Nat.reduceAdd, Int.reduceToNat, reduceCtorEq, Nat.reduceLeDiff, Nat.reduceSub, Nat.reduceDiv, Nat.reduceMod, Nat.reduceMul]
  cases hp : tReq.run s 0 with
  | none =>
    have g := request_dies G N hs hp
    refine .inl (DO_take G 2 ?_)
    simp (config := { maxSteps := 1000000 }) (disch := omega) only [go_sem, ↓reduceIte, Nat.reduceEqDiff, Nat.reduceAdd, Int.reduceToNat, reduceCtorEq, Nat.reduceLeDiff, Nat.reduceSub, Nat.reduceDiv, Nat.reduceMod, Nat.reduceMul, List.take_succ_cons, List.take_zero, List.drop_succ_cons, List.drop_zero]
    refine DO_call rfl rfl rfl g ?_
    simp only [wholeQ, alW, hp, recQ]
    simp (config := { maxSteps := 1000000 }) (disch := omega) only [go_sem, ↓reduceIte, Nat.reduceEqDiff, Nat.reduceAdd, Int.reduceToNat, reduceCtorEq, Nat.reduceLeDiff, Nat.reduceSub, Nat.reduceDiv, Nat.reduceMod, Nat.reduceMul, putHp, idsL, AV.ids, dedup, dd00, List.replicate_succ, List.replicate_zero, List.length_cons, List.length_nil]
    exact ⟨_, rfl, rfl⟩
  | some r =>
    obtain ⟨x, e⟩ := r
    have g := request_run hs hp
    simp only [reqV] at g
    refine .inr ?_
    by_cases he : e = s.length
    · subst he
      simp (config := { maxSteps := 1000000 }) (disch := omega) only [go_sem, ↓reduceIte, Nat.reduceEqDiff, Nat.reduceAdd, Int.reduceToNat, reduceCtorEq, Nat.reduceLeDiff, Nat.reduceSub, Nat.reduceDiv, Nat.reduceMod, Nat.reduceMul, g]
      refine .inr ?_
      simp (config := { maxSteps := 1000000 }) (disch := omega) only [go_sem, ↓reduceIte, Nat.reduceEqDiff, Nat.reduceAdd, Int.reduceToNat, reduceCtorEq, Nat.reduceLeDiff, Nat.reduceSub, Nat.reduceDiv, Nat.reduceMod, Nat.reduceMul, need_run, wholeQ, alW, hp, endQ]
      refine ⟨_, rfl, _, rfl, ?_⟩
      simp (config := { maxSteps := 1000000 }) (disch := omega) only [go_sem, ↓reduceIte, Nat.reduceEqDiff, Nat.reduceAdd, Int.reduceToNat, reduceCtorEq, Nat.reduceLeDiff, Nat.reduceSub, Nat.reduceDiv, Nat.reduceMod, Nat.reduceMul, fin, reqV]
    · have hn := needs G N []
      simp (config := { maxSteps := 1000000 }) (disch := omega) only [go_sem, ↓reduceIte, Nat.reduceEqDiff, Nat.reduceAdd, Int.reduceToNat, reduceCtorEq, Nat.reduceLeDiff, Nat.reduceSub, Nat.reduceDiv, Nat.reduceMod, Nat.reduceMul, g]
      refine .inl (DO_take G 7 ?_)
      simp (config := { maxSteps := 1000000 }) (disch := omega) only [go_sem, ↓reduceIte, Nat.reduceEqDiff, Nat.reduceAdd, Int.reduceToNat, reduceCtorEq, Nat.reduceLeDiff, Nat.reduceSub, Nat.reduceDiv, Nat.reduceMod, Nat.reduceMul, List.take_succ_cons, List.take_zero, List.drop_succ_cons, List.drop_zero]
      refine DO_call rfl rfl rfl hn ?_
      simp only [wholeQ, alW, hp, if_neg he, recQ]
      simp (config := { maxSteps := 1000000 }) (disch := omega) only [go_sem, ↓reduceIte, Nat.reduceEqDiff, Nat.reduceAdd, Int.reduceToNat, reduceCtorEq, Nat.reduceLeDiff, Nat.reduceSub, Nat.reduceDiv, Nat.reduceMod, Nat.reduceMul, putHp, idsL, AV.ids, dedup, dd00, List.replicate_succ, List.replicate_zero, List.length_cons, List.length_nil]
      exact ⟨_, rfl, rfl⟩
end
def getQA (s : Txt) : List AV := match alG tReq okQ s with
  | some x => [.agg (reqV x), .int .i64 0]
  | none => [.agg (reqV zReq), .int .i64 220]
theorem txts_all {α : Type} {k : List Txt → Rd α} {x : α} {b : Txt} : ∀ {n : Nat} {acc : List Txt}, Gen (tTxts n acc k) x b → ∃ l b', l.length = n ∧ (∀ t ∈ l, t.length ≤ 4000) ∧ Gen (k (acc ++ l)) x b' := by
  intro n
  induction n generalizing b with
  | zero => intro acc h; exact ⟨[], b, rfl, by simp, by simpa [tTxts] using h⟩
  | succ n ih =>
    intro acc h
    simp only [tTxts] at h
    cases h with
    | @txt _ t _ _ h1 h =>
      obtain ⟨l, b', k1, k2, k3⟩ := ih h
      refine ⟨t :: l, b', by simp [k1], ?_, by rw [List.append_assoc] at k3; exact k3⟩
      intro y hy
      rcases List.mem_cons.1 hy with rfl | hy
      · exact h1
      · exact k2 y hy
theorem alW_okW {s : Txt} {x : Req} (h : alW tReq s = some x) : okW x.words := by
  unfold alW at h
  cases hr : tReq.run s 0 with
  | none => rw [hr] at h; cases h
  | some r =>
    obtain ⟨y, e⟩ := r
    rw [hr] at h
    simp only at h
    split at h
    · injection h with h; subst h
      obtain ⟨b, hb, _⟩ := run_gen (Nat.zero_le _) hr
      unfold tReq at hb
      cases hb with
      | @num _ _ id _ _ h1 h2 hb =>
        cases hb with
        | @num _ _ kind _ _ h3 h4 hb =>
          dsimp only at hb
          split at hb
          · cases hb with
            | @num _ _ f _ _ h5 h6 hb =>
              cases hb with
              | @num _ _ t _ _ h7 h8 hb =>
                cases hb
                exact ⟨by simp, by simp⟩
          · split at hb
            · cases hb with
              | @num _ _ f _ _ h5 h6 hb =>
                cases hb with
                | @num _ _ n _ _ h7 h8 hb =>
                  obtain ⟨l, b', k1, k2, k3⟩ := txts_all hb
                  clear hb
                  cases k3 with
                  | @num _ _ r _ _ g1 g2 k4 =>
                    cases k4 with
                    | @num _ _ m _ _ g3 g4 k5 =>
                      cases k5
                      exact ⟨by simp; omega, fun w hw => by have := k2 w (by simpa using hw); omega⟩
            · cases hb
              exact ⟨by simp, by simp⟩
    · cases h
section
variable {T : Nat → Option Entry}
def WholeQ (T : Nat → Option Entry) : Prop := ∀ s : Txt, s.length ≤ 1000000 → runP T 1642 [.str s, .clo 1643 [] []] [] = some (.tup (wholeQ s), [])
theorem getQ_run (hT : TLe tab T) (hW : WholeQ T) {s : Txt} (hs : s.length ≤ 1000000) : runP T 1633 [.str s] [] = some (.tup (getQA s), []) := by
  refine runP_fn (hT 1633 _ t1633) rfl ?_
  have g := hW s hs
  unfold getQA
  rw [alG_alW]
  cases h : alW tReq s with
  | none =>
    simp only [wholeQ, h, reqV, zReq, strs_nil] at g
    simp (config := { maxSteps := 1000000 }) (disch := omega) only [go_sem, ↓reduceIte, Nat.reduceEqDiff, Nat.reduceAdd, Int.reduceToNat, reduceCtorEq, Nat.reduceLeDiff, Nat.reduceSub, Nat.reduceDiv, Nat.reduceMod, Nat.reduceMul, d1633, g, reqV, zReq, strs_nil]
  | some x =>
    simp only [wholeQ, h, reqV] at g
    have gc := runP_up hT (rqmay_run (r := x) (alW_okW h))
    have hl := (alW_okW h).1
    simp only [reqS] at gc
    simp only
    cases ho : okQ x with
    | true =>
      rw [ho] at gc
      simp (config := { maxSteps := 1000000 }) (disch := omega) only [go_sem, ↓reduceIte, Nat.reduceEqDiff, Nat.reduceAdd, Int.reduceToNat, reduceCtorEq, Nat.reduceLeDiff, Nat.reduceSub, Nat.reduceDiv, Nat.reduceMod, Nat.reduceMul, d1633, g, gc, reqV, if_true]
    | false =>
      rw [ho] at gc
      simp (config := { maxSteps := 1000000 }) (disch := omega) only [go_sem, ↓reduceIte, Nat.reduceEqDiff, Nat.reduceAdd, Int.reduceToNat, reduceCtorEq, Nat.reduceLeDiff, Nat.reduceSub, Nat.reduceDiv, Nat.reduceMod, Nat.reduceMul, d1633, g, gc, reqV, zReq, strs_nil, Bool.false_eq_true, if_false]
end
end Go.Proofs.Ytcfhocnbpplecaa
