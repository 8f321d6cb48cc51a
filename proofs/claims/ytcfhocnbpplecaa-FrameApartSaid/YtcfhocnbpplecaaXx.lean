/- The document's rows. -/
import Derived.Test.YtcfhocnbpplecaaXw
namespace Go.Proofs.Ytcfhocnbpplecaa
set_option linter.unusedSimpArgs false
set_option linter.unusedVariables false
set_option maxHeartbeats 4000000
set_option maxRecDepth 100000
theorem fr_may {id code d : Int} {f : Bool} (h : (id = 7 ∧ code = 0 ∧ f = true ∧ d = 3) ∨ (id = 7 ∧ code = 251 ∧ f = false ∧ d = 0)) : runP tab 1420 [.agg [.int .i64 id, .int .i64 code, .bool f, .int .i64 d, .sl 1 []]] [] = some (.bool true, []) := by
  refine runP_fn t1420 rfl ?_
  have gi := idmay_run 7
  rw [decide_eq_true (by omega)] at gi
  rcases h with ⟨rfl, rfl, rfl, rfl⟩ | ⟨rfl, rfl, rfl, rfl⟩
  · simp (config := { maxSteps := 1000000 }) (disch := omega) only [go_sem, ↓reduceIte, Nat.reduceEqDiff, Nat.reduceAdd, Int.reduceToNat, reduceCtorEq, Nat.reduceLeDiff, Nat.reduceSub, Nat.reduceDiv, Nat.reduceMod, Nat.reduceMul, d1420, gi]
    refine Ev_loop0 (fun i => ⟨[(73, .sl 1 []), (74, .int .i64 0), (75, .int .i64 (i : Int))], [.row false [.int .i64 7, .int .i64 0, .bool true, .int .i64 3, .sl 1 []], .row false [.bool true, .int .i64 3, .sl 1 []]], 0, [(0, 2, [73, 74, 75], [])]⟩) 0 rfl (fun i hi => by omega) ?_
    simp (config := { maxSteps := 1000000 }) (disch := omega) only [go_sem, ↓reduceIte, Nat.reduceEqDiff, Nat.reduceAdd, Int.reduceToNat, reduceCtorEq, Nat.reduceLeDiff, Nat.reduceSub, Nat.reduceDiv, Nat.reduceMod, Nat.reduceMul, d1420_b0]
  · simp (config := { maxSteps := 1000000 }) (disch := omega) only [go_sem, ↓reduceIte, Nat.reduceEqDiff, Nat.reduceAdd, Int.reduceToNat, reduceCtorEq, Nat.reduceLeDiff, Nat.reduceSub, Nat.reduceDiv, Nat.reduceMod, Nat.reduceMul, d1420, gi]
    refine Ev_loop0 (fun i => ⟨[(73, .sl 1 []), (74, .int .i64 0), (75, .int .i64 (i : Int))], [.row false [.int .i64 7, .int .i64 251, .bool false, .int .i64 0, .sl 1 []], .row false [.bool false, .int .i64 0, .sl 1 []]], 0, [(0, 2, [73, 74, 75], [])]⟩) 0 rfl (fun i hi => by omega) ?_
    simp (config := { maxSteps := 1000000 }) (disch := omega) only [go_sem, ↓reduceIte, Nat.reduceEqDiff, Nat.reduceAdd, Int.reduceToNat, reduceCtorEq, Nat.reduceLeDiff, Nat.reduceSub, Nat.reduceDiv, Nat.reduceMod, Nat.reduceMul, d1420_b0]
theorem eb (n : Nat) (h : n < 128) : encN n = [UInt8.ofNat n] := encN_small h
theorem bytes1 : encI [7, 0] ++ encI [1, 3, 0] = [7, 0, 1, 3, 0] := by
  simp only [encI_cons, encI_nil, List.append_nil]
  rw [show Int.toNat 7 = 7 from rfl, show Int.toNat 0 = 0 from rfl, show Int.toNat 1 = 1 from rfl, show Int.toNat 3 = 3 from rfl, eb 7 (by omega), eb 0 (by omega), eb 1 (by omega), eb 3 (by omega)]
  rfl
theorem bytes2 : encI [7, 251] = [7, 251, 1] := by
  simp only [encI_cons, encI_nil, List.append_nil]
  rw [show Int.toNat 7 = 7 from rfl, show Int.toNat 251 = 251 from rfl, eb 7 (by omega), encN_big (n := 251) (by omega), show 251 / 128 = 1 from rfl, eb 1 (by omega)]
  rfl
theorem fr_put1 : runP tab 1410 [.agg [.int .i64 7, .int .i64 0, .bool true, .int .i64 3, .sl 1 []]] [] = some (.tup [.str [7, 0, 1, 3, 0], .int .i64 0], []) := by
  refine runP_fn t1410 rfl ?_
  have gm := fr_may (id := 7) (code := 0) (d := 3) (f := true) (.inl ⟨rfl, rfl, rfl, rfl⟩)
  obtain ⟨g1, _, k1⟩ := two_lay (a := 7) (b := 0) (by omega) (by omega)
  obtain ⟨g2, _, k2⟩ := three_lay (a := 1) (b := 3) (c := 0) (by omega) (by omega) (by omega)
  simp (config := { maxSteps := 1000000 }) (disch := omega) only [go_sem, ↓reduceIte, Nat.reduceEqDiff, Nat.reduceAdd, Int.reduceToNat, reduceCtorEq, Nat.reduceLeDiff, Nat.reduceSub, Nat.reduceDiv, Nat.reduceMod, Nat.reduceMul, d1410, gm, g1, g2]
  refine Ev_loop0 (fun i => ⟨[(4, .str (encI [7, 0] ++ encI [1, 3, 0])), (38, .sl 1 []), (39, .int .i64 0), (40, .int .i64 (i : Int))], [.row false [.int .i64 7, .int .i64 0, .bool true, .int .i64 3, .sl 1 []]], 0, [(0, 1, [4, 38, 39, 40], [])]⟩) 0 rfl (fun i hi => by omega) ?_
  simp (config := { maxSteps := 1000000 }) (disch := omega) only [go_sem, ↓reduceIte, Nat.reduceEqDiff, Nat.reduceAdd, Int.reduceToNat, reduceCtorEq, Nat.reduceLeDiff, Nat.reduceSub, Nat.reduceDiv, Nat.reduceMod, Nat.reduceMul, d1410_b0, bytes1]
theorem fr_put2 : runP tab 1410 [.agg [.int .i64 7, .int .i64 251, .bool false, .int .i64 0, .sl 1 []]] [] = some (.tup [.str [7, 251, 1], .int .i64 0], []) := by
  refine runP_fn t1410 rfl ?_
  have gm := fr_may (id := 7) (code := 251) (d := 0) (f := false) (.inr ⟨rfl, rfl, rfl, rfl⟩)
  obtain ⟨g1, _, k1⟩ := two_lay (a := 7) (b := 251) (by omega) (by omega)
  rw [bytes2] at g1
  simp (config := { maxSteps := 1000000 }) (disch := omega) only [go_sem, ↓reduceIte, Nat.reduceEqDiff, Nat.reduceAdd, Int.reduceToNat, reduceCtorEq, Nat.reduceLeDiff, Nat.reduceSub, Nat.reduceDiv, Nat.reduceMod, Nat.reduceMul, d1410, gm, g1]
def frQ : Req := ⟨300, 1, 1, 2, 5, [], 0, 0⟩
theorem frQ_ok : okQ frQ = true := by decide
theorem frQ_enc : encQ frQ = [172, 2, 1, 2, 5] := by
  show encI [300, 1] ++ encI [2, 5] = _
  simp only [encI_cons, encI_nil, List.append_nil]
  rw [show Int.toNat 300 = 300 from rfl, show Int.toNat 1 = 1 from rfl, show Int.toNat 2 = 2 from rfl, show Int.toNat 5 = 5 from rfl, encN_big (n := 300) (by omega), show 300 / 128 = 2 from rfl, eb 2 (by omega), eb 1 (by omega), eb 5 (by omega)]
  rfl
def frR : Rep := ⟨7, 251, false, 0, []⟩
theorem frR_ok : okR frR = true := by decide
theorem frR_enc : encR frR = [7, 251, 1] := by
  show encI [7, 251] ++ [] = _
  rw [List.append_nil]; exact bytes2
theorem framed_run : runP tabM 1635 [] [] = some (.bool true, []) := by
  refine runP_fn (show tabM 1635 = _ from t1635) rfl ?_
  have g1 := up (putQ_run (r := frQ) ⟨by simp [frQ], by simp [frQ]⟩)
  simp only [putQA, frQ_ok, if_true, frQ_enc] at g1
  have g2 := getQM (s := [172, 2, 1, 2, 5]) (by simp)
  rw [getQA, formQ.iff.2 ⟨frQ_ok, frQ_enc.symm⟩] at g2
  have g3 := up fr_put1
  have g4 := up fr_put2
  have g5 := getRM (s := [7, 251, 1]) (by simp)
  rw [getRA, formR.iff.2 ⟨frR_ok, frR_enc.symm⟩] at g5
  have g6 := getQM (s := []) (by simp)
  rw [getQA, show alG tReq okQ [] = none from by decide] at g6
  have g7 := up (id_run (s := [172, 2, 1, 2, 5]) (by simp))
  rw [idA, show rdN [172, 2, 1, 2, 5] 0 = some (300, 2) from by decide] at g7
  have g8 := up (samer_run (a := frQ) (b := frQ) (by simp [frQ]) (by simp [frQ]))
  rw [show (frQ == frQ) = true from by decide] at g8
  simp only [frQ, frR, reqS, reqV, repV, zReq, strs_nil, hts_nil, Int.cast_ofNat_Int] at g1 g2 g3 g4 g5 g6 g7 g8
  simp (config := { maxSteps := 1000000 }) (disch := omega) only [go_sem, ↓reduceIte, Nat.reduceEqDiff, Nat.reduceAdd, Int.reduceToNat, reduceCtorEq, Nat.reduceLeDiff, Nat.reduceSub, Nat.reduceDiv, Nat.reduceMod, Nat.reduceMul, d1635, g1, g2, g3, g4, g5, g6, g7, g8]
end Go.Proofs.Ytcfhocnbpplecaa
