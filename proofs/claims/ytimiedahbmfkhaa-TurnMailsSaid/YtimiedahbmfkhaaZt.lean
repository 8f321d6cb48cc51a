/- Layer 17: TurnMails. -/
import Derived.Test.YtimiedahbmfkhaaZs
import Derived.Test.YtimiedahbmfkhaaZg
namespace Go.Proofs.Ytimiedahbmfkhaa
set_option linter.unusedSimpArgs false
set_option linter.unusedVariables false
set_option maxHeartbeats 4000000
set_option maxRecDepth 100000
theorem tmails_law {l : List Ml} {p : List Int} (hl : l.length ≤ 9223372036854775807) (hp : p.length ≤ 9223372036854775807) (hpi : ∀ x ∈ p, I64 x) : runP tabM 1108 [.sl 4 (mls l), .sl 1 (ints p)] [] = some (.bool true, []) := by
  refine runP_fn (show tabM 1108 = _ from t1108) rfl ?_
  have L := mls_len l
  have Ld : l.length * 4 / 4 = l.length := by omega
  have Lp := ints_length p
  by_cases c1 : l.length ≤ 60
  case neg => simp (config := { maxSteps := 1000000 }) (disch := omega) only [go_sem, ↓reduceIte, Nat.reduceEqDiff, Nat.reduceAdd, Int.reduceToNat, reduceCtorEq, Nat.reduceLeDiff, Nat.reduceSub, Nat.reduceDiv, Nat.reduceMod, Nat.reduceMul, d1108, L, Ld, Lp]
  by_cases c2 : p.length ≤ 150
  case neg => simp (config := { maxSteps := 1000000 }) (disch := omega) only [go_sem, ↓reduceIte, Nat.reduceEqDiff, Nat.reduceAdd, Int.reduceToNat, reduceCtorEq, Nat.reduceLeDiff, Nat.reduceSub, Nat.reduceDiv, Nat.reduceMod, Nat.reduceMul, d1108, L, Ld, Lp]
  have gm := up (mails_run (l := l) (p := p) (by omega) (by omega) hpi)
  have g0 := up (mails_run (l := l) (p := []) (by omega) (by simp) (by simp))
  rw [ordd_nil] at g0
  simp only [ints, List.map_nil] at g0
  have hn : I64 (l.length : Int) := ⟨by omega, by omega⟩
  have go := up (order_run (n := (l.length : Int)) (p := p) hn (by omega) hpi)
  rw [ordA, if_neg (by omega), Int.toNat_natCast] at go
  have hperm := ordd_perm p l
  have hat := ordd_at p l
  have lm := ordd_len p l
  have lo := ordd_len p (upI l.length)
  rw [upI_len] at lo
  have hmem : ∀ x ∈ ordd p (upI l.length), 0 ≤ x ∧ x < l.length := fun x hx => upI_mem.1 ((ordd_perm p (upI l.length)).mem_iff.1 hx)
  have gc1 := cmb_run (l := ordd p l) (by omega)
  have gc2 := cmb_run (l := l) (by omega)
  rw [cmb_perm hperm] at gc1
  have hc := cmb_len l
  have gs1 := up (same16_run (a := cmb l) (b := cmb l) (by omega) (by omega))
  have gs2 := up (same16_run (a := l) (b := l) (by omega) (by omega))
  rw [decide_eq_true rfl] at gs1 gs2
  have gt := up turns_run
  generalize ordd p l = m at *
  generalize ordd p (upI l.length) = o at *
  have Lm := mls_len m
  have Lmd : m.length * 4 / 4 = m.length := by omega
  have Lo := ints_length o
  simp (config := { maxSteps := 1000000 }) (disch := omega) only [go_sem, ↓reduceIte, Nat.reduceEqDiff, Nat.reduceAdd, Int.reduceToNat, reduceCtorEq, Nat.reduceLeDiff, Nat.reduceSub, Nat.reduceDiv, Nat.reduceMod, Nat.reduceMul, d1108, L, Ld, Lp, gm, go, Lm, Lmd, Lo, lm, lo]
  refine Ev_loop0 (fun i => ⟨[(0, .sl 4 (mls l)), (5, .own 4 0), (6, .own 1 1), (8, .int .i64 (i : Int))], [.row false (mls m), .row false (ints o)], 0, [(0, 2, [0, 5, 6, 8], [(5, 0), (6, 1)])]⟩) m.length rfl (fun i hi => ?_) ?_
  · have hio : i < o.length := by omega
    have e1 := ints_rdc0 hio
    have hx := hmem _ (getD_memI hio)
    have em : m.getD i default = l.getD (o.getD i 0).toNat default := by
      rw [hat, List.getD_eq_getElem?_getD, List.getElem?_map, List.getElem?_eq_getElem hio, List.getD_eq_getElem?_getD, List.getD_eq_getElem?_getD, List.getElem?_eq_getElem hio]; rfl
    have e2 := mls_at hi
    have e3 := mls_at (l := l) (i := (o.getD i 0).toNat) (by omega)
    rw [em] at e2
    generalize l.getD (o.getD i 0).toNat default = y at *
    have qy : aeqL [AV.int .i64 y.s, .int .i64 y.b, .int .i64 y.v, .int .i64 y.d] [.int .i64 y.s, .int .i64 y.b, .int .i64 y.v, .int .i64 y.d] = some true := by simp [aeqL, aeq]
    simp (config := { maxSteps := 1000000 }) (disch := omega) only [go_sem, ↓reduceIte, Nat.reduceEqDiff, Nat.reduceAdd, Int.reduceToNat, reduceCtorEq, Nat.reduceLeDiff, Nat.reduceSub, Nat.reduceDiv, Nat.reduceMod, Nat.reduceMul, d1108_b0, L, Ld, Lm, Lmd, Lo, lm, lo, e1, e2, e3, mlC, ml_enc, qy]
  · simp (config := { maxSteps := 1000000 }) (disch := omega) only [go_sem, ↓reduceIte, Nat.reduceEqDiff, Nat.reduceAdd, Int.reduceToNat, reduceCtorEq, Nat.reduceLeDiff, Nat.reduceSub, Nat.reduceDiv, Nat.reduceMod, Nat.reduceMul, d1108_b0, Lm, Lmd, L, Ld, gt, gc1, gc2, gs1, gs2, g0]
end Go.Proofs.Ytimiedahbmfkhaa
