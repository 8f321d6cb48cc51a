/- Layer 17: Mails. -/
import Derived.Test.YtimiedahbmfkhaaZc
import Derived.Test.YtimiedahbmfkhaaZj
namespace Go.Proofs.Ytimiedahbmfkhaa
set_option linter.unusedSimpArgs false
set_option linter.unusedVariables false
set_option maxHeartbeats 4000000
set_option maxRecDepth 100000
def omS (l : List Ml) (p : List Int) (i : Nat) : St := ⟨[(1, .clo 1131 [] [.ref 0 0, .ref 1 0]), (5, .own 4 2), (6, .own 4 3)], [.row false [.int .i64 (i : Int)], .row false [.sl 1 (ints p)], .row false (mls (tst p l i).1), .row false (mls (tst p l i).2)], 2, [(0, 4, [1, 5, 6], [(5, 2), (6, 3)])]⟩
theorem om_step {l : List Ml} {p : List Int} (hl : l.length ≤ 1000) (hp : p.length ≤ 1000000) (hpi : ∀ x ∈ p, I64 x) {i : Nat} (hi : i < l.length) (hk : i < p.length) : Ev tab d1127_b0 (omS l p i) (fun x st => x = .normal ∧ st = omS l p (i + 1)) := by
  have h1 := (tst_len (p := p) (l := l) (i := i) (by omega)).1
  have h2 := (tst_len (p := p) (l := l) (i := i) (by omega)).2
  have hn : 0 < (tst p l i).1.length := by omega
  obtain ⟨h3, h4⟩ := tst_at (p := p) (i := i) hn
  have g1 := nxz_run hk hp
  have hpx : I64 (p.getD i 0) := hpi _ (getD_mem (d := 0) hk)
  have g2 := pick_run (n := ((tst p l i).1.length : Int)) (p := p.getD i 0) ⟨by omega, by omega⟩ hpx
  have e1 : pckI ((tst p l i).1.length : Int) (p.getD i 0) = (((p.getD i 0 % ((tst p l i).1.length : Int)).toNat : Nat) : Int) := by rw [pckI, if_neg (by omega), h4]
  rw [e1] at g2
  have g3 := delm_run h3 (by omega)
  have h5 := delM_len h3
  have h6 := delM_take h3
  have h7 := mls_at h3
  simp only [omS, tst]
  generalize (p.getD i 0 % ((tst p l i).1.length : Int)).toNat = k at *
  generalize (tst p l i).1 = a at *
  generalize (tst p l i).2 = b at *
  have c1 : (if ([0] : List Nat).contains 1 = true then [0] else [1, 0]).reverse = [0, 1] := rfl
  have w1 : (a.length - 1) * 4 ≤ (mls (delM a k)).length := by rw [mls_len, h5]; omega
  have e9 (x : Ml) : mls b ++ mlC x = mls (b ++ [x]) := by rw [← mls_app]; simp [mls]
  have e8 := e9 (a.getD k default)
  simp only [mlC] at h7 e8
  simp (disch := first | exact w1 | omega) only [go_sem, ↓reduceIte, Nat.reduceEqDiff, Nat.reduceAdd, Int.reduceToNat, reduceCtorEq, Nat.reduceLeDiff, Nat.reduceSub, Nat.reduceDiv, Nat.reduceMod, Nat.reduceMul, d1127_b0, c1, g1, g2, g3, h5, h6, h7, e8, ghost_whole, whA_osl, whH_row]
theorem tile4_put (l : List Ml) : setAll (tile l.length [.int .i64 0, .int .i64 0, .int .i64 0, .int .i64 0]) 0 (mls l) = mls l := by
  have h : (tile l.length [AV.int .i64 0, .int .i64 0, .int .i64 0, .int .i64 0]).length = l.length * 4 := by rw [tile_length]; simp
  rw [setAll_eq _ _ _ (by rw [mls_len, h]; omega), mls_len, List.take_zero, List.nil_append, Nat.zero_add, List.drop_eq_nil_of_le (by omega), List.append_nil]
theorem ordm_run {l : List Ml} {p : List Int} (hl : l.length ≤ 1000) (hp : p.length ≤ 1000000) (hpi : ∀ x ∈ p, I64 x) : runP tab 1127 [.sl 4 (mls l), .clo 1131 [] [.ref 0 0, .ref 1 0]] [.row false [.int .i64 0], .row false [.sl 1 (ints p)]] = some (.vec 4 (mls (ordd p l)), [.row false [.int .i64 ((min l.length p.length : Nat) : Int)], .row false [.sl 1 (ints p)]]) := by
  refine runP_fn t1127 rfl ?_
  have ht := tile4_put l
  have hu : (tile l.length [AV.int .i64 0, .int .i64 0, .int .i64 0, .int .i64 0]).length = l.length * 4 := by rw [tile_length]; simp
  simp (config := { maxSteps := 1000000 }) (disch := omega) only [go_sem, ↓reduceIte, Nat.reduceEqDiff, Nat.reduceAdd, Int.reduceToNat, reduceCtorEq, Nat.reduceLeDiff, Nat.reduceSub, Nat.reduceDiv, Nat.reduceMod, Nat.reduceMul, d1127, headOf, hu, ht, Option.getD_none, List.take_length]
  refine Ev_loop0 (omS l p) (min l.length p.length) rfl (fun i hi => om_step hl hp hpi (by omega) (by omega)) ?_
  rw [ordd_min]
  have h1 := (tst_len (p := p) (l := l) (i := min l.length p.length) (by omega)).1
  have h2 := (tst_len (p := p) (l := l) (i := min l.length p.length) (by omega)).2
  simp only [omS]
  have c1 : (if ([0] : List Nat).contains 1 = true then [0] else [1, 0]).reverse = [0, 1] := rfl
  by_cases h : l.length ≤ p.length
  · have e : min l.length p.length = l.length := Nat.min_eq_left h
    rw [e] at h1 h2 ⊢
    generalize (tst p l l.length).1 = a at *
    generalize (tst p l l.length).2 = b at *
    simp (config := { maxSteps := 1000000 }) (disch := omega) only [go_sem, ↓reduceIte, Nat.reduceEqDiff, Nat.reduceAdd, Int.reduceToNat, reduceCtorEq, Nat.reduceLeDiff, Nat.reduceSub, Nat.reduceDiv, Nat.reduceMod, Nat.reduceMul, d1127_b0]
  · have e : min l.length p.length = p.length := Nat.min_eq_right (by omega)
    rw [e] at h1 h2 ⊢
    generalize (tst p l p.length).1 = a at *
    generalize (tst p l p.length).2 = b at *
    have g1 := next_no (p := p) rfl hp
    simp (config := { maxSteps := 1000000 }) (disch := omega) only [go_sem, ↓reduceIte, Nat.reduceEqDiff, Nat.reduceAdd, Int.reduceToNat, reduceCtorEq, Nat.reduceLeDiff, Nat.reduceSub, Nat.reduceDiv, Nat.reduceMod, Nat.reduceMul, d1127_b0, c1, g1]
theorem mails_run {l : List Ml} {p : List Int} (hl : l.length ≤ 1000) (hp : p.length ≤ 1000000) (hpi : ∀ x ∈ p, I64 x) : runP tab 1116 [.sl 4 (mls l), .sl 1 (ints p)] [] = some (.vec 4 (mls (ordd p l)), []) := by
  refine runP_fn t1116 rfl ?_
  have g1 := follow_run (p := p)
  have g2 := ordm_run hl hp hpi
  have hol := ordd_len p l
  have c1 : (if ([0] : List Nat).contains 1 = true then [0] else [1, 0]).reverse = [0, 1] := rfl
  simp (config := { maxSteps := 1000000 }) (disch := omega) only [go_sem, ↓reduceIte, Nat.reduceEqDiff, Nat.reduceAdd, Int.reduceToNat, reduceCtorEq, Nat.reduceLeDiff, Nat.reduceSub, Nat.reduceDiv, Nat.reduceMod, Nat.reduceMul, d1116, g1, g2, c1]
end Go.Proofs.Ytimiedahbmfkhaa
