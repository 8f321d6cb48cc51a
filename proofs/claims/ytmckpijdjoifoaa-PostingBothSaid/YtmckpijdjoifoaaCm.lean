/- Layer 5's smallest law. -/
import Derived.Test.YtmckpijdjoifoaaCl
namespace Go.Proofs.Ytmckpijdjoifoaa
set_option linter.unusedSimpArgs false
set_option linter.unusedVariables false
set_option maxHeartbeats 4000000
set_option maxRecDepth 100000
theorem bothL_mem (a b : List Int) (x : Int) : x ∈ bothL a b ↔ x ∈ a ∧ x ∈ b := by
  rw [bothL, nrm_mem ordrI, List.mem_filter, decide_eq_true_eq]; exact And.comm
theorem bothL_asc (a b : List Int) : (bothL a b).Pairwise (· < ·) := by
  rw [bothL, nrm_rising]; exact rising_inc _
theorem bothL_comm (a b : List Int) : bothL a b = bothL b a :=
  inc_ext (bothL_asc _ _) (bothL_asc _ _) fun x => by rw [bothL_mem, bothL_mem]; exact And.comm
theorem bothL_self (a b : List Int) : bothL (bothL a b) (bothL a b) = bothL a b :=
  inc_ext (bothL_asc _ _) (bothL_asc _ _) fun x => by rw [bothL_mem (bothL a b)]; simp
theorem boths_law {a b : List Int} (ha : a.length ≤ 9223372036854775807) (hb : b.length ≤ 9223372036854775807) : runP tabM 1593 [.sl 1 (ints a), .sl 1 (ints b)] [] = some (.bool true, []) := by
  refine runP_fn (show tabM 1593 = _ from t1593) rfl ?_
  have La := ints_length a
  have Lb := ints_length b
  by_cases c1 : a.length ≤ 100
  case neg => simp (config := { maxSteps := 1000000 }) (disch := omega) only [go_sem, ↓reduceIte, Nat.reduceEqDiff, reduceCtorEq, d1593, La]
  by_cases c2 : b.length ≤ 100
  case neg => simp (config := { maxSteps := 1000000 }) (disch := omega) only [go_sem, ↓reduceIte, Nat.reduceEqDiff, reduceCtorEq, d1593, La, Lb]
  have gb := up (pboth_run (a := a) (b := b) (by omega) (by omega))
  have gc := up (pboth_run (a := b) (b := a) (by omega) (by omega))
  have lc := bothL_len a b
  have gd := up (pboth_run (a := bothL a b) (b := bothL a b) (by omega) (by omega))
  rw [← bothL_comm a b] at gc
  rw [bothL_self] at gd
  have hm := bothL_mem a b
  have hi := bothL_asc a b
  generalize bothL a b = l at *
  have Ll := ints_length l
  have gi := up (ints_run (a := l) (b := l) (by omega) (by omega))
  rw [beq_self_eq_true] at gi
  have gA : ∀ x, runP tabM 1020 [.sl 1 (ints a), .int .i64 x] [] = some (.bool (decide (x ∈ a)), []) := fun x => up (qin_run (by omega))
  have gB : ∀ x, runP tabM 1020 [.sl 1 (ints b), .int .i64 x] [] = some (.bool (decide (x ∈ b)), []) := fun x => up (qin_run (by omega))
  have gL : ∀ x, runP tabM 1020 [.sl 1 (ints l), .int .i64 x] [] = some (.bool (decide (x ∈ l)), []) := fun x => up (qin_run (by omega))
  have gp := posted_run
  simp (config := { maxSteps := 1000000 }) (disch := omega) only [go_sem, ↓reduceIte, Nat.reduceEqDiff, reduceCtorEq, d1593, La, Lb, gb]
  refine Ev_loop0 (fun i => ⟨[(0, .sl 1 (ints a)), (1, .sl 1 (ints b)), (5, .own 1 0), (6, .int .i64 (i : Int))], [.row false (ints l)], 0, [(0, 1, [0, 1, 5, 6], [(5, 0)])]⟩) l.length rfl (fun i hi' => ?_) ?_
  · have e1 := ints_rdc0 hi'
    have hx := (hm (l.getD i 0)).1 (getD_memI hi')
    have g1 := gA (l.getD i 0)
    have g2 := gB (l.getD i 0)
    rw [decide_eq_true hx.1] at g1
    rw [decide_eq_true hx.2] at g2
    by_cases h0 : 0 < i
    · have q := inc_at hi (i := i - 1) (j := i) (by omega) hi'
      have z : ((i : Int) - 1).toNat = i - 1 := by omega
      have e2 := ints_rdc0 (l := l) (i := i - 1) (by omega)
      simp (config := { maxSteps := 1000000 }) (disch := omega) only [go_sem, ↓reduceIte, Nat.reduceEqDiff, reduceCtorEq, d1593_b0, Ll, e1, e2, g1, g2, z]
    · simp (config := { maxSteps := 1000000 }) (disch := omega) only [go_sem, ↓reduceIte, Nat.reduceEqDiff, reduceCtorEq, d1593_b0, Ll, e1, g1, g2]
  · simp (config := { maxSteps := 1000000 }) (disch := omega) only [go_sem, ↓reduceIte, Nat.reduceEqDiff, reduceCtorEq, d1593_b0, Ll]
    refine Ev_loop0 (fun i => ⟨[(0, .sl 1 (ints a)), (1, .sl 1 (ints b)), (5, .own 1 0), (7, .int .i64 (i : Int))], [.row false (ints l)], 0, [(1, 1, [0, 1, 5, 7], [(5, 0)]), (0, 1, [0, 1, 5, 6], [(5, 0)])]⟩) a.length rfl (fun i hi' => ?_) ?_
    · have e1 := ints_rdc0 hi'
      have hx := getD_memI hi'
      have g1 := gB (a.getD i 0)
      have g2 := gL (a.getD i 0)
      have hq : decide (a.getD i 0 ∈ l) = decide (a.getD i 0 ∈ b) := decide_eq_decide.2 ⟨fun h => ((hm _).1 h).2, fun h => (hm _).2 ⟨hx, h⟩⟩
      rw [hq] at g2
      simp (config := { maxSteps := 1000000 }) (disch := omega) only [go_sem, ↓reduceIte, Nat.reduceEqDiff, reduceCtorEq, d1593_b1, La, e1, g1, g2]
    · simp (config := { maxSteps := 1000000 }) (disch := omega) only [go_sem, ↓reduceIte, Nat.reduceEqDiff, Nat.reduceAdd, reduceCtorEq, d1593_b1, La, gp, gc, gd, gi]
end Go.Proofs.Ytmckpijdjoifoaa
