/- Layer 11: the document's Is, Places, Turns. -/
import Derived.Test.YtjebbkpbaglooaaOi
namespace Go.Proofs.Ytjebbkpbaglooaa
set_option linter.unusedSimpArgs false
set_option linter.unusedVariables false
set_option maxHeartbeats 4000000
set_option maxRecDepth 100000
theorem sub_perm : ∀ {a l : List Int}, a.Nodup → (∀ x ∈ a, x ∈ l) → l.length ≤ a.length → l.Perm a
  | [], l, _, _, h => by
    have : l = [] := List.eq_nil_of_length_eq_zero (by simpa using h)
    rw [this]
  | x :: a, l, hd, hs, h => by
    have hx : x ∈ l := hs x (by simp)
    have hp := List.perm_cons_erase hx
    have hl := hp.length_eq
    have hd2 := List.nodup_cons.1 hd
    refine hp.trans (List.Perm.cons x (sub_perm hd2.2 (fun y hy => ?_) (by simp only [List.length_cons] at hl h; omega)))
    have hne : y ≠ x := fun e => hd2.1 (e ▸ hy)
    exact (List.mem_erase_of_ne hne).2 (hs y (by simp [hy]))
theorem ordL_count {l : List Int} : OrdL l ↔ ∀ v : Nat, v < l.length → l.count (v : Int) = 1 := by
  constructor
  · intro h v hv
    rw [(ordL_perm.1 h).count_eq, List.Nodup.count (upI_nodup _), if_pos (upI_mem.2 ⟨by omega, by omega⟩)]
  · intro h
    rw [ordL_perm]
    refine sub_perm (upI_nodup _) (fun x hx => ?_) (by rw [upI_len]; exact Nat.le_refl _)
    obtain ⟨h1, h2⟩ := upI_mem.1 hx
    obtain ⟨v, rfl⟩ := Int.eq_ofNat_of_zero_le h1
    have := h v (by omega)
    exact List.count_pos_iff.1 (by omega)
theorem count_succ {l : List Int} {i : Nat} (hi : i < l.length) (x : Int) : (l.take (i + 1)).count x = (l.take i).count x + (if l.getD i 0 = x then 1 else 0) := by
  rw [take_snoc 0 hi, List.count_append, List.count_singleton]
  by_cases h : l.getD i 0 = x <;> simp [h]
def risI (l : List Int) (v i : Nat) : St := ⟨[(0, .sl 1 (ints l)), (1, .int .i64 (l.length : Int)), (5, .int .i64 (v : Int)), (6, .int .i64 ((l.take i).count (v : Int) : Int)), (7, .int .i64 (i : Int))], [], 0, [(1, 0, [0, 1, 5, 6, 7], []), (0, 0, [0, 1, 5], [])]⟩
theorem ris_step {l : List Int} {v i : Nat} (hb : l.length ≤ 1000) (hi : i < l.length) : Ev tab d1186_b1 (risI l v i) (fun x st => x = .normal ∧ st = risI l v (i + 1)) := by
  have h1 := List.count_le_length (a := (v : Int)) (l := l.take i)
  rw [List.length_take] at h1
  simp only [risI, count_succ hi]
  generalize (l.take i).count (v : Int) = c at *
  by_cases h : l.getD i 0 = (v : Int)
  · rw [if_pos h]
    have e : ((c + 1 : Nat) : Int) = (c : Int) + 1 := by omega
    rw [e]
    simp (config := { maxSteps := 1000000 }) (disch := omega) only [go_sem, ↓reduceIte, Nat.reduceEqDiff, Nat.reduceAdd, Int.reduceToNat, reduceCtorEq, Nat.reduceLeDiff, Nat.reduceSub, Nat.reduceDiv, Nat.reduceMod, Nat.reduceMul, d1186_b1, h]
  · rw [if_neg h]
    simp (config := { maxSteps := 1000000 }) (disch := omega) only [go_sem, ↓reduceIte, Nat.reduceEqDiff, Nat.reduceAdd, Int.reduceToNat, reduceCtorEq, Nat.reduceLeDiff, Nat.reduceSub, Nat.reduceDiv, Nat.reduceMod, Nat.reduceMul, d1186_b1, h, Nat.add_zero]
theorem risord_run {l : List Int} {n : Int} (hb : l.length ≤ 1000) : runP tab 1186 [.sl 1 (ints l), .int .i64 n] [] = some (.bool (isN l n), []) := by
  refine runP_fn t1186 rfl ?_
  by_cases hn : (l.length : Int) = n
  · subst hn
    simp (config := { maxSteps := 1000000 }) (disch := omega) only [go_sem, ↓reduceIte, Nat.reduceEqDiff, Nat.reduceAdd, Int.reduceToNat, reduceCtorEq, Nat.reduceLeDiff, Nat.reduceSub, Nat.reduceDiv, Nat.reduceMod, Nat.reduceMul, d1186]
    rcases first_ix' (fun v => l.count (v : Int) = 1) l.length with h | ⟨m, h1, h2, h3⟩
    · have e : isN l (l.length : Int) = true := by simp [isN, isO, ordL_count.2 h]
      rw [e]
      refine Ev_loop0 (fun v => ⟨[(0, .sl 1 (ints l)), (1, .int .i64 (l.length : Int)), (5, .int .i64 (v : Int))], [], 0, [(0, 0, [0, 1, 5], [])]⟩) l.length rfl (fun v hv => ?_) ?_
      · simp (config := { maxSteps := 1000000 }) (disch := omega) only [go_sem, ↓reduceIte, Nat.reduceEqDiff, Nat.reduceAdd, Int.reduceToNat, reduceCtorEq, Nat.reduceLeDiff, Nat.reduceSub, Nat.reduceDiv, Nat.reduceMod, Nat.reduceMul, d1186_b0]
        refine Ev_loop0 (risI l v) l.length rfl (fun i hi => ris_step hb hi) ?_
        have q := h v hv
        simp only [risI, List.take_length, q]
        simp (config := { maxSteps := 1000000 }) (disch := omega) only [go_sem, ↓reduceIte, Nat.reduceEqDiff, Nat.reduceAdd, Int.reduceToNat, reduceCtorEq, Nat.reduceLeDiff, Nat.reduceSub, Nat.reduceDiv, Nat.reduceMod, Nat.reduceMul, d1186_b1]
      · simp (config := { maxSteps := 1000000 }) (disch := omega) only [go_sem, ↓reduceIte, Nat.reduceEqDiff, Nat.reduceAdd, Int.reduceToNat, reduceCtorEq, Nat.reduceLeDiff, Nat.reduceSub, Nat.reduceDiv, Nat.reduceMod, Nat.reduceMul, d1186_b0]
    · have e : isN l (l.length : Int) = false := by
        have : ¬ OrdL l := fun hc => h3 (ordL_count.1 hc m h1)
        simp [isN, isO, this]
      rw [e]
      refine Ev_loop0 (fun v => ⟨[(0, .sl 1 (ints l)), (1, .int .i64 (l.length : Int)), (5, .int .i64 (v : Int))], [], 0, [(0, 0, [0, 1, 5], [])]⟩) m rfl (fun v hv => ?_) ?_
      · simp (config := { maxSteps := 1000000 }) (disch := omega) only [go_sem, ↓reduceIte, Nat.reduceEqDiff, Nat.reduceAdd, Int.reduceToNat, reduceCtorEq, Nat.reduceLeDiff, Nat.reduceSub, Nat.reduceDiv, Nat.reduceMod, Nat.reduceMul, d1186_b0]
        refine Ev_loop0 (risI l v) l.length rfl (fun i hi => ris_step hb hi) ?_
        have q := h2 v hv
        simp only [risI, List.take_length, q]
        simp (config := { maxSteps := 1000000 }) (disch := omega) only [go_sem, ↓reduceIte, Nat.reduceEqDiff, Nat.reduceAdd, Int.reduceToNat, reduceCtorEq, Nat.reduceLeDiff, Nat.reduceSub, Nat.reduceDiv, Nat.reduceMod, Nat.reduceMul, d1186_b1]
      · simp (config := { maxSteps := 1000000 }) (disch := omega) only [go_sem, ↓reduceIte, Nat.reduceEqDiff, Nat.reduceAdd, Int.reduceToNat, reduceCtorEq, Nat.reduceLeDiff, Nat.reduceSub, Nat.reduceDiv, Nat.reduceMod, Nat.reduceMul, d1186_b0]
        refine Ev_loop0 (risI l m) l.length rfl (fun i hi => ris_step hb hi) ?_
        simp only [risI, List.take_length]
        have q : ¬ ((l.count (m : Int) : Int) = 1) := by omega
        simp (config := { maxSteps := 1000000 }) (disch := omega) only [go_sem, ↓reduceIte, Nat.reduceEqDiff, Nat.reduceAdd, Int.reduceToNat, reduceCtorEq, Nat.reduceLeDiff, Nat.reduceSub, Nat.reduceDiv, Nat.reduceMod, Nat.reduceMul, d1186_b1, q]
  · have e : isN l n = false := by simp [isN, hn]
    rw [e]
    simp (config := { maxSteps := 1000000 }) (disch := omega) only [go_sem, ↓reduceIte, Nat.reduceEqDiff, Nat.reduceAdd, Int.reduceToNat, reduceCtorEq, Nat.reduceLeDiff, Nat.reduceSub, Nat.reduceDiv, Nat.reduceMod, Nat.reduceMul, d1186]
theorem rplaces_run {l : List Int} (hb : l.length ≤ 1000) : runP tab 1180 [.sl 1 (ints l)] [] = some (plA l, []) := by
  refine runP_fn t1180 rfl ?_
  have g := risord_run (n := (l.length : Int)) hb
  rw [isN_self] at g
  unfold plA
  cases ho : isO l with
  | false =>
    rw [ho] at g
    rw [if_neg (by simp)]
    simp (config := { maxSteps := 1000000 }) (disch := omega) only [go_sem, ↓reduceIte, Nat.reduceEqDiff, Nat.reduceAdd, Int.reduceToNat, reduceCtorEq, Nat.reduceLeDiff, Nat.reduceSub, Nat.reduceDiv, Nat.reduceMod, Nat.reduceMul, d1180, g]
  | true =>
    rw [ho] at g
    rw [if_pos rfl]
    simp (config := { maxSteps := 1000000 }) (disch := omega) only [go_sem, ↓reduceIte, Nat.reduceEqDiff, Nat.reduceAdd, Int.reduceToNat, reduceCtorEq, Nat.reduceLeDiff, Nat.reduceSub, Nat.reduceDiv, Nat.reduceMod, Nat.reduceMul, d1180, g, tile_ints]
    refine Ev_loop0 (fun i => ⟨[(0, .sl 1 (ints l)), (4, .own 1 0), (5, .int .i64 (i : Int))], [.row false (ints (plcs l i))], 0, [(0, 1, [0, 4, 5], [(4, 0)])]⟩) l.length rfl (fun i hi => ?_) ?_
    · obtain ⟨m1, m2⟩ := isO_mem ho hi
      have hle := plcs_len l i
      have e : plcs l (i + 1) = (plcs l i).set (l.getD i 0).toNat (i : Int) := rfl
      obtain ⟨v, hv⟩ := Int.eq_ofNat_of_zero_le m1
      rw [e, hv, Int.toNat_natCast]
      rw [hv] at m1 m2
      simp (config := { maxSteps := 1000000 }) (disch := omega) only [go_sem, ↓reduceIte, Nat.reduceEqDiff, Nat.reduceAdd, Int.reduceToNat, reduceCtorEq, Nat.reduceLeDiff, Nat.reduceSub, Nat.reduceDiv, Nat.reduceMod, Nat.reduceMul, d1180_b0, hle, hv]
    · have hle := plcs_len l l.length
      simp (config := { maxSteps := 1000000 }) (disch := omega) only [go_sem, ↓reduceIte, Nat.reduceEqDiff, Nat.reduceAdd, Int.reduceToNat, reduceCtorEq, Nat.reduceLeDiff, Nat.reduceSub, Nat.reduceDiv, Nat.reduceMod, Nat.reduceMul, d1180_b0, hle]
end Go.Proofs.Ytjebbkpbaglooaa
