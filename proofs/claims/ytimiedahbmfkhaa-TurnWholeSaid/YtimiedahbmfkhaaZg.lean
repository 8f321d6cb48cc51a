/- Layer 17: TurnWhole. -/
import Derived.Test.YtimiedahbmfkhaaZd
import Derived.Test.YtimiedahbmfkhaaVb
namespace Go.Proofs.Ytimiedahbmfkhaa
set_option linter.unusedSimpArgs false
set_option linter.unusedVariables false
set_option maxHeartbeats 4000000
set_option maxRecDepth 100000
theorem tst_perm {α : Type} [Inhabited α] {p : List Int} {l : List α} : ∀ {i : Nat}, i ≤ l.length → ((tst p l i).2 ++ (tst p l i).1).Perm l
  | 0, _ => by simp [tst]
  | i + 1, h => by
    have ih := tst_perm (p := p) (l := l) (i := i) (by omega)
    have h1 := (tst_len (p := p) (l := l) (i := i) (by omega)).1
    have h3 := (tst_at (p := p) (i := i) (show 0 < (tst p l i).1.length by omega)).1
    refine List.Perm.trans ?_ ih
    simp only [tst]
    generalize (p.getD i 0 % ((tst p l i).1.length : Int)).toNat = k at *
    generalize (tst p l i).1 = a at *
    generalize (tst p l i).2 = b at *
    rw [List.append_assoc]
    refine List.Perm.append_left _ ?_
    have e : a.take k ++ a.getD k default :: a.drop (k + 1) = a := by
      rw [List.getD_eq_getElem?_getD, List.getElem?_eq_getElem h3]
      show a.take k ++ a[k] :: a.drop (k + 1) = a
      rw [← List.drop_eq_getElem_cons h3, List.take_append_drop]
    conv => rhs; rw [← e]
    show (a.getD k default :: (a.take k ++ a.drop (k + 1))).Perm _
    exact List.perm_middle.symm
theorem ordd_perm {α : Type} [Inhabited α] (p : List Int) (l : List α) : (ordd p l).Perm l := by
  have h0 : (tst p l l.length).1 = [] := List.eq_nil_of_length_eq_zero (by rw [(tst_len (Nat.le_refl _)).1]; omega)
  have := tst_perm (p := p) (l := l) (Nat.le_refl _)
  rw [h0, List.append_nil] at this
  exact this
theorem upI_mem {n : Nat} {x : Int} : x ∈ upI n ↔ 0 ≤ x ∧ x < n := by
  simp only [upI, List.mem_map, List.mem_range]
  constructor
  · rintro ⟨a, h, rfl⟩; omega
  · intro h; exact ⟨x.toNat, by omega, by omega⟩
theorem upI_nodup (n : Nat) : (upI n).Nodup := by
  unfold upI List.Nodup
  rw [List.pairwise_map]
  exact (List.nodup_range (n := n)).imp fun h e => h (by omega)
theorem upI_at {n i : Nat} (h : i < n) : (upI n).getD i 0 = (i : Int) := by
  rw [upI, List.getD_eq_getElem?_getD, List.getElem?_map, List.getElem?_range h]; rfl
theorem nil_ordd (n : Nat) : ordd [] (upI n) = upI n := by
  rw [ordd_min]; simp [tst]
def seenB (l : List Int) (n i : Nat) : List Bool := (List.range n).map fun v : Nat => decide ((v : Int) ∈ l.take i)
theorem seenB_len (l : List Int) (n i : Nat) : (seenB l n i).length = n := by simp [seenB]
theorem seenB_at {l : List Int} {n i v : Nat} (h : v < n) : (seenB l n i).getD v false = decide ((v : Int) ∈ l.take i) := by
  rw [seenB, List.getD_eq_getElem?_getD, List.getElem?_map, List.getElem?_range h]; rfl
theorem seenB_succ {l : List Int} {n i v : Nat} (hi : i < l.length) (hv : l.getD i 0 = (v : Int)) : (seenB l n i).set v true = seenB l n (i + 1) := by
  refine List.ext_getElem (by simp [seenB]) fun j a b => ?_
  simp only [seenB, List.getElem_set, List.getElem_map, List.getElem_range, take_snoc 0 hi, hv, List.mem_append, List.mem_singleton]
  by_cases e : v = j
  · subst e; simp
  · rw [if_neg e]
    have : ¬ ((j : Int) = (v : Int)) := by omega
    simp [this]
theorem isord_run {n : Nat} {l : List Int} (hn : n ≤ 1000) (h : l.Perm (upI n)) : runP tab 1123 [.sl 1 (ints l), .int .i64 (n : Int)] [] = some (.bool true, []) := by
  refine runP_fn t1123 rfl ?_
  have hl : l.length = n := by rw [h.length_eq, upI_len]
  have hd : l.Nodup := (h.nodup_iff).2 (upI_nodup n)
  simp (config := { maxSteps := 1000000 }) (disch := omega) only [go_sem, ↓reduceIte, Nat.reduceEqDiff, Nat.reduceAdd, Int.reduceToNat, reduceCtorEq, Nat.reduceLeDiff, Nat.reduceSub, Nat.reduceDiv, Nat.reduceMod, Nat.reduceMul, d1123, tile_bls]
  refine Ev_loop0 (fun i => ⟨[(1, .int .i64 (n : Int)), (5, .own 1 0), (14, .sl 1 (ints l)), (15, .int .i64 (l.length : Int)), (16, .int .i64 (i : Int))], [.row false (bls (seenB l n i))], 0, [(0, 1, [1, 5, 14, 15, 16], [(5, 0)])]⟩) l.length (by simp [seenB, List.map_const', hl]) (fun i hi => ?_) ?_
  · have hm : l.getD i 0 ∈ upI n := h.mem_iff.1 (getD_mem (d := 0) hi)
    obtain ⟨m1, m2⟩ := upI_mem.1 hm
    obtain ⟨v, hv⟩ := Int.eq_ofNat_of_zero_le m1
    have hs := seenB_succ (n := n) hi hv
    have ha := seenB_at (l := l) (n := n) (i := i) (v := v) (by omega)
    have hno : (v : Int) ∉ l.take i := by
      intro hmem
      have e := take_snoc (0 : Int) hi
      have hp : (l.take (i + 1)).Nodup := hd.sublist (List.take_sublist _ _)
      rw [e, hv, List.nodup_append] at hp
      exact hp.2.2 _ hmem _ (by simp) rfl
    rw [decide_eq_false hno] at ha
    have hle := seenB_len l n i
    rw [hv] at m1 m2
    rw [← hs]
    simp (config := { maxSteps := 1000000 }) (disch := omega) only [go_sem, ↓reduceIte, Nat.reduceEqDiff, Nat.reduceAdd, Int.reduceToNat, reduceCtorEq, Nat.reduceLeDiff, Nat.reduceSub, Nat.reduceDiv, Nat.reduceMod, Nat.reduceMul, d1123_b0, hv, ha, hle]
  · have hle := seenB_len l n l.length
    simp (config := { maxSteps := 1000000 }) (disch := omega) only [go_sem, ↓reduceIte, Nat.reduceEqDiff, Nat.reduceAdd, Int.reduceToNat, reduceCtorEq, Nat.reduceLeDiff, Nat.reduceSub, Nat.reduceDiv, Nat.reduceMod, Nat.reduceMul, d1123_b0]
theorem twhole_run {n : Int} {p : List Int} (hn : I64 n) (hp : p.length ≤ 9223372036854775807) (hpi : ∀ x ∈ p, I64 x) : runP tab 1107 [.int .i64 n, .sl 1 (ints p)] [] = some (.bool true, []) := by
  refine runP_fn t1107 rfl ?_
  have hn0 := hn
  obtain ⟨n1, n2⟩ := hn
  have gt := turns_run
  by_cases h2 : 100 < n
  · simp (config := { maxSteps := 1000000 }) (disch := omega) only [go_sem, ↓reduceIte, Nat.reduceEqDiff, Nat.reduceAdd, Int.reduceToNat, reduceCtorEq, Nat.reduceLeDiff, Nat.reduceSub, Nat.reduceDiv, Nat.reduceMod, Nat.reduceMul, d1107, gt]
  by_cases h3 : 150 < p.length
  · simp (config := { maxSteps := 1000000 }) (disch := omega) only [go_sem, ↓reduceIte, Nat.reduceEqDiff, Nat.reduceAdd, Int.reduceToNat, reduceCtorEq, Nat.reduceLeDiff, Nat.reduceSub, Nat.reduceDiv, Nat.reduceMod, Nat.reduceMul, d1107, gt]
  have g1 := order_run hn0 (by omega : p.length ≤ 1000000) hpi
  have g2 : runP tab 1114 [.int .i64 n, .sl 1 []] [] = some (ordA n [], []) := order_run (p := []) hn0 (by simp) (by simp)
  by_cases h1 : n < 0
  · rw [ordA, if_pos (Or.inl h1)] at g1 g2
    simp (config := { maxSteps := 1000000 }) (disch := omega) only [go_sem, ↓reduceIte, Nat.reduceEqDiff, Nat.reduceAdd, Int.reduceToNat, reduceCtorEq, Nat.reduceLeDiff, Nat.reduceSub, Nat.reduceDiv, Nat.reduceMod, Nat.reduceMul, d1107, gt, g1, g2]
  obtain ⟨k, rfl⟩ := Int.eq_ofNat_of_zero_le (show 0 ≤ n by omega)
  rw [ordA, if_neg (by omega), Int.toNat_natCast] at g1 g2
  rw [nil_ordd] at g2
  have hu := upI_len k
  have ho := ordd_len p (upI k)
  rw [upI_len] at ho
  simp (config := { maxSteps := 1000000 }) (disch := omega) only [go_sem, ↓reduceIte, Nat.reduceEqDiff, Nat.reduceAdd, Int.reduceToNat, reduceCtorEq, Nat.reduceLeDiff, Nat.reduceSub, Nat.reduceDiv, Nat.reduceMod, Nat.reduceMul, d1107, gt, g1, g2]
  refine Ev_loop0 (fun i => ⟨[(0, .int .i64 (k : Int)), (5, .own 1 0), (7, .own 1 1), (8, .int .i64 0), (9, .int .i64 (i : Int))], [.row false (ints (ordd p (upI k))), .row false (ints (upI k))], 0, [(0, 2, [0, 5, 7, 8, 9], [(5, 0), (7, 1)])]⟩) k rfl (fun i hi => ?_) ?_
  · have e := upI_at hi
    simp (config := { maxSteps := 1000000 }) (disch := omega) only [go_sem, ↓reduceIte, Nat.reduceEqDiff, Nat.reduceAdd, Int.reduceToNat, reduceCtorEq, Nat.reduceLeDiff, Nat.reduceSub, Nat.reduceDiv, Nat.reduceMod, Nat.reduceMul, d1107_b0, e]
  · have g3 := isord_run (n := k) (l := ordd p (upI k)) (by omega) (ordd_perm p _)
    simp (config := { maxSteps := 1000000 }) (disch := omega) only [go_sem, ↓reduceIte, Nat.reduceEqDiff, Nat.reduceAdd, Int.reduceToNat, reduceCtorEq, Nat.reduceLeDiff, Nat.reduceSub, Nat.reduceDiv, Nat.reduceMod, Nat.reduceMul, d1107_b0, gt, g3]
end Go.Proofs.Ytimiedahbmfkhaa
