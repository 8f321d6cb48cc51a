/- Levels, as the program and the document tell them. -/
import Derived.Test.YtgjahkebhlphgaaVg
import Derived.Test.YtgjahkebhlphgaaSb
import Derived.Test.YtgjahkebhlphgaaHu
import Derived.Laws.Bits64
import Derived.Laws.Bits64b
namespace Go.Proofs.Ytgjahkebhlphgaa
set_option linter.unusedSimpArgs false
set_option linter.unusedVariables false
set_option maxHeartbeats 4000000
set_option maxRecDepth 100000
theorem rlx_at (o : List Int) {a b : Nat} : rlx o ((a : Int), (b : Int)) = if 0 ≤ gi o a ∧ (gi o b < 0 ∨ gi o a + 1 < gi o b) then o.set b (gi o a + 1) else o := rfl
def bnd (B : Int) (o : List Int) : Prop := ∀ k, -1 ≤ gi o k ∧ gi o k ≤ B
theorem gi_out {l : List Int} {i : Nat} (h : l.length ≤ i) : gi l i = 0 := by simp [gi, List.getD_eq_getElem?_getD, List.getElem?_eq_none h]
theorem gi_set' {l : List Int} {i j : Nat} {x : Int} : gi (l.set i x) j = if j = i ∧ i < l.length then x else gi l j := by
  by_cases h : i < l.length
  · rw [gi_set h]; simp [h]
  · rw [List.set_eq_of_length_le (by omega), if_neg (fun h2 => h h2.2)]
theorem rlx_bnd {B : Int} {o : List Int} (h : bnd B o) (hB : 0 ≤ B) (e : Int × Int) : bnd (B + 1) (rlx o e) := by
  intro k
  have h1 := h k
  have h2 := h e.1.toNat
  unfold rlx
  split
  · rw [gi_set']
    split <;> omega
  · omega
theorem rlxs_bnd : ∀ {l : List (Int × Int)} {B : Int} {o : List Int}, bnd B o → 0 ≤ B → bnd (B + l.length) (l.foldl rlx o)
  | [], B, o, h, _ => by simpa using h
  | e :: l, B, o, h, hB => by
    have := rlxs_bnd (l := l) (rlx_bnd h hB e) (by omega)
    rw [List.foldl_cons, List.length_cons]
    intro k
    have := this k
    omega
theorem rounds_bnd {l : List (Int × Int)} {o : List Int} (h : bnd 0 o) : ∀ t : Nat, bnd ((t * l.length : Nat) : Int) (rounds l o t)
  | 0 => by simpa [rounds] using h
  | t + 1 => by
    have := rlxs_bnd (l := l) (rounds_bnd (l := l) h t) (by omega)
    rw [rounds]
    intro k
    have := this k
    rw [Nat.succ_mul]
    omega
def rvO (r : Rw) (E : List Ed) (s n v : Nat) : St := ⟨[(1, .int .i64 (s : Int)), (8, .own 2 1), (10, .int .i64 (n : Int)), (11, .own 1 2), (12, .int .i64 (v : Int))], [.row false (rwS r), .row false (prs E), .row false (ints (rpz n v (-1)))], 0, [(0, 3, [1, 8, 10, 11, 12], [(8, 1), (11, 2)])]⟩
def rvT (r : Rw) (E : List Ed) (n t : Nat) (o : List Int) : St := ⟨[(8, .own 2 1), (10, .int .i64 (n : Int)), (11, .own 1 2), (13, .int .i64 (t : Int))], [.row false (rwS r), .row false (prs E), .row false (ints o)], 0, [(1, 3, [8, 10, 11, 13], [(8, 1), (11, 2)]), (0, 3, [1, 8, 10, 11, 12], [(8, 1), (11, 2)])]⟩
def rvI (r : Rw) (E : List Ed) (n t i : Nat) (o : List Int) : St := ⟨[(8, .own 2 1), (10, .int .i64 (n : Int)), (11, .own 1 2), (13, .int .i64 (t : Int)), (14, .int .i64 (i : Int))], [.row false (rwS r), .row false (prs E), .row false (ints o)], 0, [(2, 3, [8, 10, 11, 13, 14], [(8, 1), (11, 2)]), (1, 3, [8, 10, 11, 13], [(8, 1), (11, 2)]), (0, 3, [1, 8, 10, 11, 12], [(8, 1), (11, 2)])]⟩
theorem rv_edge {r : Rw} {E : List Ed} {n t i : Nat} {o : List Int} (hi : i < E.length) (hE : E.length ≤ 1000000) (ho : o.length = n) (hb : bnd 1000000000 o) (h1 : 0 ≤ (E.getD i default).1 ∧ (E.getD i default).1 < n) (h2 : 0 ≤ (E.getD i default).2 ∧ (E.getD i default).2 < n) : Ev tab d1336_b2 (rvI r E n t i o) (fun x st => x = .normal ∧ st = rvI r E n t (i + 1) (rlx o (E.getD i default))) := by
  have e1 := prs_fst hi
  have e2 := prs_snd hi
  generalize E.getD i default = e at *
  obtain ⟨a, b⟩ := e
  simp only at h1 h2 e1 e2
  obtain ⟨a, rfl⟩ : ∃ m : Nat, a = m := ⟨a.toNat, by omega⟩
  obtain ⟨b, rfl⟩ : ∃ m : Nat, b = m := ⟨b.toNat, by omega⟩
  rw [rlx_at]
  have ba := hb a
  have bb := hb b
  have ea : o.getD a 0 = gi o a := rfl
  have eb : o.getD b 0 = gi o b := rfl
  by_cases q1 : 0 ≤ gi o a
  · by_cases q2 : gi o b < 0
    · rw [if_pos ⟨q1, .inl q2⟩]
      simp (config := { maxSteps := 1000000 }) (disch := omega) only [go_sem, ↓reduceIte, Nat.reduceEqDiff, Nat.reduceAdd, Int.reduceToNat, reduceCtorEq, Nat.reduceLeDiff, Nat.reduceSub, Nat.reduceDiv, Nat.reduceMod, Nat.reduceMul, d1336_b2, rvI, rwS, e1, e2, ea, eb]
    · by_cases q3 : gi o a + 1 < gi o b
      · rw [if_pos ⟨q1, .inr q3⟩]
        simp (config := { maxSteps := 1000000 }) (disch := omega) only [go_sem, ↓reduceIte, Nat.reduceEqDiff, Nat.reduceAdd, Int.reduceToNat, reduceCtorEq, Nat.reduceLeDiff, Nat.reduceSub, Nat.reduceDiv, Nat.reduceMod, Nat.reduceMul, d1336_b2, rvI, rwS, e1, e2, ea, eb]
      · rw [if_neg (by omega)]
        simp (config := { maxSteps := 1000000 }) (disch := omega) only [go_sem, ↓reduceIte, Nat.reduceEqDiff, Nat.reduceAdd, Int.reduceToNat, reduceCtorEq, Nat.reduceLeDiff, Nat.reduceSub, Nat.reduceDiv, Nat.reduceMod, Nat.reduceMul, d1336_b2, rvI, rwS, e1, e2, ea, eb]
  · rw [if_neg (by omega)]
    simp (config := { maxSteps := 1000000 }) (disch := omega) only [go_sem, ↓reduceIte, Nat.reduceEqDiff, Nat.reduceAdd, Int.reduceToNat, reduceCtorEq, Nat.reduceLeDiff, Nat.reduceSub, Nat.reduceDiv, Nat.reduceMod, Nat.reduceMul, d1336_b2, rvI, rwS, e1, e2, ea, eb]
theorem rlevels_ok {r : Rw} {s : Nat} {b : Bool} (hr : okR r) (hc : chk r = true) (h : s < plc r) : runP tab 1336 [.agg (rwS r), .int .i64 (s : Int), .bool b] [] = some (.tup [.vec 1 (ints (levs (nbr r b) s (plc r))), .int .i64 0], []) := by
  refine runP_fn t1336 rfl ?_
  have ok := chk_iff.1 hc
  have lo := ok.f.lo
  have hi := ok.f.hi
  have hpl : plc r = r.off.length - 1 := rfl
  have hn : ((r.off.length : Int) - 1) = (plc r : Int) := by unfold plc; omega
  have g := eds_run (b := b) hr
  rw [if_pos hc] at g
  have hE := eds_len ok b
  obtain ⟨k1, k2⟩ := eds_ok ok b
  have hs : 0 ≤ (s : Int) ∧ (s : Int) < plc r := ⟨by omega, by omega⟩
  have hrl := rounds_levs (nbr_plc ok b) hs k1 k2
  have hz := rpz_zero (plc r) (-1)
  have ha := rpz_all (plc r) (-1)
  simp only [rwS] at g
  generalize hEE : eds r b = E at *
  simp (config := { maxSteps := 1000000 }) (disch := omega) only [go_sem, ↓reduceIte, Nat.reduceEqDiff, Nat.reduceAdd, Int.reduceToNat, reduceCtorEq, Nat.reduceLeDiff, Nat.reduceSub, Nat.reduceDiv, Nat.reduceMod, Nat.reduceMul, d1336, rwS, g, hn]
  rw [tile_ints, ← hz]
  refine Ev_loop0 (rvO r E s (plc r)) (plc r) (by simp [rvO, rwS]) (fun v hv => ?_) ?_
  · have hl := rpz_len (n := plc r) (m := v) (x := -1) (by omega)
    have hset := rpz_set (n := plc r) (m := v) (x := -1) hv
    simp (config := { maxSteps := 1000000 }) (disch := omega) only [go_sem, ↓reduceIte, Nat.reduceEqDiff, Nat.reduceAdd, Int.reduceToNat, reduceCtorEq, Nat.reduceLeDiff, Nat.reduceSub, Nat.reduceDiv, Nat.reduceMod, Nat.reduceMul, d1336_b0, rvO, rwS, hl, hset]
  · have hl := rpz_len (n := plc r) (m := plc r) (x := -1) (by omega)
    have hl2 : (List.replicate (plc r) (-1 : Int)).length = plc r := by simp
    simp (config := { maxSteps := 1000000 }) (disch := omega) only [go_sem, ↓reduceIte, Nat.reduceEqDiff, Nat.reduceAdd, Int.reduceToNat, reduceCtorEq, Nat.reduceLeDiff, Nat.reduceSub, Nat.reduceDiv, Nat.reduceMod, Nat.reduceMul, d1336_b0, rvO, rwS, ha, hl2]
    rw [Int.toNat_natCast] at hrl
    have hb0 : bnd 0 ((List.replicate (plc r) (-1 : Int)).set s 0) := fun k => by
      rw [gi_set']
      split
      · omega
      · simp only [gi, List.getD_eq_getElem?_getD, List.getElem?_replicate]
        split <;> simp
    have ho2 : ((List.replicate (plc r) (-1 : Int)).set s 0).length = plc r := by simp
    generalize (List.replicate (plc r) (-1 : Int)).set s 0 = o at *
    refine Ev_loop0 (fun t => rvT r E (plc r) t (rounds E o t)) (plc r) (by simp [rvT, rwS, rounds]) (fun t ht => ?_) ?_
    · have hbt := rounds_bnd (l := E) hb0 t
      have hlt := rounds_len E o t
      have er : rounds E o (t + 1) = E.foldl rlx (rounds E o t) := rfl
      have hm : t * E.length ≤ 400000 := by
        have := Nat.mul_le_mul (show t ≤ 200 by omega) hE
        omega
      rw [er]
      generalize rounds E o t = q at *
      simp (config := { maxSteps := 1000000 }) (disch := omega) only [go_sem, ↓reduceIte, Nat.reduceEqDiff, Nat.reduceAdd, Int.reduceToNat, reduceCtorEq, Nat.reduceLeDiff, Nat.reduceSub, Nat.reduceDiv, Nat.reduceMod, Nat.reduceMul, d1336_b1, rvT, rwS]
      refine Ev_loop0 (fun i => rvI r E (plc r) t i ((E.take i).foldl rlx q)) E.length (by simp [rvI, rwS]) (fun i hi => ?_) ?_
      · have e := foldl_snoc rlx default hi q
        have hbi := rlxs_bnd (l := E.take i) hbt (by omega)
        have hli := rlx_len (E.take i) q
        have hme : E.getD i default ∈ E := getD_mem hi
        obtain ⟨c1, c2, c3⟩ := k1 _ hme
        have c4 := nbr_plc ok b _ c2 c3 _ c1
        rw [e]
        refine rv_edge hi (by omega) (by rw [hli, hlt, ho2]) (fun k => ?_) ⟨c2, c3⟩ c4
        have := hbi k
        rw [List.length_take] at this
        omega
      · rw [List.take_length]
        simp (config := { maxSteps := 1000000 }) (disch := omega) only [go_sem, ↓reduceIte, Nat.reduceEqDiff, Nat.reduceAdd, Int.reduceToNat, reduceCtorEq, Nat.reduceLeDiff, Nat.reduceSub, Nat.reduceDiv, Nat.reduceMod, Nat.reduceMul, d1336_b2, rvI, rwS]
    · rw [hrl]
      simp (config := { maxSteps := 1000000 }) (disch := omega) only [go_sem, ↓reduceIte, Nat.reduceEqDiff, Nat.reduceAdd, Int.reduceToNat, reduceCtorEq, Nat.reduceLeDiff, Nat.reduceSub, Nat.reduceDiv, Nat.reduceMod, Nat.reduceMul, d1336_b1, rvT, rwS]
end Go.Proofs.Ytgjahkebhlphgaa
