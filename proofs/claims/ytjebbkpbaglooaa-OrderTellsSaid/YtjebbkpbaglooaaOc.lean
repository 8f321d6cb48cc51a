/- Layer 11: By. -/
import Derived.Test.YtjebbkpbaglooaaOb
namespace Go.Proofs.Ytjebbkpbaglooaa
set_option linter.unusedSimpArgs false
set_option linter.unusedVariables false
set_option maxHeartbeats 4000000
set_option maxRecDepth 100000
def wysN (E : List Ed) (v : Nat) : Nat := (E.filter fun e => e.1 == (v : Int)).length + (E.filter fun e => e.2 == (v : Int)).length
def wpr (E : List Ed) (n : Nat) : List Ed := (List.range n).map fun v : Nat => ((wysN E v : Int), (v : Int))
theorem wpr_len (E : List Ed) (n : Nat) : (wpr E n).length = n := by simp [wpr]
theorem wpr_at {E : List Ed} {n v : Nat} (h : v < n) : (wpr E n).getD v default = ((wysN E v : Int), (v : Int)) := by
  simp [wpr, List.getD_eq_getElem?_getD, h]
theorem wysN_le (E : List Ed) (v : Nat) : wysN E v ≤ 2 * E.length := by
  have h1 := List.length_filter_le (fun e : Ed => e.1 == (v : Int)) E
  have h2 := List.length_filter_le (fun e : Ed => e.2 == (v : Int)) E
  unfold wysN; omega
theorem wysN_snoc (E : List Ed) (a b v : Nat) : wysN (E ++ [((a : Int), (b : Int))]) v = wysN E v + (if a = v then 1 else 0) + (if b = v then 1 else 0) := by
  unfold wysN
  rw [List.filter_append, List.filter_append, List.length_append, List.length_append]
  by_cases h1 : a = v <;> by_cases h2 : b = v
  · subst h1; subst h2; simp; omega
  · subst h1
    have : ¬ ((b : Int) = (a : Int)) := by omega
    simp [h2, this]; omega
  · subst h2
    have : ¬ ((a : Int) = (b : Int)) := by omega
    simp [h1, this]; omega
  · have e1 : ¬ ((a : Int) = (v : Int)) := by omega
    have e2 : ¬ ((b : Int) = (v : Int)) := by omega
    simp [h1, h2, e1, e2]
def upO (l : List Ed) (u : Nat) : List Ed := l.set u ((l.getD u default).1 + 1, (l.getD u default).2)
theorem upO_len (l : List Ed) (u : Nat) : (upO l u).length = l.length := by simp [upO]
theorem upO_at {l : List Ed} {u j : Nat} (hj : j < l.length) : (upO l u).getD j default = if u = j then ((l.getD u default).1 + 1, (l.getD u default).2) else l.getD j default := by
  unfold upO
  rw [List.getD_eq_getElem?_getD, List.getElem?_set]
  by_cases h : u = j
  · subst h; simp [hj]
  · simp [h, List.getD_eq_getElem?_getD]
theorem eds_ext {a b : List Ed} (hl : a.length = b.length) (h : ∀ i, i < a.length → a.getD i default = b.getD i default) : a = b := by
  refine List.ext_getElem hl fun i h1 h2 => ?_
  have := h i h1
  rwa [List.getD_eq_getElem?_getD, List.getD_eq_getElem?_getD, List.getElem?_eq_getElem h1, List.getElem?_eq_getElem h2] at this
theorem wpr_succ {E : List Ed} {n k a b : Nat} (hk : k < E.length) (he : E.getD k default = ((a : Int), (b : Int))) (ha : a < n) (hb : b < n) : upO (upO (wpr (E.take k) n) a) b = wpr (E.take (k + 1)) n := by
  refine eds_ext (by simp [upO_len, wpr_len]) fun j hj => ?_
  rw [upO_len, upO_len, wpr_len] at hj
  rw [take_snoc default hk, he, wpr_at hj, wysN_snoc, upO_at (l := upO (wpr (E.take k) n) a) (j := j) (by rw [upO_len, wpr_len]; exact hj), upO_at (l := wpr (E.take k) n) (j := j) (by rw [wpr_len]; exact hj), upO_at (l := wpr (E.take k) n) (j := b) (by rw [wpr_len]; exact hb), wpr_at hj, wpr_at ha, wpr_at hb]
  by_cases h1 : a = j <;> by_cases h2 : b = j
  · subst h1; subst h2; simp
  · subst h1
    have h3 : ¬ a = b := fun h => h2 h.symm
    simp [h2]
  · subst h2; simp [h1]
  · simp [h1, h2]
def plz (n i : Nat) : List Ed := (List.range n).map fun v : Nat => ((0 : Int), if v < i then (v : Int) else 0)
theorem plz_len (n i : Nat) : (plz n i).length = n := by simp [plz]
theorem plz_zero (n : Nat) : plz n 0 = List.replicate n (0, 0) := by simp [plz, List.map_const']
theorem plz_all (n : Nat) : plz n n = wpr [] n := by
  unfold plz wpr
  refine List.map_congr_left fun v hv => ?_
  rw [List.mem_range] at hv
  simp [hv, wysN]
theorem plz_at {n i v : Nat} (h : v < n) : (plz n i).getD v default = ((0 : Int), if v < i then (v : Int) else 0) := by
  simp [plz, List.getD_eq_getElem?_getD, h]
theorem plz_succ {n i : Nat} (hi : i < n) : (plz n i).set i (((plz n i).getD i default).1, (i : Int)) = plz n (i + 1) := by
  refine eds_ext (by simp [plz_len]) fun j hj => ?_
  rw [List.length_set, plz_len] at hj
  rw [plz_at hj, plz_at hi, List.getD_eq_getElem?_getD, List.getElem?_set]
  by_cases h : i = j
  · subst h; simp [plz_len, hi]
  · rw [if_neg h, ← List.getD_eq_getElem?_getD, plz_at hj]
    by_cases h2 : j < i
    · simp [h2]; omega
    · have : ¬ j < i + 1 := by omega
      simp [h2, this]
theorem tile_prs (a b : Int) : ∀ n, tile n [AV.int .i64 a, AV.int .i64 b] = prs (List.replicate n (a, b))
  | 0 => rfl
  | n + 1 => by rw [tile, tile_prs a b n, List.replicate_succ, prs_cons]; rfl
theorem edU_pl {r : Rw} (h : r.ok) : ∀ {v : Nat}, v < r.off.length → ∀ e ∈ edU r v, (0 ≤ e.1 ∧ e.1 < v) ∧ (0 ≤ e.2 ∧ e.2 < r.off.length - 1)
  | 0, _, e, he => by simp [edU] at he
  | v + 1, hv, e, he => by
    rw [edU_succ, List.mem_append] at he
    rcases he with he | he
    · have := edU_pl h (by omega) e he
      omega
    · simp only [edV, List.mem_map] at he
      obtain ⟨w, hw, rfl⟩ := he
      have := h.f.row_pl hv hw
      simp only
      omega
def byA (r : Rw) : List Int := snds (sorted ltP (wpr (edU r (r.off.length - 1)) (r.off.length - 1)))
noncomputable def toldB (r : Rw) : AV := if chk r = true then .tup [.vec 1 (ints (byA r)), .int .i64 0] else .tup [.vec 1 [], .int .i64 40]
theorem many_run {r : Rw} (hr : okR r) : runP tab 1192 [.agg (rwS r)] [] = some (.int .i64 ((r.off.length : Int) - 1), []) := by
  refine runP_fn t1192 rfl ?_
  have h1 := hr.a
  simp (config := { maxSteps := 1000000 }) (disch := omega) only [go_sem, ↓reduceIte, Nat.reduceEqDiff, Nat.reduceAdd, Int.reduceToNat, reduceCtorEq, Nat.reduceLeDiff, Nat.reduceSub, Nat.reduceDiv, Nat.reduceMod, Nat.reduceMul, d1192, rwS]
theorem by_run {r : Rw} (hr : okR r) : runP tab 1177 [.agg (rwS r)] [] = some (toldB r, []) := by
  refine runP_fn t1177 rfl ?_
  have ge := edges_run hr
  have gm := many_run hr
  unfold toldB
  unfold toldE at ge
  simp only [rwS] at ge gm
  cases hc : chk r with
  | false =>
    rw [hc, if_neg (by simp)] at ge
    rw [if_neg (by simp)]
    simp (config := { maxSteps := 1000000 }) (disch := omega) only [go_sem, ↓reduceIte, Nat.reduceEqDiff, Nat.reduceAdd, Int.reduceToNat, reduceCtorEq, Nat.reduceLeDiff, Nat.reduceSub, Nat.reduceDiv, Nat.reduceMod, Nat.reduceMul, d1177, rwS, ge]
  | true =>
    rw [hc, if_pos rfl] at ge
    rw [if_pos rfl]
    have ok := chk_iff.1 hc
    have h1 := ok.f.lo
    have h2 := ok.f.hi
    have h3 := ok.f.tl
    obtain ⟨n, hn⟩ : ∃ n : Nat, r.off.length = n + 1 := ⟨r.off.length - 1, by omega⟩
    have el := edU_len ok.f (v := n) (by omega)
    have e4 := ok.f.ole (v := n) (by omega)
    have pl := edU_pl ok (v := n) (by omega)
    have e5 : ((n + 1 : Nat) : Int) - 1 = (n : Int) := by omega
    unfold byA
    rw [hn, e5] at gm
    rw [hn] at pl
    rw [hn, Nat.add_sub_cancel] at ge ⊢
    generalize edU r n = E at *
    simp (config := { maxSteps := 1000000 }) (disch := omega) only [go_sem, ↓reduceIte, Nat.reduceEqDiff, Nat.reduceAdd, Int.reduceToNat, reduceCtorEq, Nat.reduceLeDiff, Nat.reduceSub, Nat.reduceDiv, Nat.reduceMod, Nat.reduceMul, d1177, rwS, ge, gm, tile_prs]
    have hz : (List.replicate n ((0 : Int), (0 : Int))).length = n := List.length_replicate
    rw [hz, ← plz_zero]
    refine Ev_loop0 (fun i => ⟨[(4, .own 2 1), (6, .ref 3 0), (22, .int .i64 (n : Int)), (23, .int .i64 (i : Int))], [.row false (rwS r), .row false (prs E), .dead, .row false [.own 2 4], .row false (prs (plz n i))], 0, [(0, 5, [4, 6, 22, 23], [(4, 1), (6, 3)])]⟩) n rfl (fun i hi => ?_) ?_
    · have e := plz_succ hi
      have hl := plz_len n i
      rw [← e]
      generalize plz n i = L at *
      simp (config := { maxSteps := 1000000 }) (disch := omega) only [go_sem, ↓reduceIte, Nat.reduceEqDiff, Nat.reduceAdd, Int.reduceToNat, reduceCtorEq, Nat.reduceLeDiff, Nat.reduceSub, Nat.reduceDiv, Nat.reduceMod, Nat.reduceMul, d1177_b0, rwS, prs_set3, prs_at2]
    · rw [plz_all]
      simp (config := { maxSteps := 1000000 }) (disch := omega) only [go_sem, ↓reduceIte, Nat.reduceEqDiff, Nat.reduceAdd, Int.reduceToNat, reduceCtorEq, Nat.reduceLeDiff, Nat.reduceSub, Nat.reduceDiv, Nat.reduceMod, Nat.reduceMul, d1177_b0, rwS]
      refine Ev_loop0 (fun k => ⟨[(6, .ref 3 0), (32, .own 2 1), (33, .int .i64 (E.length : Int)), (34, .int .i64 (k : Int))], [.row false (rwS r), .row false (prs E), .dead, .row false [.own 2 4], .row false (prs (wpr (E.take k) n))], 0, [(1, 5, [6, 32, 33, 34], [(6, 3), (32, 1)]), (0, 5, [4, 6, 22, 23], [(4, 1), (6, 3)])]⟩) E.length (by simp [rwS]) (fun k hk => ?_) ?_
      · have hm := pl (E.getD k default) (getD_mem (d := default) hk)
        obtain ⟨a, ea⟩ := Int.eq_ofNat_of_zero_le hm.1.1
        obtain ⟨b, eb⟩ := Int.eq_ofNat_of_zero_le hm.2.1
        have he : E.getD k default = ((a : Int), (b : Int)) := Prod.ext ea eb
        rw [he] at hm
        simp only at hm
        have es := wpr_succ hk he (n := n) (by omega) (by omega)
        have hat := prs_at hk
        rw [he] at hat
        simp only at hat
        have hx := wpr_at (E := E.take k) (n := n) (v := a) (by omega)
        have hxl := wysN_le (E.take k) a
        have hyl := wysN_le (E.take k) b
        have htl : (E.take k).length ≤ 2000 := by rw [List.length_take]; omega
        have hy : ((upO (wpr (E.take k) n) a).getD b default).1 = (wysN (E.take k) b : Int) + (if a = b then 1 else 0) := by
          rw [upO_at (by rw [wpr_len]; omega), wpr_at (by omega), wpr_at (by omega)]
          by_cases h : a = b
          · subst h; simp
          · simp [h]
        have hyb : ((upO (wpr (E.take k) n) a).getD b default).1 ≤ 4001 := by rw [hy]; split <;> omega
        have hy0 : 0 ≤ ((upO (wpr (E.take k) n) a).getD b default).1 := by rw [hy]; split <;> omega
        have hxb : ((wpr (E.take k) n).getD a default).1 ≤ 4001 := by rw [hx]; simp only; omega
        have hx0 : 0 ≤ ((wpr (E.take k) n).getD a default).1 := by rw [hx]; simp only; omega
        have hl := wpr_len (E.take k) n
        have hl2 := upO_len (wpr (E.take k) n) a
        have hl3 := upO_len (upO (wpr (E.take k) n) a) b
        rw [← es]
        generalize wpr (E.take k) n = L at *
        have p1 : (prs L).set (a * 2) (.int .i64 ((L.getD a default).1 + 1)) = prs (upO L a) := prs_set1 _ _ _
        have p2 : (prs (upO L a)).set (b * 2) (.int .i64 (((upO L a).getD b default).1 + 1)) = prs (upO (upO L a) b) := prs_set1 _ _ _
        generalize upO (upO L a) b = L2 at *
        generalize upO L a = L1 at *
        simp (config := { maxSteps := 1000000 }) (disch := omega) only [go_sem, ↓reduceIte, Nat.reduceEqDiff, Nat.reduceAdd, Int.reduceToNat, reduceCtorEq, Nat.reduceLeDiff, Nat.reduceSub, Nat.reduceDiv, Nat.reduceMod, Nat.reduceMul, d1177_b1, rwS, hat, prs_at1, p1, p2]
      · rw [List.take_length]
        have g := drain_p (d := (wpr E n).toArray) (by simp [wpr_len]; omega)
        rw [List.toList_toArray] at g
        simp (config := { maxSteps := 1000000 }) (disch := omega) only [go_sem, ↓reduceIte, Nat.reduceEqDiff, Nat.reduceAdd, Int.reduceToNat, reduceCtorEq, Nat.reduceLeDiff, Nat.reduceSub, Nat.reduceDiv, Nat.reduceMod, Nat.reduceMul, d1177_b1, rwS, g]
end Go.Proofs.Ytjebbkpbaglooaa
