/- A side's step. -/
import Derived.Test.YtgjahkebhlphgaaVm
import Derived.Test.YtgjahkebhlphgaaIb
import Derived.Test.YtgjahkebhlphgaaKh
namespace Go.Proofs.Ytgjahkebhlphgaa
set_option linter.unusedSimpArgs false
set_option linter.unusedVariables false
set_option maxHeartbeats 4000000
set_option maxRecDepth 100000
def st1 (d : Int) (t : List Int × List Int) (w : Int) : List Int × List Int := if gi t.1 w.toNat < 0 then (t.1.set w.toNat d, t.2 ++ [w]) else t
def stV (nb : Int → List Int) (d : Int) (t : List Int × List Int) (v : Int) : List Int × List Int := (nb v).foldl (st1 d) t
structure Tog (L0 : List Int) (d : Int) (n : Nat) (t : List Int × List Int) (u : List Bool × List Int) : Prop where
  len1 : t.1.length = n
  len2 : u.1.length = n
  seen : ∀ i, i < n → (u.1.getD i false = true ↔ 0 ≤ gi t.1 i)
  next : t.2 = u.2
  lv : ∀ i, i < n → gi t.1 i = if 0 ≤ gi L0 i then gi L0 i else if (i : Int) ∈ t.2 then d else gi L0 i
  pl : ∀ x ∈ t.2, 0 ≤ x ∧ x < n
theorem Tog.one {L0 : List Int} {d : Int} {n : Nat} {t : List Int × List Int} {u : List Bool × List Int} (h : Tog L0 d n t u) (hd : 0 ≤ d) {w : Int} (hw : 0 ≤ w ∧ w < n) : Tog L0 d n (st1 d t w) (bey1 u w) := by
  obtain ⟨k, rfl⟩ : ∃ k : Nat, w = k := ⟨w.toNat, by omega⟩
  have hk : k < n := by omega
  have hs := h.seen k hk
  by_cases q : gi t.1 k < 0
  · have e1 : st1 d t (k : Int) = (t.1.set k d, t.2 ++ [(k : Int)]) := by rw [st1, Int.toNat_natCast, if_pos q]
    have e2 : bey1 u (k : Int) = (u.1.set k true, u.2 ++ [(k : Int)]) := by
      rw [bey1, if_neg (by show ¬ (u.1.getD ((k : Int)).toNat false = true); rw [Int.toNat_natCast, hs]; omega)]; rfl
    rw [e1, e2]
    refine ⟨by simp [h.len1], by simp [h.len2], fun i hi => ?_, by simp [h.next], fun i hi => ?_, fun x hx => ?_⟩
    · show (u.1.set k true).getD i false = true ↔ 0 ≤ gi (t.1.set k d) i
      rw [gi_set (by rw [h.len1]; exact hk)]
      by_cases e : i = k
      · subst e
        rw [if_pos rfl]
        simp [List.getD_eq_getElem?_getD, List.getElem?_set, h.len2, hk, hd]
      · rw [if_neg e, ← h.seen i hi]
        simp [List.getD_eq_getElem?_getD, List.getElem?_set, Ne.symm e]
    · show gi (t.1.set k d) i = _
      rw [gi_set (by rw [h.len1]; exact hk)]
      have hi2 := h.lv i hi
      by_cases e : i = k
      · subst e
        rw [if_pos rfl, if_neg, if_pos (by simp)]
        intro h3
        rw [hi2, if_pos h3] at q
        omega
      · rw [if_neg e, hi2]
        have : (i : Int) ∈ t.2 ++ [(k : Int)] ↔ (i : Int) ∈ t.2 := by
          rw [List.mem_append, List.mem_singleton]
          exact ⟨fun h => h.resolve_right (by omega), .inl⟩
        simp only [this]
    · rcases List.mem_append.1 hx with hx | hx
      · exact h.pl x hx
      · rw [List.mem_singleton] at hx; subst hx; exact hw
  · have e1 : st1 d t (k : Int) = t := by rw [st1, Int.toNat_natCast, if_neg q]
    have e2 : bey1 u (k : Int) = u := by rw [bey1, if_pos]; show u.1.getD ((k : Int)).toNat false = true; rw [Int.toNat_natCast, hs]; omega
    rw [e1, e2]
    exact h
theorem Tog.row {L0 : List Int} {d : Int} {n : Nat} (hd : 0 ≤ d) : ∀ {R : List Int} {t : List Int × List Int} {u : List Bool × List Int}, Tog L0 d n t u → (∀ w ∈ R, 0 ≤ w ∧ w < n) → Tog L0 d n (R.foldl (st1 d) t) (R.foldl bey1 u)
  | [], _, _, h, _ => h
  | w :: R, _, _, h, hR => Tog.row (R := R) hd (h.one hd (hR w (by simp))) fun x hx => hR x (by simp [hx])
theorem Tog.rows {L0 : List Int} {d : Int} {n : Nat} {nb : Int → List Int} (hd : 0 ≤ d) : ∀ {l : List Int} {t : List Int × List Int} {u : List Bool × List Int}, Tog L0 d n t u → (∀ v ∈ l, ∀ w ∈ nb v, 0 ≤ w ∧ w < n) → Tog L0 d n (l.foldl (stV nb d) t) (l.foldl (beyV nb) u)
  | [], _, _, h, _ => h
  | v :: l, _, _, h, hl => Tog.rows (l := l) hd (h.row hd (hl v (by simp))) fun x hx => hl x (by simp [hx])
noncomputable def sdL (r : Rw) (b : Bool) (s d : Nat) : List Int := upl (nbr r b) s (plc r) ((d + 1 : Nat) : Int)
def sdF (r : Rw) (b : Bool) (s d : Nat) : List Int := (frt (nbr r b) (plc r) s d).2
theorem sd_tog {r : Rw} (ok : r.ok) (b : Bool) {s : Nat} (hs : s < plc r) (d : Nat) : Tog (sdL r b s d) ((d + 1 : Nat) : Int) (plc r) (sdL r b s d, []) ((frt (nbr r b) (plc r) s d).1, []) := by
  have F := frt_spec (nbr_plc ok b) (s := (s : Int)) ⟨by omega, by omega⟩ d
  refine ⟨upl_len .., F.len, fun i hi => ?_, rfl, fun i hi => ?_, by simp⟩
  · have hx := F.seen (i : Int) (by omega)
    have : sne (frt (nbr r b) (plc r) s d).1 (i : Int) = (frt (nbr r b) (plc r) s d).1.getD i false := by rw [sne, Int.toNat_natCast]
    rw [this] at hx
    show (frt (nbr r b) (plc r) s d).1.getD i false = true ↔ 0 ≤ gi (sdL r b s d) i
    rw [hx, sdL, upl_at hi]
    constructor
    · rintro ⟨j, hj, hw⟩
      obtain ⟨k, hk, hd⟩ := Wk_dsk hw
      rw [lev_yes hd, if_pos (by omega)]
      omega
    · intro h
      rcases lev_cases (nbr r b) s i with ⟨k, hk, e⟩ | ⟨_, e⟩
      · rw [e] at h
        by_cases q : (k : Int) < ((d + 1 : Nat) : Int)
        · exact ⟨k, by omega, hk.1⟩
        · rw [if_neg q] at h; omega
      · rw [e] at h
        split at h <;> omega
  · split
    · rfl
    · simp
theorem sd_step {r : Rw} (ok : r.ok) (b : Bool) {s : Nat} (hs : s < plc r) (d : Nat) : (sdF r b s d).foldl (stV (nbr r b) ((d + 1 : Nat) : Int)) (sdL r b s d, []) = (sdL r b s (d + 1), sdF r b s (d + 1)) := by
  have H := nbr_plc ok b
  have F := frt_spec H (s := (s : Int)) ⟨by omega, by omega⟩ d
  have F1 := frt_spec H (s := (s : Int)) ⟨by omega, by omega⟩ (d + 1)
  have T := (sd_tog ok b hs d).rows (nb := nbr r b) (by omega) (l := sdF r b s d) (fun v hv w hw => by
    have := Wk_pl H (s := (s : Int)) ⟨by omega, by omega⟩ ((F.front v).1 hv).1
    exact H v this.1 this.2 w hw)
  have e : (sdF r b s d).foldl (beyV (nbr r b)) ((frt (nbr r b) (plc r) s d).1, []) = frt (nbr r b) (plc r) s (d + 1) := rfl
  rw [e] at T
  generalize (sdF r b s d).foldl (stV (nbr r b) ((d + 1 : Nat) : Int)) (sdL r b s d, []) = t at *
  obtain ⟨t1, t2⟩ := t
  have hn : t2 = sdF r b s (d + 1) := T.next
  subst hn
  refine Prod.ext ?_ rfl
  refine gi_ext (by rw [T.len1, sdL, upl_len]) fun i hi => ?_
  have hi : i < plc r := by rw [T.len1] at hi; exact hi
  have h1 := T.lv i hi
  have hm := F1.front (i : Int)
  simp only at h1
  show gi t1 i = gi (sdL r b s (d + 1)) i
  rw [h1, sdL, sdL, upl_at hi, upl_at hi]
  have hd := lev_dst (nb := nbr r b) (s := (s : Int)) (v := (i : Int)) (k := d + 1)
  have hg := lev_ge (nbr r b) s i
  have hm2 : (i : Int) ∈ sdF r b s (d + 1) ↔ lev (nbr r b) s i = ((d + 1 : Nat) : Int) := hm.trans hd.symm
  by_cases q : lev (nbr r b) s i < ((d + 1 : Nat) : Int)
  · rw [if_pos q, if_pos (show lev (nbr r b) s i < ((d + 1 + 1 : Nat) : Int) by omega)]
    by_cases q2 : 0 ≤ lev (nbr r b) s i
    · rw [if_pos q2]
    · rw [if_neg q2, if_neg]
      rw [hm2]; omega
  · rw [if_neg q, if_neg (by omega)]
    by_cases q2 : lev (nbr r b) s i = ((d + 1 : Nat) : Int)
    · rw [if_pos (hm2.2 q2), if_pos (by omega), q2]
    · rw [if_neg (fun h => q2 (hm2.1 h)), if_neg (by omega)]
theorem sdL_zero {r : Rw} (ok : r.ok) (b : Bool) {s : Nat} (hs : s < plc r) : sdL r b s 0 = (List.replicate (plc r) (-1)).set s 0 := by
  refine gi_ext (by rw [sdL, upl_len]; simp) fun i hi => ?_
  have hi : i < plc r := by rw [sdL, upl_len] at hi; exact hi
  rw [sdL, upl_at hi, gi_set (by simp; exact hs)]
  have hr : gi (List.replicate (plc r) (-1)) i = -1 := by simp [gi, List.getD_eq_getElem?_getD, hi]
  rw [hr]
  have hd := lev_dst (nb := nbr r b) (s := (s : Int)) (v := (i : Int)) (k := 0)
  rw [dsk_zero] at hd
  have hg := lev_ge (nbr r b) s i
  by_cases q : i = s
  · rw [if_pos q, hd.2 (by omega)]; rfl
  · rw [if_neg q]
    have : lev (nbr r b) s i ≠ ((0 : Nat) : Int) := fun h => q (by have := hd.1 h; omega)
    split <;> omega
theorem sdL_len (r : Rw) (b : Bool) (s d : Nat) : (sdL r b s d).length = plc r := upl_len ..
theorem sdF_pl {r : Rw} (ok : r.ok) (b : Bool) {s : Nat} (hs : s < plc r) (d : Nat) : ∀ v ∈ sdF r b s d, 0 ≤ v ∧ v < plc r := fun v hv =>
  Wk_pl (nbr_plc ok b) (s := (s : Int)) ⟨by omega, by omega⟩ (((frt_spec (nbr_plc ok b) (s := (s : Int)) ⟨by omega, by omega⟩ d).front v).1 hv).1
theorem sdF_len {r : Rw} (ok : r.ok) (b : Bool) {s : Nat} (hs : s < plc r) (d : Nat) : (sdF r b s d).length ≤ 200 := by
  have hi := ok.f.hi
  have F := frt_spec (nbr_plc ok b) (s := (s : Int)) ⟨by omega, by omega⟩ d
  have := F.nd.length_le_of_subset (l₂ := (List.range (plc r)).map fun i : Nat => (i : Int)) (fun x hx => by
    have := sdF_pl ok b hs d x hx
    exact List.mem_map.2 ⟨x.toNat, by simp; omega, by omega⟩)
  simp at this
  unfold sdF
  unfold plc at *
  omega
noncomputable def sdC (r : Rw) (b : Bool) (s d : Nat) : List AV := [ldC r b, .vec 1 (ints (sdL r b s d)), .vec 1 (ints (sdF r b s d))]
theorem new_run {r : Rw} {b : Bool} (hr : okR r) (ok : r.ok) {s : Nat} (hs : s < plc r) : runP tab 1374 [.agg (rwS r), .int .i64 (s : Int), ldC r b] [] = some (.box (sdC r b s 0), []) := by
  refine runP_fn t1374 rfl ?_
  have lo := ok.f.lo
  have hi := ok.f.hi
  have hn : ((r.off.length : Int) - 1) = (plc r : Int) := by unfold plc; omega
  have g2 := many_run hr
  rw [hn] at g2
  have g3 := repeat_run (x := -1) (n := plc r) (by unfold plc; omega)
  have hz := sdL_zero ok b hs
  have hf : sdF r b s 0 = [(s : Int)] := rfl
  have hl : (List.replicate (plc r) (-1 : Int)).length = plc r := by simp
  have h1 : ints [(s : Int)] = [.int .i64 (s : Int)] := rfl
  unfold sdC
  rw [hz, hf, h1]
  simp only [rwS] at g2
  simp (config := { maxSteps := 1000000 }) (disch := omega) only [go_sem, ↓reduceIte, Nat.reduceEqDiff, Nat.reduceAdd, Int.reduceToNat, reduceCtorEq, Nat.reduceLeDiff, Nat.reduceSub, Nat.reduceDiv, Nat.reduceMod, Nat.reduceMul, d1374, rwS, ldC, g2, g3, hl]
theorem out8_run {r : Rw} (hr : okR r) (ok : r.ok) {s : Nat} (hs : s < plc r) : runP tab 1365 [.agg (rwS r), .int .i64 (s : Int)] [] = some (.box (sdC r false s 0), []) := by
  refine runP_fn t1365 rfl ?_
  have g := new_run (b := false) hr ok hs
  unfold sdC at *
  simp only [rwS, ldC, ldK, Bool.false_eq_true, if_false] at g
  simp (config := { maxSteps := 1000000 }) (disch := omega) only [go_sem, ↓reduceIte, Nat.reduceEqDiff, Nat.reduceAdd, Int.reduceToNat, reduceCtorEq, Nat.reduceLeDiff, Nat.reduceSub, Nat.reduceDiv, Nat.reduceMod, Nat.reduceMul, d1365, rwS, ldC, ldK, g]
theorem into_run {r : Rw} (hr : okR r) (ok : r.ok) {s : Nat} (hs : s < plc r) : runP tab 1363 [.agg (rwS r), .int .i64 (s : Int)] [] = some (.box (sdC r true s 0), []) := by
  refine runP_fn t1363 rfl ?_
  have g := new_run (b := true) hr ok hs
  unfold sdC at *
  simp only [rwS, ldC, ldK, if_true] at g
  simp (config := { maxSteps := 1000000 }) (disch := omega) only [go_sem, ↓reduceIte, Nat.reduceEqDiff, Nat.reduceAdd, Int.reduceToNat, reduceCtorEq, Nat.reduceLeDiff, Nat.reduceSub, Nat.reduceDiv, Nat.reduceMod, Nat.reduceMul, d1363, rwS, ldC, ldK, g]
end Go.Proofs.Ytgjahkebhlphgaa

namespace Go.Proofs.Ytgjahkebhlphgaa
set_option linter.unusedSimpArgs false
set_option linter.unusedVariables false
set_option maxHeartbeats 4000000
set_option maxRecDepth 100000
def spS (r : Rw) (b : Bool) (F : List Int) (t : List Int × List Int) (i : Nat) : St := ⟨[(0, .ref 0 0), (3, .own 1 2), (11, .own 1 1), (12, .int .i64 (F.length : Int)), (13, .int .i64 (i : Int))], [.row false [ldC r b, .vec 1 (ints t.1), .own 1 1], .row false (ints F), .row false (ints t.2)], 1, [(0, 3, [0, 3, 11, 12, 13], [(0, 0), (3, 2), (11, 1)])]⟩
def spT (r : Rw) (b : Bool) (F R : List Int) (v : Nat) (t : List Int × List Int) (i j : Nat) : St := ⟨[(0, .ref 0 0), (3, .own 1 2), (5, .int .i64 (v : Int)), (11, .own 1 1), (12, .int .i64 (F.length : Int)), (13, .int .i64 (i : Int)), (22, .sl 1 (ints R)), (23, .int .i64 (R.length : Int)), (24, .int .i64 (j : Int))], [.row false [ldC r b, .vec 1 (ints t.1), .own 1 1], .row false (ints F), .row false (ints t.2)], 1, [(1, 3, [0, 3, 5, 11, 12, 13, 22, 23, 24], [(0, 0), (3, 2), (11, 1)]), (0, 3, [0, 3, 11, 12, 13], [(0, 0), (3, 2), (11, 1)])]⟩
theorem sp_num {r : Rw} {b : Bool} {F R : List Int} {v i j w d : Nat} {t : List Int × List Int} (hj : j < R.length) (hR : R.length ≤ 2000) (hw2 : R.getD j 0 = w) (hw : w < t.1.length) (hv : v < t.1.length) (hd : t.1.getD v 0 = d) (hd2 : d ≤ 1000) (ht : t.2.length ≤ 1000000) : Ev tab d1364_b1 (spT r b F R v t i j) (fun x st => x = .normal ∧ st = spT r b F R v (st1 ((d + 1 : Nat) : Int) t (w : Int)) i (j + 1)) := by
  obtain ⟨t1, t2⟩ := t
  simp only at hw hv hd ht
  have ea : gi t1 w = t1.getD w 0 := rfl
  by_cases q : gi t1 w < 0
  · rw [show st1 ((d + 1 : Nat) : Int) (t1, t2) (w : Int) = (t1.set w ((d + 1 : Nat) : Int), t2 ++ [(w : Int)]) by rw [st1, Int.toNat_natCast, if_pos q]]
    rw [ea] at q
    have e : ((d + 1 : Nat) : Int) = (d : Int) + 1 := by omega
    rw [e]
    simp (config := { maxSteps := 1000000 }) (disch := omega) only [go_sem, ↓reduceIte, Nat.reduceEqDiff, Nat.reduceAdd, Int.reduceToNat, reduceCtorEq, Nat.reduceLeDiff, Nat.reduceSub, Nat.reduceDiv, Nat.reduceMod, Nat.reduceMul, d1364_b1, spT, ldC, rwS, hw2, hd]
  · rw [show st1 ((d + 1 : Nat) : Int) (t1, t2) (w : Int) = (t1, t2) by rw [st1, Int.toNat_natCast, if_neg q]]
    rw [ea] at q
    simp (config := { maxSteps := 1000000 }) (disch := omega) only [go_sem, ↓reduceIte, Nat.reduceEqDiff, Nat.reduceAdd, Int.reduceToNat, reduceCtorEq, Nat.reduceLeDiff, Nat.reduceSub, Nat.reduceDiv, Nat.reduceMod, Nat.reduceMul, d1364_b1, spT, ldC, rwS, hw2, hd]
theorem stR_len2 {d : Int} : ∀ (R : List Int) (t : List Int × List Int), (R.foldl (st1 d) t).2.length ≤ t.2.length + R.length
  | [], t => Nat.le_refl _
  | w :: R, t => by
    rw [List.foldl_cons]
    have h1 := stR_len2 (d := d) R (st1 d t w)
    have h2 : (st1 d t w).2.length ≤ t.2.length + 1 := by unfold st1; split <;> simp
    rw [List.length_cons]; omega
theorem stV_len2 {nb : Int → List Int} {M : Nat} {d : Int} : ∀ (l : List Int) (t : List Int × List Int), (∀ v ∈ l, (nb v).length ≤ M) → (l.foldl (stV nb d) t).2.length ≤ t.2.length + l.length * M
  | [], t, _ => by simp
  | v :: l, t, h => by
    rw [List.foldl_cons]
    have h1 := stV_len2 (d := d) l (stV nb d t v) (fun x hx => h x (by simp [hx]))
    have h2 := stR_len2 (d := d) (nb v) t
    have h3 := h v (by simp)
    rw [List.length_cons, Nat.succ_mul]
    unfold stV at h1 ⊢
    omega
theorem step_run {r : Rw} {b : Bool} (ok : r.ok) {s d : Nat} (hs : s < plc r) (hd : d ≤ 900) : runP tab 1364 [.ref 0 0] [.row false (sdC r b s d)] = some (.bool (decide (sdF r b s (d + 1) ≠ [])), [.row false (sdC r b s (d + 1))]) := by
  refine runP_fn t1364 rfl ?_
  have hl := sdL_len r b s d
  have hf := sdF_len ok b hs d
  have he := sd_step ok b hs d
  have hp := sdF_pl ok b hs d
  have hpl : plc r ≤ 200 := by have := ok.f.hi; unfold plc; omega
  have H := nbr_plc ok b
  have T0 := sd_tog ok b hs d
  have hlv : ∀ v ∈ sdF r b s d, gi (sdL r b s d) v.toNat = d := fun v hv => by
    have := hp v hv
    have hk := ((frt_spec H (s := (s : Int)) ⟨by omega, by omega⟩ d).front v).1 hv
    rw [sdL, upl_at (by omega), show ((v.toNat : Nat) : Int) = v by omega, lev_yes hk, if_pos (by omega)]
  unfold sdC
  generalize sdL r b s d = L at *
  generalize sdF r b s d = F at *
  have hTog : ∀ l : List Int, (∀ v ∈ l, v ∈ F) → Tog L ((d + 1 : Nat) : Int) (plc r) (l.foldl (stV (nbr r b) ((d + 1 : Nat) : Int)) (L, [])) (l.foldl (beyV (nbr r b)) ((frt (nbr r b) (plc r) s d).1, [])) := fun l hl => T0.rows (by omega) (fun v hv w hw => H v (hp v (hl v hv)).1 (hp v (hl v hv)).2 w hw)
  simp (config := { maxSteps := 1000000 }) (disch := omega) only [go_sem, ↓reduceIte, Nat.reduceEqDiff, Nat.reduceAdd, Int.reduceToNat, reduceCtorEq, Nat.reduceLeDiff, Nat.reduceSub, Nat.reduceDiv, Nat.reduceMod, Nat.reduceMul, d1364, rwS, ldC]
  refine Ev_loop0 (fun i => spS r b F ((F.take i).foldl (stV (nbr r b) ((d + 1 : Nat) : Int)) (L, [])) i) F.length (by simp [spS, ldC, rwS, ints]) (fun i hi => ?_) ?_
  · have e := foldl_snoc (stV (nbr r b) ((d + 1 : Nat) : Int)) 0 hi (L, [])
    have T := hTog (F.take i) (fun v hv => List.mem_of_mem_take hv)
    have hm : F.getD i 0 ∈ F := getD_mem hi
    have hv := hp _ hm
    have hlv1 := hlv _ hm
    have hl2 := stV_len2 (nb := nbr r b) (M := 2000) (d := ((d + 1 : Nat) : Int)) (F.take i) (L, []) (fun v hx => by
      have := hp v (List.mem_of_mem_take hx)
      exact nbr_len ok b this.1 this.2)
    rw [List.length_take] at hl2
    simp only [List.length_nil] at hl2
    have h3 : min i F.length * 2000 ≤ 400000 := by omega
    rw [e]
    generalize (F.take i).foldl (stV (nbr r b) ((d + 1 : Nat) : Int)) (L, []) = t at *
    generalize (F.take i).foldl (beyV (nbr r b)) ((frt (nbr r b) (plc r) s d).1, []) = u at *
    obtain ⟨v, hv2⟩ : ∃ v : Nat, F.getD i 0 = v := ⟨(F.getD i 0).toNat, by omega⟩
    rw [hv2] at hv hlv1 ⊢
    rw [Int.toNat_natCast] at hlv1
    have hvn : v < plc r := by omega
    have g := ld_run ok b hv.1 hv.2
    have hR := nbr_len ok b hv.1 hv.2
    have hpR := H _ hv.1 hv.2
    have ev : stV (nbr r b) ((d + 1 : Nat) : Int) t (v : Int) = (nbr r b (v : Int)).foldl (st1 ((d + 1 : Nat) : Int)) t := rfl
    rw [ev]
    simp only [rwS] at g
    generalize nbr r b (v : Int) = R at *
    simp (config := { maxSteps := 1000000 }) (disch := omega) only [go_sem, ↓reduceIte, Nat.reduceEqDiff, Nat.reduceAdd, Int.reduceToNat, reduceCtorEq, Nat.reduceLeDiff, Nat.reduceSub, Nat.reduceDiv, Nat.reduceMod, Nat.reduceMul, d1364_b0, spS, ldC, rwS, hv2, g]
    refine Ev_loop0 (fun j => spT r b F R v ((R.take j).foldl (st1 ((d + 1 : Nat) : Int)) t) i j) R.length (by simp [spT, ldC, rwS]) (fun j hj => ?_) ?_
    · have e := foldl_snoc (st1 ((d + 1 : Nat) : Int)) 0 hj t
      have Tj := T.row (by omega) (R := R.take j) (fun w hw => hpR w (List.mem_of_mem_take hw))
      have h2 := stR_len2 (d := ((d + 1 : Nat) : Int)) (R.take j) t
      rw [List.length_take] at h2
      have hwm := hpR _ (getD_mem (d := 0) hj)
      obtain ⟨w, hw2⟩ : ∃ w : Nat, R.getD j 0 = w := ⟨(R.getD j 0).toNat, by omega⟩
      rw [hw2] at hwm
      have hlj := Tj.lv v hvn
      rw [hlv1, if_pos (by omega)] at hlj
      rw [e, hw2]
      exact sp_num hj hR hw2 (by rw [Tj.len1]; omega) (by rw [Tj.len1]; exact hvn) hlj (by omega) (by omega)
    · rw [List.take_length]
      simp (config := { maxSteps := 1000000 }) (disch := omega) only [go_sem, ↓reduceIte, Nat.reduceEqDiff, Nat.reduceAdd, Int.reduceToNat, reduceCtorEq, Nat.reduceLeDiff, Nat.reduceSub, Nat.reduceDiv, Nat.reduceMod, Nat.reduceMul, d1364_b1, spT, ldC, rwS]
  · rw [List.take_length, he]
    generalize sdL r b s (d + 1) = L2 at *
    have hf2 := sdF_len ok b hs (d + 1)
    generalize sdF r b s (d + 1) = F2 at *
    by_cases hF : F2 = []
    · subst hF
      simp (config := { maxSteps := 1000000 }) (disch := omega) only [go_sem, ↓reduceIte, Nat.reduceEqDiff, Nat.reduceAdd, Int.reduceToNat, reduceCtorEq, Nat.reduceLeDiff, Nat.reduceSub, Nat.reduceDiv, Nat.reduceMod, Nat.reduceMul, d1364_b0, spS, ldC, rwS]
      rfl
    · have hpos : 0 < F2.length := List.length_pos_iff.2 hF
      have hdd : decide (F2 ≠ []) = true := by simpa using hF
      simp (config := { maxSteps := 1000000 }) (disch := omega) only [go_sem, ↓reduceIte, Nat.reduceEqDiff, Nat.reduceAdd, Int.reduceToNat, reduceCtorEq, Nat.reduceLeDiff, Nat.reduceSub, Nat.reduceDiv, Nat.reduceMod, Nat.reduceMul, d1364_b0, spS, ldC, rwS, hdd]
end Go.Proofs.Ytgjahkebhlphgaa
