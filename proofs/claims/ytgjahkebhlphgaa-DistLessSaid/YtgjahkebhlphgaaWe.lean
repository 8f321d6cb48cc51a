/- How far, and by how many steps: told. -/
import Derived.Test.YtgjahkebhlphgaaWb
namespace Go.Proofs.Ytgjahkebhlphgaa
set_option linter.unusedSimpArgs false
set_option linter.unusedVariables false
set_option maxHeartbeats 4000000
set_option maxRecDepth 100000
def lst1 (a b : List Int) (m : Int) (v : Nat) : Int := if gi a v < 0 ∨ gi b v < 0 then m else if m < 0 ∨ gi a v + gi b v < m then gi a v + gi b v else m
def lst (a b : List Int) (k : Nat) : Int := (List.range k).foldl (lst1 a b) (-1)
theorem lst_succ (a b : List Int) (k : Nat) : lst a b (k + 1) = lst1 a b (lst a b k) k := by simp [lst, List.range_succ]
structure Lst (a b : List Int) (k : Nat) (m : Int) : Prop where
  ge : -1 ≤ m
  no : m < 0 → ∀ v, v < k → gi a v < 0 ∨ gi b v < 0
  is : 0 ≤ m → ∃ v, v < k ∧ 0 ≤ gi a v ∧ 0 ≤ gi b v ∧ m = gi a v + gi b v
  le : ∀ v, v < k → 0 ≤ gi a v → 0 ≤ gi b v → 0 ≤ m ∧ m ≤ gi a v + gi b v
theorem lst_spec (a b : List Int) : ∀ k, Lst a b k (lst a b k)
  | 0 => ⟨by simp [lst], fun _ v h => by omega, fun h => by simp [lst] at h, fun v h => by omega⟩
  | k + 1 => by
    have ih := lst_spec a b k
    rw [lst_succ]
    unfold lst1
    by_cases h : gi a k < 0 ∨ gi b k < 0
    · rw [if_pos h]
      refine ⟨ih.ge, fun hm v hv => ?_, fun hm => ?_, fun v hv h1 h2 => ?_⟩
      · by_cases e : v = k
        · subst e; exact h
        · exact ih.no hm v (by omega)
      · obtain ⟨v, h1, h2⟩ := ih.is hm
        exact ⟨v, by omega, h2⟩
      · by_cases e : v = k
        · subst e; omega
        · exact ih.le v (by omega) h1 h2
    · rw [if_neg h]
      have ha : 0 ≤ gi a k := by omega
      have hb : 0 ≤ gi b k := by omega
      by_cases q : lst a b k < 0 ∨ gi a k + gi b k < lst a b k
      · rw [if_pos q]
        refine ⟨by omega, fun hm => by omega, fun _ => ⟨k, by omega, ha, hb, rfl⟩, fun v hv h1 h2 => ?_⟩
        by_cases e : v = k
        · subst e; omega
        · have := ih.le v (by omega) h1 h2
          omega
      · rw [if_neg q]
        refine ⟨ih.ge, fun hm => by omega, fun hm => ?_, fun v hv h1 h2 => ?_⟩
        · obtain ⟨v, h1, h2⟩ := ih.is hm
          exact ⟨v, by omega, h2⟩
        · by_cases e : v = k
          · subst e; omega
          · exact ih.le v (by omega) h1 h2
theorem lst_hi {a b : List Int} {M : Int} (ha : ∀ i, gi a i ≤ M) (hb : ∀ i, gi b i ≤ M) (hM : 0 ≤ M) (k : Nat) : lst a b k ≤ 2 * M := by
  have S := lst_spec a b k
  by_cases h : 0 ≤ lst a b k
  · obtain ⟨v, _, _, _, e⟩ := S.is h
    have := ha v
    have := hb v
    omega
  · omega
theorem least_run {r : Rw} {L1 L2 F1 F2 : List Int} (hl : L1.length = L2.length) (hn : L1.length ≤ 1000) (h1 : ∀ i, -1 ≤ gi L1 i ∧ gi L1 i ≤ 1000) (h2 : ∀ i, -1 ≤ gi L2 i ∧ gi L2 i ≤ 1000) : runP tab 1373 [.ip [ldC r false, .sl 1 (ints L1), .sl 1 (ints F1)], .ip [ldC r true, .sl 1 (ints L2), .sl 1 (ints F2)]] [] = some (.int .i64 (lst L1 L2 L1.length), []) := by
  refine runP_fn t1373 rfl ?_
  simp (config := { maxSteps := 1000000 }) (disch := omega) only [go_sem, ↓reduceIte, Nat.reduceEqDiff, Nat.reduceAdd, Int.reduceToNat, reduceCtorEq, Nat.reduceLeDiff, Nat.reduceSub, Nat.reduceDiv, Nat.reduceMod, Nat.reduceMul, d1373, ldC, rwS]
  refine Ev_loop0 (fun i => ⟨[(0, .ip [ldC r false, .sl 1 (ints L1), .sl 1 (ints F1)]), (1, .ip [ldC r true, .sl 1 (ints L2), .sl 1 (ints F2)]), (5, .int .i64 (lst L1 L2 i)), (12, .int .i64 (L1.length : Int)), (13, .int .i64 (i : Int))], [], 0, [(0, 0, [0, 1, 5, 12, 13], [])]⟩) L1.length (by simp [lst, ldC, rwS]) (fun i hi => ?_) ?_
  · have a1 := h1 i
    have a2 := h2 i
    have e1 : L1.getD i 0 = gi L1 i := rfl
    have e2 : L2.getD i 0 = gi L2 i := rfl
    have hm := lst_hi (M := 1000) (fun i => (h1 i).2) (fun i => (h2 i).2) (by omega) i
    have hm2 := (lst_spec L1 L2 i).ge
    rw [lst_succ]
    unfold lst1
    generalize lst L1 L2 i = m at *
    generalize gi L1 i = x at *
    generalize gi L2 i = y at *
    obtain ⟨a11, a12⟩ := a1
    obtain ⟨a21, a22⟩ := a2
    clear h1 h2
    by_cases q1 : x < 0
    · rw [if_pos (.inl q1)]
      simp (config := { maxSteps := 1000000 }) (disch := omega) only [go_sem, ↓reduceIte, Nat.reduceEqDiff, Nat.reduceAdd, Int.reduceToNat, reduceCtorEq, Nat.reduceLeDiff, Nat.reduceSub, Nat.reduceDiv, Nat.reduceMod, Nat.reduceMul, d1373_b0, ldC, rwS, e1, e2]
    · by_cases q2 : y < 0
      · rw [if_pos (.inr q2)]
        simp (config := { maxSteps := 1000000 }) (disch := omega) only [go_sem, ↓reduceIte, Nat.reduceEqDiff, Nat.reduceAdd, Int.reduceToNat, reduceCtorEq, Nat.reduceLeDiff, Nat.reduceSub, Nat.reduceDiv, Nat.reduceMod, Nat.reduceMul, d1373_b0, ldC, rwS, e1, e2]
      · rw [if_neg (by omega)]
        by_cases q3 : m < 0
        · rw [if_pos (.inl q3)]
          simp (config := { maxSteps := 1000000 }) (disch := omega) only [go_sem, ↓reduceIte, Nat.reduceEqDiff, Nat.reduceAdd, Int.reduceToNat, reduceCtorEq, Nat.reduceLeDiff, Nat.reduceSub, Nat.reduceDiv, Nat.reduceMod, Nat.reduceMul, d1373_b0, ldC, rwS, e1, e2]
        · by_cases q4 : x + y < m
          · rw [if_pos (.inr q4)]
            simp (config := { maxSteps := 1000000 }) (disch := omega) only [go_sem, ↓reduceIte, Nat.reduceEqDiff, Nat.reduceAdd, Int.reduceToNat, reduceCtorEq, Nat.reduceLeDiff, Nat.reduceSub, Nat.reduceDiv, Nat.reduceMod, Nat.reduceMul, d1373_b0, ldC, rwS, e1, e2]
          · rw [if_neg (by omega)]
            simp (config := { maxSteps := 1000000 }) (disch := omega) only [go_sem, ↓reduceIte, Nat.reduceEqDiff, Nat.reduceAdd, Int.reduceToNat, reduceCtorEq, Nat.reduceLeDiff, Nat.reduceSub, Nat.reduceDiv, Nat.reduceMod, Nat.reduceMul, d1373_b0, ldC, rwS, e1, e2]
  · simp (config := { maxSteps := 1000000 }) (disch := omega) only [go_sem, ↓reduceIte, Nat.reduceEqDiff, Nat.reduceAdd, Int.reduceToNat, reduceCtorEq, Nat.reduceLeDiff, Nat.reduceSub, Nat.reduceDiv, Nat.reduceMod, Nat.reduceMul, d1373_b0, ldC, rwS]
noncomputable def dK (r : Rw) (s t k : Nat) : Int := lst (sdL r false s k) (sdL r true t k) (plc r)
theorem sdL_get {r : Rw} {b : Bool} {s d i : Nat} (h : i < plc r) : gi (sdL r b s d) i = if lev (nbr r b) s i ≤ d then lev (nbr r b) s i else -1 := by
  rw [sdL, upl_at h]
  congr 1
  refine propext ⟨?_, ?_⟩ <;> intro h <;> omega
theorem sdL_rng {r : Rw} (ok : r.ok) {b : Bool} {s d : Nat} (hs : s < plc r) (i : Nat) : -1 ≤ gi (sdL r b s d) i ∧ gi (sdL r b s d) i ≤ 200 := by
  by_cases h : i < plc r
  · rw [sdL_get h]
    have := lev_lt ok b hs i
    have := lev_ge (nbr r b) s i
    split <;> omega
  · rw [gi_out (by rw [sdL_len]; omega)]; omega
theorem dK_meets {r : Rw} (ok : r.ok) {s t k : Nat} (hs : s < plc r) (ht : t < plc r) : 0 ≤ dK r s t k ↔ ∃ d : Nat, d ≤ 2 * k ∧ dsk (nbr r false) s d t := by
  have H := nbr_plc ok false
  have H2 := nbr_plc ok true
  have M := nbr_mirror ok false
  rw [← meets_iff H H2 M (s := (s : Int)) (t := (t : Int)) ⟨by omega, by omega⟩ ⟨by omega, by omega⟩]
  have S := lst_spec (sdL r false s k) (sdL r true t k) (plc r)
  constructor
  · intro h
    obtain ⟨v, hv, h1, h2, _⟩ := S.is h
    rw [sdL_get hv] at h1 h2
    rcases lev_cases (nbr r false) s v with ⟨i, hi, ei⟩ | ⟨_, ei⟩
    · rcases lev_cases (nbr r true) t v with ⟨j, hj, ej⟩ | ⟨_, ej⟩
      · rw [ei] at h1
        rw [ej] at h2
        refine ⟨v, i, j, ?_, ?_, hi, hj⟩
        · by_cases q : (i : Int) ≤ k
          · omega
          · rw [if_neg q] at h1; omega
        · by_cases q : (j : Int) ≤ k
          · omega
          · rw [if_neg q] at h2; omega
      · rw [ej] at h2; split at h2 <;> omega
    · rw [ei] at h1; split at h1 <;> omega
  · rintro ⟨x, i, j, hi, hj, h1, h2⟩
    have hx := Wk_pl H (s := (s : Int)) ⟨by omega, by omega⟩ h1.1
    obtain ⟨v, rfl⟩ : ∃ v : Nat, x = v := ⟨x.toNat, by omega⟩
    have hv : v < plc r := by omega
    refine (S.le v hv ?_ ?_).1
    · rw [sdL_get hv, lev_yes h1, if_pos (by omega)]; omega
    · rw [sdL_get hv, lev_yes h2, if_pos (by omega)]; omega
theorem dK_is {r : Rw} (ok : r.ok) {s t d : Nat} (hs : s < plc r) (ht : t < plc r) (hd : dsk (nbr r false) s d t) : dK r s t ((d + 1) / 2) = d := by
  have H := nbr_plc ok false
  have H2 := nbr_plc ok true
  have M := nbr_mirror ok false
  have S := lst_spec (sdL r false s ((d + 1) / 2)) (sdL r true t ((d + 1) / 2)) (plc r)
  have h0 : 0 ≤ dK r s t ((d + 1) / 2) := (dK_meets ok hs ht).2 ⟨d, by omega, hd⟩
  obtain ⟨x, h1, h2⟩ := meets_of H H2 M (s := (s : Int)) (t := (t : Int)) ⟨by omega, by omega⟩ ⟨by omega, by omega⟩ hd (i := (d + 1) / 2) (by omega)
  have hx := Wk_pl H (s := (s : Int)) ⟨by omega, by omega⟩ h1.1
  obtain ⟨v, rfl⟩ : ∃ v : Nat, x = v := ⟨x.toNat, by omega⟩
  have hv : v < plc r := by omega
  have hle := S.le v hv (by rw [sdL_get hv, lev_yes h1, if_pos (by omega)]; omega) (by rw [sdL_get hv, lev_yes h2, if_pos (by omega)]; omega)
  rw [sdL_get hv, sdL_get hv, lev_yes h1, lev_yes h2, if_pos (by omega), if_pos (by omega)] at hle
  obtain ⟨u, hu, g1, g2, ge⟩ := S.is h0
  rw [sdL_get hu, sdL_get hu] at ge
  rw [sdL_get hu] at g1 g2
  unfold dK at *
  rcases lev_cases (nbr r false) s u with ⟨i, hi, ei⟩ | ⟨_, ei⟩
  · rcases lev_cases (nbr r true) t u with ⟨j, hj, ej⟩ | ⟨_, ej⟩
    · obtain ⟨e, he, de⟩ := meets_sum H H2 M (s := (s : Int)) (t := (t : Int)) ⟨by omega, by omega⟩ ⟨by omega, by omega⟩ hi hj
      have := dsk_eq de hd
      rw [ei] at ge g1
      rw [ej] at ge g2
      have q1 : (i : Int) ≤ ((d + 1) / 2 : Nat) := by
        by_cases q : (i : Int) ≤ ((d + 1) / 2 : Nat)
        · exact q
        · rw [if_neg q] at g1; omega
      have q2 : (j : Int) ≤ ((d + 1) / 2 : Nat) := by
        by_cases q : (j : Int) ≤ ((d + 1) / 2 : Nat)
        · exact q
        · rw [if_neg q] at g2; omega
      rw [if_pos q1, if_pos q2] at ge
      omega
    · rw [ej] at g2; split at g2 <;> omega
  · rw [ei] at g1; split at g1 <;> omega
theorem dK_neg {r : Rw} {s t k : Nat} (h : ¬ 0 ≤ dK r s t k) : dK r s t k = -1 := by
  have := (lst_spec (sdL r false s k) (sdL r true t k) (plc r)).ge
  unfold dK at *
  omega
theorem sdF_some {r : Rw} (ok : r.ok) {b : Bool} {s : Nat} (hs : s < plc r) {j : Nat} {x : Int} (h : dsk (nbr r b) s j x) : sdF r b s j ≠ [] := by
  intro e
  have := ((frt_spec (nbr_plc ok b) (s := (s : Int)) ⟨by omega, by omega⟩ j).front x).2 h
  unfold sdF at e
  rw [e] at this
  cases this
def kUf (p : Nat → Bool) : Nat → Nat → Nat
  | 0, k => k
  | f + 1, k => if p k then kUf p f (k + 1) else k
theorem kUf_spec {p : Nat → Bool} : ∀ {f k m : Nat}, k ≤ m → m < k + f → p m = false → (∀ j, k ≤ j → j < kUf p f k → p j = true) ∧ p (kUf p f k) = false ∧ kUf p f k ≤ m
  | 0, k, m, h1, h2, _ => by omega
  | f + 1, k, m, h1, h2, hm => by
    unfold kUf
    by_cases h : p k = true
    · rw [if_pos h]
      have hk : k ≠ m := by rintro rfl; rw [h] at hm; cases hm
      obtain ⟨a, b, c⟩ := kUf_spec (p := p) (f := f) (k := k + 1) (m := m) (by omega) (by omega) hm
      refine ⟨fun j h3 h4 => ?_, b, c⟩
      by_cases e : j = k
      · rw [e]; exact h
      · exact a j (by omega) h4
    · rw [if_neg h]
      exact ⟨fun j h3 h4 => by omega, by simpa using h, h1⟩
def goOn (r : Rw) (s t : Nat) (k : Nat) : Bool := decide (sdF r false s (k + 1) ≠ []) && decide (sdF r true t (k + 1) ≠ [])
noncomputable def mtN (r : Rw) (s t : Nat) : Nat := if 0 ≤ lev (nbr r false) s t then ((lev (nbr r false) s t).toNat + 1) / 2 else kUf (goOn r s t) (plc r + 1) 0
theorem sdF_end {r : Rw} (ok : r.ok) (b : Bool) {s : Nat} (hs : s < plc r) : sdF r b s (plc r) = [] := by
  rw [List.eq_nil_iff_forall_not_mem]
  intro x hx
  have := dsk_lt (nbr_plc ok b) (s := (s : Int)) ⟨by omega, by omega⟩ (((frt_spec (nbr_plc ok b) (s := (s : Int)) ⟨by omega, by omega⟩ (plc r)).front x).1 hx)
  omega
theorem mt_spec {r : Rw} (ok : r.ok) {s t : Nat} (hs : s < plc r) (ht : t < plc r) : (∀ j, j < mtN r s t → dK r s t j = -1 ∧ goOn r s t j = true) ∧ dK r s t (mtN r s t) = lev (nbr r false) s t ∧ (lev (nbr r false) s t < 0 → goOn r s t (mtN r s t) = false) ∧ mtN r s t ≤ plc r := by
  have H := nbr_plc ok false
  have H2 := nbr_plc ok true
  have M := nbr_mirror ok false
  rcases lev_cases (nbr r false) s t with ⟨d, hd, e⟩ | ⟨hn, e⟩
  · have em : mtN r s t = (d + 1) / 2 := by rw [mtN, e, if_pos (by omega), Int.toNat_natCast]
    have hdl := dsk_lt H (s := (s : Int)) ⟨by omega, by omega⟩ hd
    rw [em, e]
    refine ⟨fun j hj => ⟨dK_neg fun h => ?_, ?_⟩, dK_is ok hs ht hd, fun h => by omega, by omega⟩
    · obtain ⟨d2, h2, hd2⟩ := (dK_meets ok hs ht).1 h
      have := dsk_eq hd hd2
      omega
    · obtain ⟨x, h1, _⟩ := meets_of H H2 M (s := (s : Int)) (t := (t : Int)) ⟨by omega, by omega⟩ ⟨by omega, by omega⟩ hd (i := j + 1) (by omega)
      obtain ⟨y, _, h4⟩ := meets_of H H2 M (s := (s : Int)) (t := (t : Int)) ⟨by omega, by omega⟩ ⟨by omega, by omega⟩ hd (i := d - (j + 1)) (by omega)
      rw [show d - (d - (j + 1)) = j + 1 by omega] at h4
      rw [goOn, decide_eq_true (sdF_some ok hs h1), decide_eq_true (sdF_some ok ht h4)]; rfl
  · have em : mtN r s t = kUf (goOn r s t) (plc r + 1) 0 := by rw [mtN, e, if_neg (by omega)]
    have hp : goOn r s t (plc r - 1) = false := by
      rw [goOn, show plc r - 1 + 1 = plc r by omega, sdF_end ok false hs]; simp
    obtain ⟨a, b, c⟩ := kUf_spec (p := goOn r s t) (f := plc r + 1) (k := 0) (m := plc r - 1) (by omega) (by omega) hp
    have hneg : ∀ j, dK r s t j = -1 := fun j => dK_neg fun h => by
      obtain ⟨d2, _, hd2⟩ := (dK_meets ok hs ht).1 h
      exact hn d2 hd2.1
    rw [em, e]
    exact ⟨fun j hj => ⟨hneg j, a j (by omega) hj⟩, hneg _, fun _ => b, by omega⟩
end Go.Proofs.Ytgjahkebhlphgaa

namespace Go.Proofs.Ytgjahkebhlphgaa
set_option linter.unusedSimpArgs false
set_option linter.unusedVariables false
set_option maxHeartbeats 4000000
set_option maxRecDepth 100000
noncomputable def sdP (r : Rw) (b : Bool) (s d : Nat) : List AV := [ldC r b, .sl 1 (ints (sdL r b s d)), .sl 1 (ints (sdF r b s d))]
theorem dK_run {r : Rw} (ok : r.ok) {s t k : Nat} (hs : s < plc r) (ht : t < plc r) : runP tab 1373 [.ip (sdP r false s k), .ip (sdP r true t k)] [] = some (.int .i64 (dK r s t k), []) := by
  have hi := ok.f.hi
  have g := least_run (r := r) (L1 := sdL r false s k) (L2 := sdL r true t k) (F1 := sdF r false s k) (F2 := sdF r true t k) (by rw [sdL_len, sdL_len]) (by rw [sdL_len]; unfold plc; omega) (fun i => by have := sdL_rng ok (b := false) (d := k) hs i; omega) (fun i => by have := sdL_rng ok (b := true) (d := k) ht i; omega)
  rw [sdL_len] at g
  exact g
theorem Ev_imp {T : Nat → Option Entry} {b : Stmt} {st : St} {Q Q' : AX → St → Prop} (h : Ev T b st Q) (k : ∀ x st, Q x st → Q' x st) : Ev T b st Q' := by
  obtain ⟨r, h1, h2⟩ := h
  exact ⟨r, h1, k _ _ h2⟩
noncomputable def mtS (r : Rw) (s t k : Nat) : St := ⟨[(8, .int .i64 (k : Int)), (9, .ref 1 0), (10, .ref 2 0), (11, .int .i64 (dK r s t k))], [.row false (rwS r), .row false (sdC r false s k), .row false (sdC r true t k)], 0, [(0, 3, [8, 9, 10, 11], [(9, 1), (10, 2)])]⟩
noncomputable def mtI (r : Rw) (s t k i ka kb : Nat) : St := ⟨[(8, .int .i64 (k : Int)), (9, .ref 1 0), (10, .ref 2 0), (11, .int .i64 (dK r s t k)), (27, .agg [.ref 1 0, .ref 2 0]), (28, .int .i64 (i : Int))], [.row false (rwS r), .row false (sdC r false s ka), .row false (sdC r true t kb)], 0, [(1, 3, [8, 9, 10, 11, 27, 28], [(9, 1), (10, 2)]), (0, 3, [8, 9, 10, 11], [(9, 1), (10, 2)])]⟩
theorem mt_a {r : Rw} (ok : r.ok) {s t k : Nat} (hs : s < plc r) (hk : k ≤ 300) (h : sdF r false s (k + 1) ≠ []) : Ev tab d1359_b1 (mtI r s t k 0 k k) (fun x st => x = .normal ∧ st = mtI r s t k 1 (k + 1) k) := by
  have g := step_run (b := false) (s := s) (d := k) ok hs (by omega)
  rw [decide_eq_true h] at g
  unfold sdC ldC at g
  simp only [rwS] at g
  unfold mtI sdC
  generalize dK r s t k = D
  generalize sdL r false s k = L1 at *
  generalize sdF r false s k = F1 at *
  generalize sdL r false s (k + 1) = L1' at *
  generalize sdF r false s (k + 1) = F1' at *
  generalize sdL r true t k = L2 at *
  generalize sdF r true t k = F2 at *
  simp (config := { maxSteps := 1000000 }) (disch := omega) only [go_sem, ↓reduceIte, Nat.reduceEqDiff, Nat.reduceAdd, Int.reduceToNat, reduceCtorEq, Nat.reduceLeDiff, Nat.reduceSub, Nat.reduceDiv, Nat.reduceMod, Nat.reduceMul, d1359_b1, ldC, rwS, g, Int.reduceAdd]
theorem mt_b {r : Rw} (ok : r.ok) {s t k : Nat} (ht : t < plc r) (hk : k ≤ 300) (h : sdF r true t (k + 1) ≠ []) : Ev tab d1359_b1 (mtI r s t k 1 (k + 1) k) (fun x st => x = .normal ∧ st = mtI r s t k 2 (k + 1) (k + 1)) := by
  have g := step_run (b := true) (s := t) (d := k) ok ht (by omega)
  rw [decide_eq_true h] at g
  unfold sdC ldC at g
  simp only [rwS] at g
  unfold mtI sdC
  generalize dK r s t k = D
  generalize sdL r true t k = L1 at *
  generalize sdF r true t k = F1 at *
  generalize sdL r true t (k + 1) = L1' at *
  generalize sdF r true t (k + 1) = F1' at *
  generalize sdL r false s (k + 1) = L2 at *
  generalize sdF r false s (k + 1) = F2 at *
  simp (config := { maxSteps := 1000000 }) (disch := omega) only [go_sem, ↓reduceIte, Nat.reduceEqDiff, Nat.reduceAdd, Int.reduceToNat, reduceCtorEq, Nat.reduceLeDiff, Nat.reduceSub, Nat.reduceDiv, Nat.reduceMod, Nat.reduceMul, d1359_b1, ldC, rwS, g, Int.reduceAdd]
theorem mt_go {r : Rw} (ok : r.ok) {s t k : Nat} (hs : s < plc r) (ht : t < plc r) (hk : k ≤ 300) (h : goOn r s t k = true) (hd : dK r s t k = -1) : Ev tab d1359_b0 (mtS r s t k) (fun x st => x = .normal ∧ st = mtS r s t (k + 1)) := by
  simp only [goOn, Bool.and_eq_true, decide_eq_true_eq] at h
  obtain ⟨ha, hb⟩ := h
  have m1 := mt_a (t := t) ok hs hk ha
  have m2 := mt_b (s := s) ok ht hk hb
  have g := dK_run (k := k + 1) ok hs ht
  unfold sdP ldC at g
  simp only [rwS] at g
  unfold mtI sdC ldC at m1 m2
  simp only [rwS] at m1 m2
  unfold mtS sdC
  rw [hd] at m1 m2 ⊢
  generalize dK r s t (k + 1) = D at *
  generalize sdL r false s k = A0 at *
  generalize sdF r false s k = A1 at *
  generalize sdL r true t k = B0 at *
  generalize sdF r true t k = B1 at *
  generalize sdL r false s (k + 1) = A2 at *
  generalize sdF r false s (k + 1) = A3 at *
  generalize sdL r true t (k + 1) = B2 at *
  generalize sdF r true t (k + 1) = B3 at *
  simp (config := { maxSteps := 1000000 }) (disch := omega) only [go_sem, ↓reduceIte, Nat.reduceEqDiff, Nat.reduceAdd, Int.reduceToNat, reduceCtorEq, Nat.reduceLeDiff, Nat.reduceSub, Nat.reduceDiv, Nat.reduceMod, Nat.reduceMul, d1359_b0, ldC, rwS]
  refine Ev_step m1 (Ev_step m2 (Ev_stop ?_))
  simp (config := { maxSteps := 1000000 }) (disch := omega) only [go_sem, ↓reduceIte, Nat.reduceEqDiff, Nat.reduceAdd, Int.reduceToNat, reduceCtorEq, Nat.reduceLeDiff, Nat.reduceSub, Nat.reduceDiv, Nat.reduceMod, Nat.reduceMul, d1359_b1, g]
theorem meet_run {r : Rw} (hr : okR r) (ok : r.ok) {s t : Nat} (hs : s < plc r) (ht : t < plc r) : runP tab 1359 [.agg (rwS r), .int .i64 (s : Int), .int .i64 (t : Int)] [] = some (.tup [.int .i64 (mtN r s t : Int), .int .i64 (lev (nbr r false) s t)], []) := by
  refine runP_fn t1359 rfl ?_
  obtain ⟨q1, q2, q3, q4⟩ := mt_spec ok hs ht
  have hpl : plc r ≤ 200 := by have := ok.f.hi; unfold plc; omega
  have g1 := out8_run hr ok hs
  have g2 := into_run hr ok ht
  have g3 := dK_run (k := 0) ok hs ht
  have main : Ev tab (.loop d1359_b0) (mtS r s t 0) (fun x st => x = .exit 0 ∧ st.lo = 0 ∧ lk st.env 8 = .int .i64 (mtN r s t : Int) ∧ lk st.env 11 = .int .i64 (lev (nbr r false) s t) ∧ True) := by
    refine Ev_loop0 (mtS r s t) (mtN r s t) rfl (fun k hk => mt_go ok hs ht (by omega) (q1 k hk).2 (q1 k hk).1) ?_
    by_cases hD : lev (nbr r false) s t < 0
    · have hg := q3 hD
      have hD1 : lev (nbr r false) s t = -1 := by have := lev_ge (nbr r false) s t; omega
      rw [hD1] at q2 ⊢
      generalize mtN r s t = k at *
      have gb := step_run (b := true) (s := t) (d := k) ok ht (by omega)
      have ga := step_run (b := false) (s := s) (d := k) ok hs (by omega)
      simp only [goOn, Bool.and_eq_false_iff, decide_eq_false_iff_not, ne_eq, Decidable.not_not] at hg
      by_cases ha : sdF r false s (k + 1) = []
      · rw [decide_eq_false (by simpa using ha)] at ga
        unfold sdC ldC at ga
        simp only [rwS] at ga
        unfold mtS sdC
        rw [q2]
        generalize sdL r false s k = A0 at *
        generalize sdF r false s k = A1 at *
        generalize sdL r true t k = B0 at *
        generalize sdF r true t k = B1 at *
        generalize sdL r false s (k + 1) = A2 at *
        generalize sdF r false s (k + 1) = A3 at *
        simp (config := { maxSteps := 1000000 }) (disch := omega) only [go_sem, ↓reduceIte, Nat.reduceEqDiff, Nat.reduceAdd, Int.reduceToNat, reduceCtorEq, Nat.reduceLeDiff, Nat.reduceSub, Nat.reduceDiv, Nat.reduceMod, Nat.reduceMul, d1359_b0, ldC, rwS]
        refine Ev_stop ?_
        simp (config := { maxSteps := 1000000 }) (disch := omega) only [go_sem, ↓reduceIte, Nat.reduceEqDiff, Nat.reduceAdd, Int.reduceToNat, reduceCtorEq, Nat.reduceLeDiff, Nat.reduceSub, Nat.reduceDiv, Nat.reduceMod, Nat.reduceMul, d1359_b1, ga]
      · have hb : sdF r true t (k + 1) = [] := by
          rcases hg with h | h
          · exact absurd h ha
          · exact h
        have m1 := mt_a (t := t) ok hs (by omega) ha
        rw [decide_eq_false (by simpa using hb)] at gb
        unfold sdC ldC at gb
        simp only [rwS] at gb
        unfold mtI sdC ldC at m1
        simp only [rwS] at m1
        unfold mtS sdC
        rw [q2] at m1 ⊢
        generalize sdL r false s k = A0 at *
        generalize sdF r false s k = A1 at *
        generalize sdL r true t k = B0 at *
        generalize sdF r true t k = B1 at *
        generalize sdL r false s (k + 1) = A2 at *
        generalize sdF r false s (k + 1) = A3 at *
        generalize sdL r true t (k + 1) = B2 at *
        generalize sdF r true t (k + 1) = B3 at *
        simp (config := { maxSteps := 1000000 }) (disch := omega) only [go_sem, ↓reduceIte, Nat.reduceEqDiff, Nat.reduceAdd, Int.reduceToNat, reduceCtorEq, Nat.reduceLeDiff, Nat.reduceSub, Nat.reduceDiv, Nat.reduceMod, Nat.reduceMul, d1359_b0, ldC, rwS]
        refine Ev_step m1 (Ev_stop ?_)
        simp (config := { maxSteps := 1000000 }) (disch := omega) only [go_sem, ↓reduceIte, Nat.reduceEqDiff, Nat.reduceAdd, Int.reduceToNat, reduceCtorEq, Nat.reduceLeDiff, Nat.reduceSub, Nat.reduceDiv, Nat.reduceMod, Nat.reduceMul, d1359_b1, gb]
    · unfold mtS sdC
      rw [q2]
      generalize lev (nbr r false) s t = D at *
      simp (config := { maxSteps := 1000000 }) (disch := omega) only [go_sem, ↓reduceIte, Nat.reduceEqDiff, Nat.reduceAdd, Int.reduceToNat, reduceCtorEq, Nat.reduceLeDiff, Nat.reduceSub, Nat.reduceDiv, Nat.reduceMod, Nat.reduceMul, d1359_b0, ldC, rwS]
  unfold sdP ldC at g3
  unfold sdC ldC at g1 g2
  simp only [rwS] at g1 g2 g3
  unfold mtS sdC ldC at main
  simp only [rwS] at main
  generalize dK r s t 0 = D0 at *
  generalize sdL r false s 0 = A0 at *
  generalize sdF r false s 0 = A1 at *
  generalize sdL r true t 0 = B0 at *
  generalize sdF r true t 0 = B1 at *
  simp (config := { maxSteps := 1000000 }) (disch := omega) only [go_sem, ↓reduceIte, Nat.reduceEqDiff, Nat.reduceAdd, Int.reduceToNat, reduceCtorEq, Nat.reduceLeDiff, Nat.reduceSub, Nat.reduceDiv, Nat.reduceMod, Nat.reduceMul, d1359, rwS, g1, g2, g3]
  refine Ev_imp main fun x st h => ?_
  obtain ⟨env, hp, lo, mks⟩ := st
  obtain ⟨rfl, _, e8, e11, _⟩ := h
  simp only at e8 e11
  simp (config := { maxSteps := 1000000 }) (disch := omega) only [go_sem, ↓reduceIte, Nat.reduceEqDiff, Nat.reduceAdd, Int.reduceToNat, reduceCtorEq, Nat.reduceLeDiff, Nat.reduceSub, Nat.reduceDiv, Nat.reduceMod, Nat.reduceMul, e8, e11]
end Go.Proofs.Ytgjahkebhlphgaa

namespace Go.Proofs.Ytgjahkebhlphgaa
set_option linter.unusedSimpArgs false
set_option linter.unusedVariables false
set_option maxHeartbeats 4000000
set_option maxRecDepth 100000
theorem pchk2 (r : Rw) (s t : Int) : (¬ chk r = true ∧ pchk r [s, t] = 40) ∨ (chk r = true ∧ ¬ ((0 ≤ s ∧ s < plc r) ∧ 0 ≤ t ∧ t < plc r) ∧ pchk r [s, t] = 1) ∨ (chk r = true ∧ ((0 ≤ s ∧ s < plc r) ∧ 0 ≤ t ∧ t < plc r) ∧ pchk r [s, t] = 0) := by
  by_cases hc : chk r = true
  · have ok := chk_iff.1 hc
    have lo := ok.f.lo
    have hn : ((r.off.length : Int) - 1) = (plc r : Int) := by unfold plc; omega
    have e : allPl ((r.off.length : Int) - 1) [s, t] = decide ((0 ≤ s ∧ s < plc r) ∧ 0 ≤ t ∧ t < plc r) := by
      rw [hn]
      simp [allPl]
    by_cases h : (0 ≤ s ∧ s < plc r) ∧ 0 ≤ t ∧ t < plc r
    · exact .inr (.inr ⟨hc, h, by rw [pchk, if_pos hc, e, decide_eq_true h]; rfl⟩)
    · exact .inr (.inl ⟨hc, h, by rw [pchk, if_pos hc, e, decide_eq_false h]; rfl⟩)
  · exact .inl ⟨hc, by rw [pchk, if_neg hc]⟩
noncomputable def dsT (r : Rw) (s t : Int) : AV := if pchk r [s, t] = 0 then (if 0 ≤ lev (nbr r false) s t then .tup [.int .i64 (lev (nbr r false) s t), .bool true, .int .i64 0] else .tup [.int .i64 0, .bool false, .int .i64 0]) else .tup [.int .i64 0, .bool false, .int .i64 (pchk r [s, t])]
noncomputable def spT8 (r : Rw) (s t : Int) : AV := if pchk r [s, t] = 0 then .tup [.int .i64 (mtN r s.toNat t.toNat : Int), .int .i64 0] else .tup [.int .i64 0, .int .i64 (pchk r [s, t])]
theorem ints2 (s t : Int) : ints [s, t] = [.int .i64 s, .int .i64 t] := rfl
theorem dist_run {r : Rw} {s t : Int} (hr : okR r) : runP tab 1344 [.agg (rwS r), .int .i64 s, .int .i64 t] [] = some (dsT r s t, []) := by
  refine runP_fn t1344 rfl ?_
  have g1 := pcheck_run (r := r) (l := [s, t]) hr (by simp)
  rw [ints2] at g1
  simp only [rwS] at g1
  unfold dsT
  rcases pchk2 r s t with ⟨hc, e⟩ | ⟨hc, h, e⟩ | ⟨hc, ⟨hs, ht⟩, e⟩
  · rw [e] at g1 ⊢
    rw [if_neg (by decide)]
    simp (config := { maxSteps := 1000000 }) (disch := omega) only [go_sem, ↓reduceIte, Nat.reduceEqDiff, Nat.reduceAdd, Int.reduceToNat, reduceCtorEq, Nat.reduceLeDiff, Nat.reduceSub, Nat.reduceDiv, Nat.reduceMod, Nat.reduceMul, d1344, rwS, g1]
  · rw [e] at g1 ⊢
    rw [if_neg (by decide)]
    simp (config := { maxSteps := 1000000 }) (disch := omega) only [go_sem, ↓reduceIte, Nat.reduceEqDiff, Nat.reduceAdd, Int.reduceToNat, reduceCtorEq, Nat.reduceLeDiff, Nat.reduceSub, Nat.reduceDiv, Nat.reduceMod, Nat.reduceMul, d1344, rwS, g1]
  · rw [e] at g1 ⊢
    rw [if_pos rfl]
    obtain ⟨s, rfl⟩ : ∃ n : Nat, s = n := ⟨s.toNat, by omega⟩
    obtain ⟨t, rfl⟩ : ∃ n : Nat, t = n := ⟨t.toNat, by omega⟩
    have g2 := meet_run hr (chk_iff.1 hc) (s := s) (t := t) (by omega) (by omega)
    simp only [rwS] at g2
    generalize mtN r s t = k at *
    generalize lev (nbr r false) s t = D at *
    by_cases hD : 0 ≤ D
    · rw [if_pos hD]
      simp (config := { maxSteps := 1000000 }) (disch := omega) only [go_sem, ↓reduceIte, Nat.reduceEqDiff, Nat.reduceAdd, Int.reduceToNat, reduceCtorEq, Nat.reduceLeDiff, Nat.reduceSub, Nat.reduceDiv, Nat.reduceMod, Nat.reduceMul, d1344, rwS, g1, g2]
    · rw [if_neg hD]
      simp (config := { maxSteps := 1000000 }) (disch := omega) only [go_sem, ↓reduceIte, Nat.reduceEqDiff, Nat.reduceAdd, Int.reduceToNat, reduceCtorEq, Nat.reduceLeDiff, Nat.reduceSub, Nat.reduceDiv, Nat.reduceMod, Nat.reduceMul, d1344, rwS, g1, g2]
theorem steps_run {r : Rw} {s t : Int} (hr : okR r) : runP tab 1346 [.agg (rwS r), .int .i64 s, .int .i64 t] [] = some (spT8 r s t, []) := by
  refine runP_fn t1346 rfl ?_
  have g1 := pcheck_run (r := r) (l := [s, t]) hr (by simp)
  rw [ints2] at g1
  simp only [rwS] at g1
  unfold spT8
  rcases pchk2 r s t with ⟨hc, e⟩ | ⟨hc, h, e⟩ | ⟨hc, ⟨hs, ht⟩, e⟩
  · rw [e] at g1 ⊢
    rw [if_neg (by decide)]
    simp (config := { maxSteps := 1000000 }) (disch := omega) only [go_sem, ↓reduceIte, Nat.reduceEqDiff, Nat.reduceAdd, Int.reduceToNat, reduceCtorEq, Nat.reduceLeDiff, Nat.reduceSub, Nat.reduceDiv, Nat.reduceMod, Nat.reduceMul, d1346, rwS, g1]
  · rw [e] at g1 ⊢
    rw [if_neg (by decide)]
    simp (config := { maxSteps := 1000000 }) (disch := omega) only [go_sem, ↓reduceIte, Nat.reduceEqDiff, Nat.reduceAdd, Int.reduceToNat, reduceCtorEq, Nat.reduceLeDiff, Nat.reduceSub, Nat.reduceDiv, Nat.reduceMod, Nat.reduceMul, d1346, rwS, g1]
  · rw [e] at g1 ⊢
    rw [if_pos rfl]
    obtain ⟨s, rfl⟩ : ∃ n : Nat, s = n := ⟨s.toNat, by omega⟩
    obtain ⟨t, rfl⟩ : ∃ n : Nat, t = n := ⟨t.toNat, by omega⟩
    have g2 := meet_run hr (chk_iff.1 hc) (s := s) (t := t) (by omega) (by omega)
    simp only [rwS] at g2
    rw [Int.toNat_natCast, Int.toNat_natCast]
    generalize mtN r s t = k at *
    generalize lev (nbr r false) s t = D at *
    simp (config := { maxSteps := 1000000 }) (disch := omega) only [go_sem, ↓reduceIte, Nat.reduceEqDiff, Nat.reduceAdd, Int.reduceToNat, reduceCtorEq, Nat.reduceLeDiff, Nat.reduceSub, Nat.reduceDiv, Nat.reduceMod, Nat.reduceMul, d1346, rwS, g1, g2]
noncomputable def btT (r : Rw) (s t : Int) : AV := if pchk r [s, t] = 0 then .tup [.vec 1 (ints (levs (nbr r false) s (plc r))), .vec 1 (ints (levs (nbr r true) t (plc r))), .int .i64 0] else if chk r = true ∧ 0 ≤ s ∧ s < plc r then .tup [.vec 1 (ints (levs (nbr r false) s (plc r))), .vec 1 [], .int .i64 1] else .tup [.vec 1 [], .vec 1 [], .int .i64 (pchk r [s, t])]
theorem both8_run {r : Rw} {s t : Int} (hr : okR r) : runP tab 1360 [.agg (rwS r), .int .i64 s, .int .i64 t] [] = some (btT r s t, []) := by
  refine runP_fn t1360 rfl ?_
  have g1 := rlevels_run (s := s) (b := false) hr
  have g2 := rlevels_run (s := t) (b := true) hr
  unfold btT
  rcases pchk2 r s t with ⟨hc, e⟩ | ⟨hc, h, e⟩ | ⟨hc, ⟨hs, ht⟩, e⟩
  · rw [lvT_no hc] at g1
    rw [e, if_neg (by decide), if_neg (fun h => hc h.1)]
    simp only [rwS] at g1
    simp (config := { maxSteps := 1000000 }) (disch := omega) only [go_sem, ↓reduceIte, Nat.reduceEqDiff, Nat.reduceAdd, Int.reduceToNat, reduceCtorEq, Nat.reduceLeDiff, Nat.reduceSub, Nat.reduceDiv, Nat.reduceMod, Nat.reduceMul, d1360, rwS, g1]
  · rw [e, if_neg (by decide)]
    by_cases hs : 0 ≤ s ∧ s < plc r
    · rw [lvT_yes hc hs] at g1
      rw [lvT_far hc (fun ht => h ⟨hs, ht⟩)] at g2
      rw [if_pos ⟨hc, hs⟩]
      generalize levs (nbr r false) s (plc r) = L at *
      simp only [rwS] at g1 g2
      simp (config := { maxSteps := 1000000 }) (disch := omega) only [go_sem, ↓reduceIte, Nat.reduceEqDiff, Nat.reduceAdd, Int.reduceToNat, reduceCtorEq, Nat.reduceLeDiff, Nat.reduceSub, Nat.reduceDiv, Nat.reduceMod, Nat.reduceMul, d1360, rwS, g1, g2]
    · rw [lvT_far hc hs] at g1
      rw [if_neg (fun h => hs h.2)]
      simp only [rwS] at g1
      simp (config := { maxSteps := 1000000 }) (disch := omega) only [go_sem, ↓reduceIte, Nat.reduceEqDiff, Nat.reduceAdd, Int.reduceToNat, reduceCtorEq, Nat.reduceLeDiff, Nat.reduceSub, Nat.reduceDiv, Nat.reduceMod, Nat.reduceMul, d1360, rwS, g1]
  · rw [lvT_yes hc hs] at g1
    rw [lvT_yes hc ht] at g2
    rw [e, if_pos rfl]
    generalize levs (nbr r false) s (plc r) = L at *
    generalize levs (nbr r true) t (plc r) = L2 at *
    simp only [rwS] at g1 g2
    simp (config := { maxSteps := 1000000 }) (disch := omega) only [go_sem, ↓reduceIte, Nat.reduceEqDiff, Nat.reduceAdd, Int.reduceToNat, reduceCtorEq, Nat.reduceLeDiff, Nat.reduceSub, Nat.reduceDiv, Nat.reduceMod, Nat.reduceMul, d1360, rwS, g1, g2]
theorem rdist_run {r : Rw} {s t : Int} (hr : okR r) : runP tab 1345 [.agg (rwS r), .int .i64 s, .int .i64 t] [] = some (dsT r s t, []) := by
  refine runP_fn t1345 rfl ?_
  have g := both8_run (s := s) (t := t) hr
  unfold btT at g
  unfold dsT
  rcases pchk2 r s t with ⟨hc, e⟩ | ⟨hc, h, e⟩ | ⟨hc, ⟨hs, ht⟩, e⟩
  · rw [e, if_neg (by decide), if_neg (fun h => hc h.1)] at g
    rw [e, if_neg (by decide)]
    simp only [rwS] at g
    simp (config := { maxSteps := 1000000 }) (disch := omega) only [go_sem, ↓reduceIte, Nat.reduceEqDiff, Nat.reduceAdd, Int.reduceToNat, reduceCtorEq, Nat.reduceLeDiff, Nat.reduceSub, Nat.reduceDiv, Nat.reduceMod, Nat.reduceMul, d1345, rwS, g]
  · rw [e, if_neg (by decide)] at g
    rw [e, if_neg (by decide)]
    by_cases hs : 0 ≤ s ∧ s < plc r
    · rw [if_pos ⟨hc, hs⟩] at g
      generalize levs (nbr r false) s (plc r) = L at *
      simp only [rwS] at g
      simp (config := { maxSteps := 1000000 }) (disch := omega) only [go_sem, ↓reduceIte, Nat.reduceEqDiff, Nat.reduceAdd, Int.reduceToNat, reduceCtorEq, Nat.reduceLeDiff, Nat.reduceSub, Nat.reduceDiv, Nat.reduceMod, Nat.reduceMul, d1345, rwS, g]
    · rw [if_neg (fun h => hs h.2)] at g
      simp only [rwS] at g
      simp (config := { maxSteps := 1000000 }) (disch := omega) only [go_sem, ↓reduceIte, Nat.reduceEqDiff, Nat.reduceAdd, Int.reduceToNat, reduceCtorEq, Nat.reduceLeDiff, Nat.reduceSub, Nat.reduceDiv, Nat.reduceMod, Nat.reduceMul, d1345, rwS, g]
  · rw [e, if_pos rfl] at g
    rw [e, if_pos rfl]
    obtain ⟨t, rfl⟩ : ∃ n : Nat, t = n := ⟨t.toNat, by omega⟩
    have hl := levs_len (nbr r false) s (plc r)
    have ha := levs_get (nb := nbr r false) (s := s) (n := plc r) (i := t) (by omega)
    generalize levs (nbr r false) s (plc r) = L at *
    generalize levs (nbr r true) t (plc r) = L2 at *
    generalize lev (nbr r false) s t = D at *
    simp only [rwS] at g
    by_cases hD : 0 ≤ D
    · rw [if_pos hD]
      simp (config := { maxSteps := 1000000 }) (disch := omega) only [go_sem, ↓reduceIte, Nat.reduceEqDiff, Nat.reduceAdd, Int.reduceToNat, reduceCtorEq, Nat.reduceLeDiff, Nat.reduceSub, Nat.reduceDiv, Nat.reduceMod, Nat.reduceMul, d1345, rwS, g, ha]
    · rw [if_neg hD]
      simp (config := { maxSteps := 1000000 }) (disch := omega) only [go_sem, ↓reduceIte, Nat.reduceEqDiff, Nat.reduceAdd, Int.reduceToNat, reduceCtorEq, Nat.reduceLeDiff, Nat.reduceSub, Nat.reduceDiv, Nat.reduceMod, Nat.reduceMul, d1345, rwS, g, ha]
theorem has8_run {l : List Int} {x : Int} (hl : l.length ≤ 1000000) : runP tab 1362 [.sl 1 (ints l), .int .i64 x] [] = some (.bool (decide (x ∈ l)), []) := by
  refine runP_fn t1362 rfl ?_
  simp (config := { maxSteps := 1000000 }) (disch := omega) only [go_sem, ↓reduceIte, Nat.reduceEqDiff, Nat.reduceAdd, Int.reduceToNat, reduceCtorEq, Nat.reduceLeDiff, Nat.reduceSub, Nat.reduceDiv, Nat.reduceMod, Nat.reduceMul, d1362]
  rcases first_ix' (fun i => l.getD i 0 ≠ x) l.length with h | ⟨k, h1, h2, h3⟩
  · rw [show decide (x ∈ l) = false by
      rw [decide_eq_false_iff_not, memI]; rintro ⟨i, hi, e⟩; exact h i hi e]
    refine Ev_loop0 (fun i => ⟨[(0, .sl 1 (ints l)), (1, .int .i64 x), (5, .int .i64 (i : Int))], [], 0, [(0, 0, [0, 1, 5], [])]⟩) l.length rfl (fun i hi => ?_) ?_
    · have := h i (by omega)
      simp (config := { maxSteps := 1000000 }) (disch := omega) only [go_sem, ↓reduceIte, Nat.reduceEqDiff, Nat.reduceAdd, Int.reduceToNat, reduceCtorEq, Nat.reduceLeDiff, Nat.reduceSub, Nat.reduceDiv, Nat.reduceMod, Nat.reduceMul, d1362_b0]
    · simp (config := { maxSteps := 1000000 }) (disch := omega) only [go_sem, ↓reduceIte, Nat.reduceEqDiff, Nat.reduceAdd, Int.reduceToNat, reduceCtorEq, Nat.reduceLeDiff, Nat.reduceSub, Nat.reduceDiv, Nat.reduceMod, Nat.reduceMul, d1362_b0]
  · have h3 : l.getD k 0 = x := by simpa using h3
    rw [show decide (x ∈ l) = true by rw [decide_eq_true_eq, memI]; exact ⟨k, h1, h3⟩]
    refine Ev_loop0 (fun i => ⟨[(0, .sl 1 (ints l)), (1, .int .i64 x), (5, .int .i64 (i : Int))], [], 0, [(0, 0, [0, 1, 5], [])]⟩) k rfl (fun i hi => ?_) ?_
    · have := h2 i (by omega)
      simp (config := { maxSteps := 1000000 }) (disch := omega) only [go_sem, ↓reduceIte, Nat.reduceEqDiff, Nat.reduceAdd, Int.reduceToNat, reduceCtorEq, Nat.reduceLeDiff, Nat.reduceSub, Nat.reduceDiv, Nat.reduceMod, Nat.reduceMul, d1362_b0]
    · simp (config := { maxSteps := 1000000 }) (disch := omega) only [go_sem, ↓reduceIte, Nat.reduceEqDiff, Nat.reduceAdd, Int.reduceToNat, reduceCtorEq, Nat.reduceLeDiff, Nat.reduceSub, Nat.reduceDiv, Nat.reduceMod, Nat.reduceMul, d1362_b0, h3]
def metAt (A B : List Int) (k : Int) (v : Nat) : Prop := (0 ≤ gi A v ∧ gi A v ≤ k) ∧ 0 ≤ gi B v ∧ gi B v ≤ k
theorem met_no {A B : List Int} {k : Int} {i : Nat} (hi : i < A.length) (hl : A.length = B.length) (hn : A.length ≤ 1000000) (h : ¬ metAt A B k i) : Ev tab d1361_b0 ⟨[(0, .sl 1 (ints A)), (1, .sl 1 (ints B)), (2, .int .i64 k), (7, .int .i64 (i : Int))], [], 0, [(0, 0, [0, 1, 2, 7], [])]⟩ (fun x st => x = .normal ∧ st = ⟨[(0, .sl 1 (ints A)), (1, .sl 1 (ints B)), (2, .int .i64 k), (7, .int .i64 ((i + 1 : Nat) : Int))], [], 0, [(0, 0, [0, 1, 2, 7], [])]⟩) := by
  have e1 : A.getD i 0 = gi A i := rfl
  have e2 : B.getD i 0 = gi B i := rfl
  unfold metAt at h
  generalize gi A i = x at *
  generalize gi B i = y at *
  have ec : ((i + 1 : Nat) : Int) = (i : Int) + 1 := by omega
  rw [ec]
  by_cases q1 : 0 ≤ x
  · by_cases q2 : x ≤ k
    · by_cases q3 : 0 ≤ y
      · have q4 : ¬ y ≤ k := fun h4 => h ⟨⟨q1, q2⟩, q3, h4⟩
        clear h
        simp (config := { maxSteps := 1000000 }) (disch := omega) only [go_sem, ↓reduceIte, Nat.reduceEqDiff, Nat.reduceAdd, Int.reduceToNat, reduceCtorEq, Nat.reduceLeDiff, Nat.reduceSub, Nat.reduceDiv, Nat.reduceMod, Nat.reduceMul, d1361_b0, e1, e2]
      · clear h
        simp (config := { maxSteps := 1000000 }) (disch := omega) only [go_sem, ↓reduceIte, Nat.reduceEqDiff, Nat.reduceAdd, Int.reduceToNat, reduceCtorEq, Nat.reduceLeDiff, Nat.reduceSub, Nat.reduceDiv, Nat.reduceMod, Nat.reduceMul, d1361_b0, e1, e2]
    · clear h
      simp (config := { maxSteps := 1000000 }) (disch := omega) only [go_sem, ↓reduceIte, Nat.reduceEqDiff, Nat.reduceAdd, Int.reduceToNat, reduceCtorEq, Nat.reduceLeDiff, Nat.reduceSub, Nat.reduceDiv, Nat.reduceMod, Nat.reduceMul, d1361_b0, e1, e2]
  · clear h
    simp (config := { maxSteps := 1000000 }) (disch := omega) only [go_sem, ↓reduceIte, Nat.reduceEqDiff, Nat.reduceAdd, Int.reduceToNat, reduceCtorEq, Nat.reduceLeDiff, Nat.reduceSub, Nat.reduceDiv, Nat.reduceMod, Nat.reduceMul, d1361_b0, e1, e2]
open Classical in
noncomputable def metB (A B : List Int) (k : Int) : Bool := decide (∃ v, v < A.length ∧ metAt A B k v)
theorem metB_yes {A B : List Int} {k : Int} (h : ∃ v, v < A.length ∧ metAt A B k v) : metB A B k = true := by simp only [metB, decide_eq_true_eq]; exact h
theorem metB_no {A B : List Int} {k : Int} (h : ¬ ∃ v, v < A.length ∧ metAt A B k v) : metB A B k = false := by simp only [metB, decide_eq_false_iff_not]; exact h
theorem meet8_run {A B : List Int} {k : Int} (hl : A.length = B.length) (hn : A.length ≤ 1000000) : runP tab 1361 [.sl 1 (ints A), .sl 1 (ints B), .int .i64 k] [] = some (.bool (metB A B k), []) := by
  refine runP_fn t1361 rfl ?_
  simp (config := { maxSteps := 1000000 }) (disch := omega) only [go_sem, ↓reduceIte, Nat.reduceEqDiff, Nat.reduceAdd, Int.reduceToNat, reduceCtorEq, Nat.reduceLeDiff, Nat.reduceSub, Nat.reduceDiv, Nat.reduceMod, Nat.reduceMul, d1361]
  rcases first_ix' (fun v => ¬ metAt A B k v) A.length with h | ⟨m, h1, h2, h3⟩
  · rw [metB_no (fun ⟨v, hv, hm⟩ => h v hv hm)]
    refine Ev_loop0 (fun i => ⟨[(0, .sl 1 (ints A)), (1, .sl 1 (ints B)), (2, .int .i64 k), (7, .int .i64 (i : Int))], [], 0, [(0, 0, [0, 1, 2, 7], [])]⟩) A.length rfl (fun i hi => met_no hi hl hn (h i hi)) ?_
    simp (config := { maxSteps := 1000000 }) (disch := omega) only [go_sem, ↓reduceIte, Nat.reduceEqDiff, Nat.reduceAdd, Int.reduceToNat, reduceCtorEq, Nat.reduceLeDiff, Nat.reduceSub, Nat.reduceDiv, Nat.reduceMod, Nat.reduceMul, d1361_b0]
  · have h3 : metAt A B k m := Classical.byContradiction h3
    rw [metB_yes ⟨m, h1, h3⟩]
    refine Ev_loop0 (fun i => ⟨[(0, .sl 1 (ints A)), (1, .sl 1 (ints B)), (2, .int .i64 k), (7, .int .i64 (i : Int))], [], 0, [(0, 0, [0, 1, 2, 7], [])]⟩) m rfl (fun i hi => met_no (by omega) hl hn (h2 i hi)) ?_
    obtain ⟨⟨q1, q2⟩, q3, q4⟩ := h3
    have e1 : A.getD m 0 = gi A m := rfl
    have e2 : B.getD m 0 = gi B m := rfl
    generalize gi A m = x at *
    generalize gi B m = y at *
    simp (config := { maxSteps := 1000000 }) (disch := omega) only [go_sem, ↓reduceIte, Nat.reduceEqDiff, Nat.reduceAdd, Int.reduceToNat, reduceCtorEq, Nat.reduceLeDiff, Nat.reduceSub, Nat.reduceDiv, Nat.reduceMod, Nat.reduceMul, d1361_b0, e1, e2]
theorem met_iff {r : Rw} (ok : r.ok) {s t k : Nat} (hs : s < plc r) (ht : t < plc r) : (∃ v, v < (levs (nbr r false) s (plc r)).length ∧ metAt (levs (nbr r false) s (plc r)) (levs (nbr r true) t (plc r)) k v) ↔ 0 ≤ dK r s t k := by
  have H := nbr_plc ok false
  have H2 := nbr_plc ok true
  have M := nbr_mirror ok false
  rw [dK_meets ok hs ht, ← meets_iff H H2 M (s := (s : Int)) (t := (t : Int)) ⟨by omega, by omega⟩ ⟨by omega, by omega⟩]
  unfold metAt
  constructor
  · rintro ⟨v, hv, ⟨h1, h2⟩, h3, h4⟩
    rw [levs_len] at hv
    have e1 : gi (levs (nbr r false) s (plc r)) v = lev (nbr r false) s v := levs_get hv
    have e2 : gi (levs (nbr r true) t (plc r)) v = lev (nbr r true) t v := levs_get hv
    rw [e1] at h1 h2
    rw [e2] at h3 h4
    rcases lev_cases (nbr r false) s v with ⟨i, hi, ei⟩ | ⟨_, ei⟩
    · rcases lev_cases (nbr r true) t v with ⟨j, hj, ej⟩ | ⟨_, ej⟩
      · exact ⟨v, i, j, by omega, by omega, hi, hj⟩
      · omega
    · omega
  · rintro ⟨x, i, j, hi, hj, h1, h2⟩
    have hx := Wk_pl H (s := (s : Int)) ⟨by omega, by omega⟩ h1.1
    obtain ⟨v, rfl⟩ : ∃ v : Nat, x = v := ⟨x.toNat, by omega⟩
    have hv : v < plc r := by omega
    have e1 : gi (levs (nbr r false) s (plc r)) v = lev (nbr r false) s v := levs_get hv
    have e2 : gi (levs (nbr r true) t (plc r)) v = lev (nbr r true) t v := levs_get hv
    refine ⟨v, by rw [levs_len]; exact hv, ?_, ?_⟩
    · rw [e1, lev_yes h1]; omega
    · rw [e2, lev_yes h2]; omega
theorem has_iff {r : Rw} (ok : r.ok) (b : Bool) {s k : Nat} (hs : s < plc r) : ((k : Int) ∈ levs (nbr r b) s (plc r)) ↔ sdF r b s k ≠ [] := by
  rw [memI]
  constructor
  · rintro ⟨i, hi, e⟩
    rw [levs_len] at hi
    rw [levs_get hi] at e
    exact sdF_some ok hs (lev_dst.1 e)
  · intro h
    obtain ⟨x, hx⟩ := List.exists_mem_of_ne_nil _ h
    have hd := ((frt_spec (nbr_plc ok b) (s := (s : Int)) ⟨by omega, by omega⟩ k).front x).1 hx
    have hp := sdF_pl ok b hs k x hx
    exact ⟨x.toNat, by rw [levs_len]; omega, by rw [levs_get (by omega), show ((x.toNat : Nat) : Int) = x by omega]; exact lev_yes hd⟩
theorem rsteps_run {r : Rw} {s t : Int} (hr : okR r) : runP tab 1347 [.agg (rwS r), .int .i64 s, .int .i64 t] [] = some (spT8 r s t, []) := by
  refine runP_fn t1347 rfl ?_
  have g := both8_run (s := s) (t := t) hr
  unfold btT at g
  unfold spT8
  rcases pchk2 r s t with ⟨hc, e⟩ | ⟨hc, h, e⟩ | ⟨hc, ⟨hs, ht⟩, e⟩
  · rw [e, if_neg (by decide), if_neg (fun h => hc h.1)] at g
    rw [e, if_neg (by decide)]
    simp only [rwS] at g
    simp (config := { maxSteps := 1000000 }) (disch := omega) only [go_sem, ↓reduceIte, Nat.reduceEqDiff, Nat.reduceAdd, Int.reduceToNat, reduceCtorEq, Nat.reduceLeDiff, Nat.reduceSub, Nat.reduceDiv, Nat.reduceMod, Nat.reduceMul, d1347, rwS, g]
  · rw [e, if_neg (by decide)] at g
    rw [e, if_neg (by decide)]
    by_cases hs : 0 ≤ s ∧ s < plc r
    · rw [if_pos ⟨hc, hs⟩] at g
      generalize levs (nbr r false) s (plc r) = L at *
      simp only [rwS] at g
      simp (config := { maxSteps := 1000000 }) (disch := omega) only [go_sem, ↓reduceIte, Nat.reduceEqDiff, Nat.reduceAdd, Int.reduceToNat, reduceCtorEq, Nat.reduceLeDiff, Nat.reduceSub, Nat.reduceDiv, Nat.reduceMod, Nat.reduceMul, d1347, rwS, g]
    · rw [if_neg (fun h => hs h.2)] at g
      simp only [rwS] at g
      simp (config := { maxSteps := 1000000 }) (disch := omega) only [go_sem, ↓reduceIte, Nat.reduceEqDiff, Nat.reduceAdd, Int.reduceToNat, reduceCtorEq, Nat.reduceLeDiff, Nat.reduceSub, Nat.reduceDiv, Nat.reduceMod, Nat.reduceMul, d1347, rwS, g]
  · rw [e, if_pos rfl] at g
    rw [e, if_pos rfl]
    obtain ⟨s, rfl⟩ : ∃ n : Nat, s = n := ⟨s.toNat, by omega⟩
    obtain ⟨t, rfl⟩ : ∃ n : Nat, t = n := ⟨t.toNat, by omega⟩
    rw [Int.toNat_natCast, Int.toNat_natCast]
    have ok := chk_iff.1 hc
    have hs : s < plc r := by omega
    have ht : t < plc r := by omega
    have hpl : plc r ≤ 200 := by have := ok.f.hi; unfold plc; omega
    obtain ⟨q1, q2, q3, q4⟩ := mt_spec ok hs ht
    have hl1 := levs_len (nbr r false) s (plc r)
    have hl2 := levs_len (nbr r true) t (plc r)
    have hm := fun k => met_iff ok (k := k) hs ht
    have h1 := fun k => has_iff ok false (k := k) hs
    have h2 := fun k => has_iff ok true (k := k) ht
    have gm := fun k : Nat => meet8_run (A := levs (nbr r false) s (plc r)) (B := levs (nbr r true) t (plc r)) (k := (k : Int)) (by omega) (by omega)
    have g1 := fun k : Nat => has8_run (l := levs (nbr r false) s (plc r)) (x := (k : Int)) (by omega)
    have g2 := fun k : Nat => has8_run (l := levs (nbr r true) t (plc r)) (x := (k : Int)) (by omega)
    generalize levs (nbr r false) s (plc r) = L at *
    generalize levs (nbr r true) t (plc r) = L2 at *
    simp only [rwS] at g
    simp (config := { maxSteps := 1000000 }) (disch := omega) only [go_sem, ↓reduceIte, Nat.reduceEqDiff, Nat.reduceAdd, Int.reduceToNat, reduceCtorEq, Nat.reduceLeDiff, Nat.reduceSub, Nat.reduceDiv, Nat.reduceMod, Nat.reduceMul, d1347, rwS, g]
    let S : Nat → St := fun k => ⟨[(8, .own 1 1), (9, .own 1 2), (11, .int .i64 (k : Int))], [.row false (rwS r), .row false (ints L), .row false (ints L2)], 0, [(0, 3, [8, 9, 11], [(8, 1), (9, 2)])]⟩
    have no : ∀ k, k ≤ 1000 → k ≤ plc r → ¬ 0 ≤ dK r s t k → Ev tab d1347_b0 (S k) (fun x st => x = .normal ∧ st = S (k + 1)) := fun k hk hk2 hd => by
      have gm := gm k
      rw [metB_no (fun h => hd ((hm k).1 h))] at gm
      simp (config := { maxSteps := 1000000 }) (disch := omega) only [go_sem, ↓reduceIte, Nat.reduceEqDiff, Nat.reduceAdd, Int.reduceToNat, reduceCtorEq, Nat.reduceLeDiff, Nat.reduceSub, Nat.reduceDiv, Nat.reduceMod, Nat.reduceMul, d1347_b0, S, rwS, gm]
    by_cases hD : 0 ≤ lev (nbr r false) s t
    · refine Ev_loop0 S (mtN r s t) (by simp [S, rwS]) (fun k hk => no k (by omega) (by omega) (by rw [(q1 k hk).1]; omega)) ?_
      have gm := gm (mtN r s t)
      rw [metB_yes ((hm _).2 (by rw [q2]; exact hD))] at gm
      generalize mtN r s t = k at *
      simp (config := { maxSteps := 1000000 }) (disch := omega) only [go_sem, ↓reduceIte, Nat.reduceEqDiff, Nat.reduceAdd, Int.reduceToNat, reduceCtorEq, Nat.reduceLeDiff, Nat.reduceSub, Nat.reduceDiv, Nat.reduceMod, Nat.reduceMul, d1347_b0, S, rwS, gm]
    · have hall : ∀ k, ¬ 0 ≤ dK r s t k := fun k h => by
        obtain ⟨d2, _, hd2⟩ := (dK_meets ok hs ht).1 h
        exact hD (by rw [lev_yes hd2]; omega)
      refine Ev_loop0 S (plc r + 1) (by simp [S, rwS]) (fun k hk => no k (by omega) (by omega) (hall k)) ?_
      simp (config := { maxSteps := 1000000 }) (disch := omega) only [go_sem, ↓reduceIte, Nat.reduceEqDiff, Nat.reduceAdd, Int.reduceToNat, reduceCtorEq, Nat.reduceLeDiff, Nat.reduceSub, Nat.reduceDiv, Nat.reduceMod, Nat.reduceMul, d1347_b0, S, rwS]
      have hg := q3 (by omega)
      refine Ev_loop0 (fun k => ⟨[(8, .own 1 1), (9, .own 1 2), (12, .int .i64 (k : Int))], [.row false (rwS r), .row false (ints L), .row false (ints L2)], 0, [(1, 3, [8, 9, 12], [(8, 1), (9, 2)]), (0, 3, [8, 9, 11], [(8, 1), (9, 2)])]⟩) (mtN r s t) (by simp [rwS]) (fun k hk => ?_) ?_
      · have hgo := (q1 k hk).2
        simp only [goOn, Bool.and_eq_true, decide_eq_true_eq] at hgo
        have g1 := g1 (k + 1)
        have g2 := g2 (k + 1)
        rw [decide_eq_true ((h1 _).2 hgo.1)] at g1
        rw [decide_eq_true ((h2 _).2 hgo.2)] at g2
        have ec : ((k + 1 : Nat) : Int) = (k : Int) + 1 := by omega
        rw [ec] at g1 g2
        simp (config := { maxSteps := 1000000 }) (disch := omega) only [go_sem, ↓reduceIte, Nat.reduceEqDiff, Nat.reduceAdd, Int.reduceToNat, reduceCtorEq, Nat.reduceLeDiff, Nat.reduceSub, Nat.reduceDiv, Nat.reduceMod, Nat.reduceMul, d1347_b1, rwS, g1, g2]
      · have g1 := g1 (mtN r s t + 1)
        have g2 := g2 (mtN r s t + 1)
        simp only [goOn] at hg
        generalize mtN r s t = k at *
        have ec : ((k + 1 : Nat) : Int) = (k : Int) + 1 := by omega
        by_cases ha : sdF r false s (k + 1) = []
        · rw [decide_eq_false (fun h => (h1 _).1 h ha), ec] at g1
          simp (config := { maxSteps := 1000000 }) (disch := omega) only [go_sem, ↓reduceIte, Nat.reduceEqDiff, Nat.reduceAdd, Int.reduceToNat, reduceCtorEq, Nat.reduceLeDiff, Nat.reduceSub, Nat.reduceDiv, Nat.reduceMod, Nat.reduceMul, d1347_b1, rwS, g1]
        · rw [decide_eq_true ha, Bool.true_and, decide_eq_false_iff_not] at hg
          rw [decide_eq_true ((h1 _).2 ha), ec] at g1
          rw [decide_eq_false (fun h => hg ((h2 _).1 h)), ec] at g2
          simp (config := { maxSteps := 1000000 }) (disch := omega) only [go_sem, ↓reduceIte, Nat.reduceEqDiff, Nat.reduceAdd, Int.reduceToNat, reduceCtorEq, Nat.reduceLeDiff, Nat.reduceSub, Nat.reduceDiv, Nat.reduceMod, Nat.reduceMul, d1347_b1, rwS, g1, g2]
end Go.Proofs.Ytgjahkebhlphgaa
