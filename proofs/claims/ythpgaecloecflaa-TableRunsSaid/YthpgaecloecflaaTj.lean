/- Layer 14: what a table holds: Get, Put, Drop, one contract each. -/
import Derived.Test.YthpgaecloecflaaTi
namespace Go.Proofs.Ythpgaecloecflaa
set_option linter.unusedSimpArgs false
set_option linter.unusedVariables false
set_option maxHeartbeats 4000000
set_option maxRecDepth 100000
def val (P : List Pl) (k : Ky) : Option Int := (P.find? fun x => x.u && decide (x.k = k)).map (·.n)
theorem at_get {P : List Pl} {i : Nat} (h : i < P.length) : P[i] = at_ P i := by
  unfold at_; rw [List.getD_eq_getElem?_getD, List.getElem?_eq_getElem h]; rfl
theorem val_some {P : List Pl} (h : Ring P) {k : Ky} {n : Int} : val P k = some n ↔ ∃ i, i < P.length ∧ at_ P i = ⟨true, k, n⟩ := by
  unfold val
  constructor
  · intro hv
    obtain ⟨x, hx, hn⟩ := Option.map_eq_some_iff.1 hv
    have h1 := List.find?_some hx
    obtain ⟨i, hi, e⟩ := List.getElem_of_mem (List.mem_of_find?_eq_some hx)
    simp only [Bool.and_eq_true, decide_eq_true_eq] at h1
    refine ⟨i, hi, ?_⟩
    rw [← at_get hi, e]
    obtain ⟨u, k', n'⟩ := x
    simp only at h1 hn
    rw [h1.1, h1.2, hn]
  · rintro ⟨i, hi, e⟩
    cases hf : P.find? fun x => x.u && decide (x.k = k) with
    | none =>
      have := List.find?_eq_none.1 hf (P[i]) (List.getElem_mem hi)
      rw [at_get hi, e] at this
      simp at this
    | some x =>
      have h1 := List.find?_some hf
      obtain ⟨j, hj, e2⟩ := List.getElem_of_mem (List.mem_of_find?_eq_some hf)
      simp only [Bool.and_eq_true, decide_eq_true_eq] at h1
      rw [at_get hj] at e2
      have := RH_uni h hi hj (by omega) (by omega) (by rw [e]) (by rw [e2]; exact h1.1) (by rw [e, e2]; exact h1.2.symm)
      subst this
      rw [e] at e2
      rw [← e2]; rfl
theorem val_ext {a b : Option Int} (h : ∀ n, a = some n ↔ b = some n) : a = b := by
  cases a with
  | none => cases b with
    | none => rfl
    | some y => exact absurd ((h y).2 rfl) (by simp)
  | some x => exact ((h x).1 rfl).symm
theorem val_fnd {P : List Pl} (h : Ring P) {k : Ky} {r : Nat} (f : Fnd P k r) : val P k = if (at_ P r).u = true then some (at_ P r).n else none := by
  cases hu : (at_ P r).u with
  | true =>
    rw [if_pos rfl, val_some h]
    refine ⟨r, f.lt, ?_⟩
    have e : at_ P r = ⟨(at_ P r).u, (at_ P r).k, (at_ P r).n⟩ := rfl
    rw [hu, f.en hu] at e
    exact e
  | false =>
    rw [if_neg (by simp)]
    cases hv : val P k with
    | none => rfl
    | some n =>
      obtain ⟨i, hi, e⟩ := (val_some h).1 hv
      exact absurd (by rw [e]) (fnd_no h f hu hi (by rw [e]))
theorem val_ok {P : List Pl} (h : Ring P) {k : Ky} {n : Int} (hv : val P k = some n) : okB k = true := by
  obtain ⟨i, hi, e⟩ := (val_some h).1 hv
  have := ((h i hi (by omega)).2 (by rw [e])).1
  rw [e] at this
  exact okB_iff.2 this
theorem usN_none {P : List Pl} (h : Ring P) (h0 : usN P = 0) (k : Ky) : val P k = none := by
  cases hv : val P k with
  | none => rfl
  | some n =>
    obtain ⟨i, hi, e⟩ := (val_some h).1 hv
    have := List.countP_eq_zero.1 h0 (P[i]) (List.getElem_mem hi)
    rw [at_get hi, e] at this
    simp at this
structure TB (m : Nat) (ks : Int) (P : List Pl) : Prop where
  len : P.length = 2 * m
  m1 : 1 ≤ m
  m4 : m ≤ 400
  ring : Ring P
  cnt : ks = usN P
  le : usN P ≤ m
theorem TB.free {m : Nat} {ks : Int} {P : List Pl} (T : TB m ks P) : ∃ e, e < P.length ∧ (at_ P e).u = false := by
  refine Classical.byContradiction fun hc => ?_
  have : usN P = P.length := List.countP_eq_length.2 fun x hx => by
    obtain ⟨i, hi, e⟩ := List.getElem_of_mem hx
    cases hu : x.u with
    | true => rfl
    | false => exact absurd ⟨i, hi, by rw [← at_get hi, e]; exact hu⟩ hc
  have := T.le; have := T.len; have := T.m1
  omega
theorem TB.fnd {m : Nat} {ks : Int} {P : List Pl} (T : TB m ks P) (k : Ky) : ∃ r, Fnd P k r := by
  obtain ⟨e, he, hf⟩ := T.free
  exact fnd_ex he hf
theorem TB.new {m : Nat} (h1 : 1 ≤ m) (h2 : m ≤ 400) : TB m 0 (List.replicate (2 * m) default) := by
  have h0 : usN (List.replicate (2 * m) (default : Pl)) = 0 := List.countP_eq_zero.2 fun x hx => by
    rw [List.mem_replicate] at hx; rw [hx.2]; decide
  exact ⟨by simp, h1, h2, ring_new _, by rw [h0]; rfl, by omega⟩
def getA : Option Int → AV
  | some n => .tup [.int .i64 n, .bool true]
  | none => .tup [.int .i64 0, .bool false]
theorem getV {m : Nat} {ks : Int} {P : List Pl} (T : TB m ks P) (k : Ky) : runP tab 1037 [tbI m ks P, .agg (kyC k)] [] = some (getA (val P k), []) := by
  obtain ⟨r, f⟩ := T.fnd k
  have hl : P.length ≤ 1000 := by have := T.len; have := T.m4; omega
  rw [get_run f T.ring hl]
  by_cases h : ks = 0 ∨ okB k = false
  · rw [if_pos h]
    have : val P k = none := by
      rcases h with h | h
      · exact usN_none T.ring (by have := T.cnt; omega) k
      · cases hv : val P k with
        | none => rfl
        | some n => rw [val_ok T.ring hv] at h; cases h
    rw [this]; rfl
  · rw [if_neg h, val_fnd T.ring f]
    cases hu : (at_ P r).u with
    | true => rfl
    | false =>
      have := (T.ring r f.lt (by have := f.lt; omega)).1 hu
      rw [this]; rfl
theorem putV {m : Nat} {ks : Int} {P : List Pl} (T : TB m ks P) (k : Ky) (n : Int) : ∃ (e ks' : Int) (P' : List Pl), runP tab 1035 [.ref 0 0, .agg (kyC k), .int .i64 n] [tbB m ks P] = some (.int .i64 e, [tbB m ks' P']) ∧ TB m ks' P' ∧ e = (if okB k = false then 1 else if (val P k).isSome = true ∨ ks ≠ m then 0 else 140) ∧
    (e = 0 → okB k = true ∧ val P' k = some n ∧ (∀ k', k' ≠ k → val P' k' = val P k') ∧ ks' = ks + if (val P k).isSome then 0 else 1) ∧ (e ≠ 0 → P' = P ∧ ks' = ks ∧ val P k = none ∧ (okB k = true → ks = m)) := by
  obtain ⟨r, f⟩ := T.fnd k
  have hl : P.length ≤ 1000 := by have := T.len; have := T.m4; omega
  cases hk : okB k with
  | false =>
    refine ⟨1, ks, P, put_no hk, T, rfl, fun h => absurd h (by decide), fun _ => ⟨rfl, rfl, ?_, fun h => by cases h⟩⟩
    cases hv : val P k with
    | none => rfl
    | some n => rw [val_ok T.ring hv] at hk; cases hk
  | true =>
    have hm : (m : Int) ≠ 0 := by have := T.m1; omega
    have hks : 0 ≤ ks ∧ ks ≤ 1000 := by have := T.cnt; have := T.le; have := T.m4; omega
    have g := put_run (n := n) f T.ring hk hl hm hks
    have hr := fnd_put T.ring (okB_iff.1 hk) f n
    have hu1 := usN_set (P := P) ⟨true, k, n⟩ f.lt
    have v1 : val (P.set r ⟨true, k, n⟩) k = some n := (val_some hr).2 ⟨r, by rw [List.length_set]; exact f.lt, by rw [at_set f.lt, if_pos rfl]⟩
    have v2 : ∀ k', k' ≠ k → val (P.set r ⟨true, k, n⟩) k' = val P k' := fun k' hne => val_ext fun v => by
      rw [val_some hr, val_some T.ring, List.length_set]
      constructor
      · rintro ⟨i, hi, e⟩
        rw [at_set hi] at e
        by_cases h : r = i
        · rw [if_pos h] at e; injection e with _ e; exact absurd e.symm hne
        · rw [if_neg h] at e; exact ⟨i, hi, e⟩
      · rintro ⟨i, hi, e⟩
        refine ⟨i, hi, ?_⟩
        rw [at_set hi, if_neg]
        · exact e
        · rintro rfl
          have := f.en (by rw [e])
          rw [e] at this
          exact hne this
    have hv := val_fnd T.ring f
    cases hu : (at_ P r).u with
    | true =>
      rw [hu, if_pos rfl] at g hv
      rw [hu] at hu1
      simp only [Bool.toNat_true] at hu1
      refine ⟨0, ks, P.set r ⟨true, k, n⟩, g, ⟨by rw [List.length_set]; exact T.len, T.m1, T.m4, hr, by have := T.cnt; omega, by have := T.le; omega⟩, by rw [hv]; simp, fun _ => ⟨rfl, v1, v2, by rw [hv]; simp⟩, fun h => absurd rfl h⟩
    | false =>
      rw [hu, if_neg (by simp)] at g hv
      rw [hu] at hu1
      simp only [Bool.toNat_true, Bool.toNat_false] at hu1
      by_cases he : ks = m
      · rw [if_pos he] at g
        exact ⟨140, ks, P, g, T, by rw [hv]; simp [he], fun h => absurd h (by decide), fun _ => ⟨rfl, rfl, hv, fun _ => he⟩⟩
      · rw [if_neg he] at g
        refine ⟨0, ks + 1, P.set r ⟨true, k, n⟩, g, ⟨by rw [List.length_set]; exact T.len, T.m1, T.m4, hr, by have := T.cnt; omega, by have := T.cnt; have := T.le; omega⟩, by rw [hv]; simp [he], fun _ => ⟨rfl, v1, v2, by rw [hv]; simp⟩, fun h => absurd rfl h⟩
theorem dropV {m : Nat} {ks : Int} {P : List Pl} (T : TB m ks P) (k : Ky) : ∃ (ks' : Int) (P' : List Pl), runP tab 1039 [.ref 0 0, .agg (kyC k)] [tbB m ks P] = some (.bool (val P k).isSome, [tbB m ks' P']) ∧ TB m ks' P' ∧
    val P' k = none ∧ (∀ k', k' ≠ k → val P' k' = val P k') ∧ ks' = ks - if (val P k).isSome then 1 else 0 := by
  obtain ⟨r, f⟩ := T.fnd k
  have hl : P.length ≤ 1000 := by have := T.len; have := T.m4; omega
  have hv := val_fnd T.ring f
  cases hu : (at_ P r).u with
  | false =>
    rw [hu, if_neg (by simp)] at hv
    refine ⟨ks, P, ?_, T, hv, fun _ _ => rfl, by rw [hv]; simp⟩
    rw [hv]
    exact drop_no f T.ring hl (.inr (.inr hu))
  | true =>
    rw [hu, if_pos rfl] at hv
    obtain ⟨e, he, hf⟩ := T.free
    have hk := val_ok T.ring hv
    have hu1 := usN_set (P := P) default f.lt
    rw [hu] at hu1
    have hd : (default : Pl).u.toNat = 0 := rfl
    rw [hd] at hu1
    simp only [Bool.toNat_true] at hu1
    have hks : 1 ≤ ks ∧ ks ≤ 1000 := by have := T.cnt; have := T.le; have := T.m4; omega
    obtain ⟨Q, ⟨P', g', C, rfl⟩, g⟩ := drop_run (m := m) (ks := ks) f T.ring hk hl hu he hf hks
    have hlen : (P'.set g' default).length = P.length := by rw [List.length_set, C.len]
    have hus := C.us
    have hr := C.ring
    have hkr := f.en hu
    have hhas : ∀ k' v, val (P'.set g' default) k' = some v ↔ ∃ i, i < P.length ∧ i ≠ r ∧ at_ P i = ⟨true, k', v⟩ := fun k' v => by
      rw [val_some hr, hlen]
      have hh := C.has ⟨true, k', v⟩
      unfold Has at hh
      rw [C.len] at hh
      simp only [true_and] at hh
      rw [← hh]
      constructor
      · rintro ⟨i, hi, e⟩
        rw [at_set (by rw [C.len]; exact hi)] at e
        by_cases h : g' = i
        · rw [if_pos h] at e; cases e
        · rw [if_neg h] at e; exact ⟨i, hi, fun q => h q.symm, e⟩
      · rintro ⟨i, hi, hne, e⟩
        refine ⟨i, hi, ?_⟩
        rw [at_set (by rw [C.len]; exact hi), if_neg (fun q => hne q.symm)]; exact e
    refine ⟨ks - 1, P'.set g' default, ?_, ⟨by rw [hlen]; exact T.len, T.m1, T.m4, hr, by have := T.cnt; omega, by have := T.le; omega⟩, ?_, fun k' hne => val_ext fun v => ?_, by rw [hv]; simp⟩
    · rw [hv]; exact g
    · cases h : val (P'.set g' default) k with
      | none => rfl
      | some v =>
        obtain ⟨i, hi, hir, e⟩ := (hhas k v).1 h
        exact absurd (RH_uni T.ring hi f.lt (by omega) (by have := f.lt; omega) (by rw [e]) hu (by rw [e, hkr])) hir
    · rw [hhas, val_some T.ring]
      constructor
      · rintro ⟨i, hi, _, e⟩; exact ⟨i, hi, e⟩
      · rintro ⟨i, hi, e⟩
        refine ⟨i, hi, ?_, e⟩
        rintro rfl
        rw [e] at hkr
        exact hne hkr
end Go.Proofs.Ythpgaecloecflaa
