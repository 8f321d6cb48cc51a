import Derived.Test.YtcfhocnbpplecaaKz
import Derived.Test.YtcfhocnbpplecaaT226
import Derived.Test.YtcfhocnbpplecaaKh
import Derived.Test.YtcfhocnbpplecaaPw
namespace Go.Proofs.Ytcfhocnbpplecaa
set_option maxRecDepth 100000
def encN (n : Nat) : List UInt8 := if h : n < 128 then [UInt8.ofNat n] else UInt8.ofNat (n % 128 + 128) :: encN (n / 128)
termination_by n
decreasing_by omega
theorem encN_small {n : Nat} (h : n < 128) : encN n = [UInt8.ofNat n] := by rw [encN, dif_pos h]
theorem encN_big {n : Nat} (h : 128 ≤ n) : encN n = UInt8.ofNat (n % 128 + 128) :: encN (n / 128) := by rw [encN, dif_neg (by omega)]
theorem u8_toNat {n : Nat} (h : n < 256) : (UInt8.ofNat n).toNat = n := by
  rw [UInt8.toNat_ofNat']; exact Nat.mod_eq_of_lt h
theorem u8_ext {a b : UInt8} (h : a.toNat = b.toNat) : a = b := UInt8.toNat_inj.1 h
def pN : Nat → List UInt8 → Option (Nat × Nat)
  | 0, _ => none
  | _ + 1, [] => none
  | k + 1, b :: bs => if b.toNat < 128 then some (b.toNat, 1) else match pN k bs with
    | some (n, c) => if n = 0 then none else some (b.toNat - 128 + 128 * n, c + 1)
    | none => none
theorem pow128 (k : Nat) : 128 ^ (k + 1) = 128 * 128 ^ k := by rw [Nat.pow_succ, Nat.mul_comm]
theorem pN_enc : ∀ (k n : Nat) (r : List UInt8), n < 128 ^ (k + 1) → pN (k + 1) (encN n ++ r) = some (n, (encN n).length)
  | k, n, r, h => by
    by_cases hs : n < 128
    · rw [encN_small hs]
      simp only [List.cons_append, List.nil_append, pN]
      rw [u8_toNat (by omega), if_pos hs]; rfl
    · cases k with
      | zero => simp at h; omega
      | succ k =>
        rw [encN_big (by omega)]
        simp only [List.cons_append, pN]
        rw [u8_toNat (by omega), if_neg (by omega), pN_enc k (n / 128) r (by rw [pow128] at h; omega)]
        simp only [List.length_cons]
        rw [if_neg (by omega)]
        congr 2; omega
theorem pN_sound : ∀ {k : Nat} {bs : List UInt8} {n c : Nat}, pN k bs = some (n, c) → bs.take c = encN n ∧ 0 < c ∧ c ≤ k ∧ c ≤ bs.length ∧ n < 128 ^ k ∧ (encN n).length = c
  | 0, _, _, _, h => by cases h
  | _ + 1, [], _, _, h => by cases h
  | k + 1, b :: bs, n, c, h => by
    simp only [pN] at h
    split at h
    · rename_i hb
      injection h with h
      simp only [Prod.mk.injEq] at h
      obtain ⟨rfl, rfl⟩ := h
      have : 128 ^ (k + 1) = 128 * 128 ^ k := pow128 k
      have := Nat.pow_pos (n := k) (show 0 < 128 by omega)
      refine ⟨?_, by omega, by omega, by simp, by omega, ?_⟩
      · rw [encN_small hb]; simp
      · rw [encN_small hb]; rfl
    · rename_i hb
      split at h
      · rename_i n' c' hp
        split at h
        · cases h
        · rename_i hn
          injection h with h
          simp only [Prod.mk.injEq] at h
          obtain ⟨rfl, rfl⟩ := h
          obtain ⟨h1, h2, h3, h4, h5, h6⟩ := pN_sound hp
          have hlt := b.toNat_lt
          have e1 : (b.toNat - 128 + 128 * n') % 128 = b.toNat - 128 := by omega
          have e2 : (b.toNat - 128 + 128 * n') / 128 = n' := by omega
          have e : encN (b.toNat - 128 + 128 * n') = b :: encN n' := by
            rw [encN_big (by omega), e1, e2]
            congr 1
            apply u8_ext
            rw [u8_toNat (by omega)]; omega
          refine ⟨by rw [e, List.take_succ_cons, h1], by omega, by omega, by simp; omega, by rw [pow128]; omega, by rw [e]; simp [h6]⟩
      · cases h
def vN : List UInt8 → Nat → Nat
  | _, 0 => 0
  | [], _ + 1 => 0
  | b :: bs, i + 1 => b.toNat % 128 + 128 * vN bs i
theorem vN_succ : ∀ {bs : List UInt8} {i : Nat}, i < bs.length → vN bs (i + 1) = vN bs i + (bs.getD i 0).toNat % 128 * 128 ^ i
  | [], _, h => by simp at h
  | b :: bs, 0, _ => by simp [vN]
  | b :: bs, i + 1, h => by
    rw [vN, vN_succ (by simpa using h), vN, pow128]
    simp only [List.getD_cons_succ]
    rw [Nat.mul_add, ← Nat.add_assoc, ← Nat.mul_assoc, ← Nat.mul_assoc, Nat.mul_comm 128 (_ % 128)]
theorem vN_lt : ∀ (bs : List UInt8) (i : Nat), vN bs i < 128 ^ i
  | _, 0 => by simp [vN]
  | [], i + 1 => by simp [vN]; exact Nat.pow_pos (by omega)
  | b :: bs, i + 1 => by
    have := vN_lt bs i
    rw [vN, pow128]; omega
theorem vN_pos : ∀ {bs : List UInt8} {i : Nat}, i < bs.length → 0 < (bs.getD i 0).toNat → (bs.getD i 0).toNat < 128 → 0 < vN bs (i + 1) := by
  intro bs i h h1 h2
  rw [vN_succ h, Nat.mod_eq_of_lt h2]
  have := Nat.pow_pos (n := i) (show 0 < 128 by omega)
  have : 0 < (bs.getD i 0).toNat * 128 ^ i := Nat.mul_pos h1 this
  omega
theorem pN_at : ∀ {k : Nat} {bs : List UInt8} {n : Nat}, n < k → n < bs.length → (bs.getD n 0).toNat < 128 → (∀ j, j < n → 128 ≤ (bs.getD j 0).toNat) → pN k bs = if 0 < (bs.getD n 0).toNat ∨ n = 0 then some (vN bs (n + 1), n + 1) else none
  | 0, _, _, h, _, _, _ => absurd h (Nat.not_lt_zero _)
  | _ + 1, [], _, _, h, _, _ => by simp at h
  | k + 1, b :: bs, 0, _, _, h, _ => by
    simp only [List.getD_cons_zero] at h
    simp [pN, h, vN, Nat.mod_eq_of_lt h]
  | k + 1, b :: bs, n + 1, hk, hl, h, hj => by
    have h0 := hj 0 (by omega)
    simp only [List.getD_cons_zero] at h0
    simp only [List.getD_cons_succ] at h ⊢
    have ih := pN_at (k := k) (bs := bs) (n := n) (by omega) (by simpa using hl) h (fun j hjn => by have := hj (j + 1) (by omega); simpa using this)
    simp only [pN]
    rw [if_neg (by omega), ih]
    have hlt := b.toNat_lt
    by_cases hp : 0 < (bs.getD n 0).toNat
    · have hv := vN_pos (bs := bs) (i := n) (by simpa using hl) hp h
      rw [if_pos (.inl hp), if_pos (.inl hp)]
      simp only
      rw [if_neg (by omega), vN]
      congr 2; omega
    · rw [if_neg (show ¬ (0 < (bs.getD n 0).toNat ∨ n + 1 = 0) by omega)]
      by_cases hn : n = 0
      · subst hn
        rw [if_pos (.inr rfl)]
        have : vN bs (0 + 1) = 0 := by
          rw [vN_succ (by simpa using hl)]
          have : (bs.getD 0 0).toNat = 0 := by omega
          rw [this]; simp [vN]
        simp [this]
      · rw [if_neg (show ¬ (0 < (bs.getD n 0).toNat ∨ n = 0) by omega)]
theorem pN_no : ∀ {k : Nat} {bs : List UInt8}, (∀ j, j < k → j < bs.length → 128 ≤ (bs.getD j 0).toNat) → pN k bs = none
  | 0, _, _ => rfl
  | _ + 1, [], _ => rfl
  | k + 1, b :: bs, h => by
    have h0 := h 0 (by omega) (by simp)
    simp only [List.getD_cons_zero] at h0
    have ih := pN_no (k := k) (bs := bs) (fun j h1 h2 => by have := h (j + 1) (by omega) (by simpa using h2); simpa using this)
    simp only [pN]
    rw [if_neg (by omega), ih]
theorem end_or (k : Nat) (bs : List UInt8) : (∃ n, n < k ∧ n < bs.length ∧ (bs.getD n 0).toNat < 128 ∧ ∀ j, j < n → 128 ≤ (bs.getD j 0).toNat) ∨ (∀ j, j < k → j < bs.length → 128 ≤ (bs.getD j 0).toNat) := by
  induction k with
  | zero => exact .inr fun j h => absurd h (Nat.not_lt_zero _)
  | succ k ih =>
    rcases ih with ⟨n, h1, h2, h3, h4⟩ | h
    · exact .inl ⟨n, by omega, h2, h3, h4⟩
    · by_cases hk : k < bs.length
      · by_cases hb : (bs.getD k 0).toNat < 128
        · exact .inl ⟨k, by omega, hk, hb, fun j hj => h j hj (by omega)⟩
        · refine .inr fun j h1 h2 => ?_
          by_cases hjk : j = k
          · subst hjk; omega
          · exact h j (by omega) h2
      · exact .inr fun j h1 h2 => h j (by omega) h2
theorem enc_iff {bs : List UInt8} {n : Nat} (hn : n < 5) (hl : n < bs.length) (h : (bs.getD n 0).toNat < 128) (hj : ∀ j, j < n → 128 ≤ (bs.getD j 0).toNat) : encN (vN bs (n + 1)) = bs.take (n + 1) ↔ (0 < (bs.getD n 0).toNat ∨ n = 0) := by
  have hp := pN_at (k := 5) hn hl h hj
  constructor
  · intro he
    have hv := vN_lt bs (n + 1)
    have h5 : 128 ^ (n + 1) ≤ 128 ^ (4 + 1) := Nat.pow_le_pow_right (by omega) (by omega)
    have := pN_enc 4 (vN bs (n + 1)) (bs.drop (n + 1)) (by omega)
    rw [he, List.take_append_drop, hp] at this
    by_cases hc : 0 < (bs.getD n 0).toNat ∨ n = 0
    · exact hc
    · rw [if_neg hc] at this; cases this
  · intro hc
    rw [if_pos hc] at hp
    exact (pN_sound hp).1.symm
theorem encN_len {n : Nat} (h : n ≤ 2147483647) : (encN n).length ≤ 5 := by
  have := pN_enc 4 n [] (by omega)
  exact (pN_sound this).2.2.1 |> fun h2 => by simpa using h2
def rdN (s : List UInt8) (i : Nat) : Option (Nat × Nat) := if i ≤ s.length then match pN 5 (s.drop i) with
  | some (n, c) => if n ≤ 2147483647 then some (n, i + c) else none
  | none => none else none
theorem rdN_enc {a r : List UInt8} {n : Nat} (h : n ≤ 2147483647) : rdN (a ++ (encN n ++ r)) a.length = some (n, a.length + (encN n).length) := by
  unfold rdN
  rw [if_pos (by simp), List.drop_left, pN_enc 4 n r (by omega)]
  simp only
  rw [if_pos h]
theorem rdN_sound {s : List UInt8} {i n j : Nat} (h : rdN s i = some (n, j)) : i < j ∧ j ≤ s.length ∧ n ≤ 2147483647 ∧ s.take j = s.take i ++ encN n := by
  unfold rdN at h
  split at h
  · rename_i hi
    split at h
    · rename_i n' c hp
      split at h
      · rename_i hn
        injection h with h
        simp only [Prod.mk.injEq] at h
        obtain ⟨rfl, rfl⟩ := h
        obtain ⟨h1, h2, h3, h4, _⟩ := pN_sound hp
        rw [List.length_drop] at h4
        exact ⟨by omega, by omega, hn, by rw [← h1, List.take_add]⟩
      · cases h
    · cases h
  · cases h
def u8c (l : List UInt8) : List AV := l.map fun b => .int .u8 (b.toNat : Int)
theorem u8c_flat (l : List UInt8) : (u8c l).all flat = true := by simp [u8c, flat]
theorem u8c_len (l : List UInt8) : (u8c l).length = l.length := by simp [u8c]
theorem u8c_okc (l : List UInt8) : (u8c l).all AV.okc = true := flat_okc (u8c_flat l)
theorem u8c_noid (l : List UInt8) : noidL (u8c l) = true := flat_noidL (u8c_flat l)
theorem u8c_noid' (l : List UInt8) : allL pnoid (u8c l) = true := flat_noidL (u8c_flat l)
theorem u8c_noinl (l : List UInt8) : noinlL (u8c l) = true := flat_noinlL (u8c_flat l)
theorem u8c_noinl' (l : List UInt8) : allL pnoinl (u8c l) = true := flat_noinlL (u8c_flat l)
theorem u8c_noimm (l : List UInt8) : allL pnoimm (u8c l) = true := flat_noimmL (u8c_flat l)
theorem u8c_ids (l : List UInt8) : idsL (u8c l) = [] := flat_idsL (u8c_flat l)
theorem u8c_idlt (n : Nat) (l : List UInt8) : idltL n (u8c l) = true := flat_idltL (u8c_flat l)
theorem u8c_idlt' (n : Nat) (l : List UInt8) : allL (pidlt n) (u8c l) = true := flat_idltL (u8c_flat l)
theorem u8c_ren (f : Nat → Nat) (l : List UInt8) : renL f (u8c l) = u8c l := flat_renL (u8c_flat l)
theorem u8c_ren' (f : Nat → Nat) (l : List UInt8) : mapL (ren1 f) (u8c l) = u8c l := flat_renL (u8c_flat l)
theorem u8c_frz (l : List UInt8) : frzL (u8c l) = u8c l := flat_frzL (u8c_flat l)
theorem u8c_frz' (l : List UInt8) : mapL frz1 (u8c l) = u8c l := flat_frzL (u8c_flat l)
theorem u8c_fz (hp : List Blk) (l : List UInt8) : fzL hp (u8c l) = some (u8c l) := flat_fzL (u8c_flat l)
theorem u8c_pk (n : Nat) (hp : List Blk) (l : List UInt8) : pkL n hp (u8c l) = some (u8c l, hp) := flat_pkL (u8c_flat l)
theorem u8c_pks (hp : List Blk) (l : List UInt8) : pksL hp (u8c l) = some (u8c l, hp) := flat_pksL (u8c_flat l)
theorem u8c_thaw (hp : List Blk) (l : List UInt8) : thawL hp (u8c l) = (u8c l, hp) := flat_thawL (u8c_flat l)
theorem u8c_app (a b : List UInt8) : u8c a ++ u8c b = u8c (a ++ b) := by simp [u8c]
theorem u8c_snoc (a : List UInt8) (b : UInt8) : u8c a ++ [.int .u8 (b.toNat : Int)] = u8c (a ++ [b]) := by simp [u8c]
theorem byteL_u8c : ∀ l : List UInt8, byteL (u8c l) = some l
  | [] => rfl
  | b :: l => by
    show byteL (.int .u8 (b.toNat : Int) :: u8c l) = _
    simp only [byteL, byteL_u8c l, Option.map_some]
    simp
theorem dd00 : (if ([0] : List Nat).contains 0 = true then [0] else [0, 0]).reverse = [0] := rfl
attribute [go_sem] dd00 u8c_len u8c_okc u8c_noid u8c_noid' u8c_noinl u8c_noinl' u8c_noimm u8c_ids u8c_idlt u8c_idlt' u8c_ren u8c_ren' u8c_frz u8c_frz' u8c_fz u8c_pk u8c_pks u8c_thaw u8c_app u8c_snoc byteL_u8c
end Go.Proofs.Ytcfhocnbpplecaa

namespace Go.Proofs.Ytcfhocnbpplecaa
set_option maxHeartbeats 4000000
set_option maxRecDepth 100000
theorem wmay_run (n : Int) : runP tab 1441 [.int .i64 n] [] = some (.bool (decide (0 ≤ n ∧ n ≤ 2147483647)), []) := by
  refine runP_fn t1441 rfl ?_
  by_cases h1 : 0 ≤ n <;> by_cases h2 : n ≤ 2147483647 <;> simp (disch := omega) only [go_sem, ↓reduceIte, Nat.reduceEqDiff, reduceCtorEq, d1441, h1, h2, and_self, and_true, true_and, and_false, decide_true, decide_false]
theorem digits_run (n : Int) : runP tab 1458 [.int .i64 n] [] = some (.clo 1466 [] [.box [.int .i64 n]], []) := by
  refine runP_fn t1458 rfl ?_
  simp (disch := omega) only [go_sem, ↓reduceIte, Nat.reduceEqDiff, d1458]
theorem lay_run {n : Nat} (hn : n ≤ 2147483647) : runP tab 1442 [.nils, .int .i64 n] [] = some (.vec 1 (u8c (encN n)), []) := by
  refine runP_fn t1442 rfl ?_
  have gd := digits_run n
  simp (disch := omega) only [go_sem, ↓reduceIte, Nat.reduceEqDiff, reduceCtorEq, d1442, gd]
  refine Ev_rangef rfl ?_
  refine EvC_fn t1466 rfl ?_
  simp (disch := omega) only [go_sem, ↓reduceIte, Nat.reduceAdd, reduceCtorEq, d1466]
  refine Ev_inv (fun k st => ∃ (pre : List UInt8) (left : Nat), k = left ∧ pre ++ encN left = encN n ∧ left ≤ n ∧ st = ⟨[(0, .yld 2), (3, .int .i64 left)], [.row false [.vec 1 (u8c pre)], .row false [.int .i64 n], .lp 0 [(2, .ref 0 0), (4, .nils), (7, .clo 1466 [] [.ref 1 0])] [8] d1442_r0a d1442_r0 .normal], 3, [(0, 3, [0, 3], [(0, 2)])]⟩) ?_ (i := n) ⟨[], n, rfl, rfl, Nat.le_refl _, rfl⟩
  rintro k st ⟨pre, left, rfl, he, hl, rfl⟩
  have L := u8c_len pre
  have h5 := encN_len hn
  have hl5 : pre.length ≤ 5 := by rw [← he, List.length_append] at h5; omega
  by_cases hb : 128 ≤ k
  · rw [encN_big hb] at he
    have et : ((k : Int).tmod 128) = ((k % 128 : Nat) : Int) := by rw [Int.tmod_eq_emod_of_nonneg (by omega)]; omega
    have eq : ((k : Int).tdiv 128) = ((k / 128 : Nat) : Int) := by rw [Int.tdiv_eq_ediv_of_nonneg (by omega)]; omega
    have e1 : (IntKind.u8.wrap (((k % 128 : Nat) : Int) + 128)) = ((UInt8.ofNat (k % 128 + 128)).toNat : Int) := by
      rw [u8_toNat (by omega), IntKind.wrap_u8]; omega
    simp (disch := omega) only [go_sem, ↓reduceIte, Nat.reduceEqDiff, reduceCtorEq, d1466_b0, et, e1]
    refine EvR_eq rfl rfl ?_
    simp (disch := omega) only [go_sem, ↓reduceIte, Nat.reduceEqDiff, Nat.reduceAdd, reduceCtorEq, Nat.reduceLeDiff, d1442_r0a, d1442_r0, L, eq]
    exact ⟨k / 128, by omega, pre ++ [UInt8.ofNat (k % 128 + 128)], k / 128, rfl, by rw [List.append_assoc]; exact he, by omega, rfl⟩
  · rw [encN_small (by omega)] at he
    have e1 : (IntKind.u8.wrap (k : Int)) = ((UInt8.ofNat k).toNat : Int) := by
      rw [u8_toNat (by omega), IntKind.wrap_u8]; omega
    simp (disch := omega) only [go_sem, ↓reduceIte, Nat.reduceEqDiff, reduceCtorEq, d1466_b0, e1]
    refine EvR_eq rfl rfl ?_
    simp (disch := omega) only [go_sem, ↓reduceIte, Nat.reduceEqDiff, Nat.reduceAdd, reduceCtorEq, Nat.reduceLeDiff, d1442_r0a, d1442_r0, L, he]
theorem number_run {n : Int} (h0 : 0 ≤ n) (h1 : n ≤ 2147483647) : runP tab 1432 [.int .i64 n] [] = some (.tup [.str (encN n.toNat), .int .i64 0], []) := by
  refine runP_fn t1432 rfl ?_
  have gm := wmay_run n
  rw [decide_eq_true (show 0 ≤ n ∧ n ≤ 2147483647 from ⟨h0, h1⟩)] at gm
  have gl := lay_run (n := n.toNat) (by omega)
  rw [show ((n.toNat : Nat) : Int) = n by omega] at gl
  have h5 := encN_len (n := n.toNat) (by omega)
  simp (disch := omega) only [go_sem, ↓reduceIte, Nat.reduceEqDiff, reduceCtorEq, d1432, gm, gl]
theorem rnumber_run {n : Int} (h0 : 0 ≤ n) (h1 : n ≤ 2147483647) : runP tab 1464 [.int .i64 n] [] = some (.tup [.str (encN n.toNat), .int .i64 0], []) := by
  refine runP_fn t1464 rfl ?_
  obtain ⟨k, rfl⟩ : ∃ k : Nat, n = k := ⟨n.toNat, by omega⟩
  rw [Int.toNat_natCast]
  have h5 := encN_len (n := k) (by omega)
  simp (disch := omega) only [go_sem, ↓reduceIte, Nat.reduceEqDiff, reduceCtorEq, d1464]
  refine Ev_inv (fun i st => ∃ (pre : List UInt8) (left : Nat), i = left ∧ pre ++ encN left = encN k ∧ left ≤ k ∧ st = ⟨[(0, .int .i64 left), (4, .own 1 0)], [.row false (u8c pre)], 0, [(0, 1, [0, 4], [(4, 0)])]⟩) ?_ (i := k) ⟨[], k, rfl, rfl, Nat.le_refl _, rfl⟩
  rintro i st ⟨pre, left, rfl, he, hl, rfl⟩
  have L := u8c_len pre
  have hl5 : pre.length ≤ 5 := by rw [← he, List.length_append] at h5; omega
  by_cases hb : 128 ≤ i
  · rw [encN_big hb] at he
    have et : ((i : Int).tmod 128) = ((i % 128 : Nat) : Int) := by rw [Int.tmod_eq_emod_of_nonneg (by omega)]; omega
    have eq : ((i : Int).tdiv 128) = ((i / 128 : Nat) : Int) := by rw [Int.tdiv_eq_ediv_of_nonneg (by omega)]; omega
    have e1 : (IntKind.u8.wrap (128 + ((i % 128 : Nat) : Int))) = ((UInt8.ofNat (i % 128 + 128)).toNat : Int) := by
      rw [u8_toNat (by omega), IntKind.wrap_u8]; omega
    simp (disch := omega) only [go_sem, ↓reduceIte, Nat.reduceEqDiff, Nat.reduceAdd, reduceCtorEq, Nat.reduceLeDiff, d1464_b0, et, e1, eq, L]
    exact ⟨i / 128, by omega, pre ++ [UInt8.ofNat (i % 128 + 128)], i / 128, rfl, by rw [List.append_assoc]; exact he, by omega, rfl⟩
  · rw [encN_small (by omega)] at he
    have e1 : (IntKind.u8.wrap (i : Int)) = ((UInt8.ofNat i).toNat : Int) := by
      rw [u8_toNat (by omega), IntKind.wrap_u8]; omega
    simp (disch := omega) only [go_sem, ↓reduceIte, Nat.reduceEqDiff, reduceCtorEq, Nat.reduceLeDiff, d1464_b0, e1, L, he]
theorem rnumber_bad {n : Int} (h : ¬ (0 ≤ n ∧ n ≤ 2147483647)) : runP tab 1464 [.int .i64 n] [] = some (.tup [.str [], .int .i64 1], []) := by
  refine runP_fn t1464 rfl ?_
  by_cases h0 : 0 ≤ n
  · simp (disch := omega) only [go_sem, ↓reduceIte, Nat.reduceEqDiff, reduceCtorEq, d1464]
  · simp (disch := omega) only [go_sem, ↓reduceIte, Nat.reduceEqDiff, reduceCtorEq, d1464]
def encL (l : List Int) : List UInt8 := l.flatMap fun x => encN x.toNat
theorem encL_snoc (l : List Int) (x : Int) : encL (l ++ [x]) = encL l ++ encN x.toNat := by simp [encL]
theorem encL_len {l : List Int} (h : ∀ x ∈ l, 0 ≤ x ∧ x ≤ 2147483647) : (encL l).length ≤ 5 * l.length := by
  induction l with
  | nil => simp [encL]
  | cons x l ih =>
    have h1 := encN_len (n := x.toNat) (by have := h x (by simp); omega)
    have h2 := ih (fun y hy => h y (by simp [hy]))
    simp only [encL, List.flatMap_cons, List.length_append, List.length_cons] at h2 ⊢
    omega
theorem lays_run {l : List Int} (hl : l.length ≤ 1000000) (h : ∀ x ∈ l, 0 ≤ x ∧ x ≤ 2147483647) : runP tab 1421 [.sl 1 (ints l)] [] = some (.str (encL l), []) := by
  refine runP_fn t1421 rfl ?_
  have L := ints_length l
  simp (disch := omega) only [go_sem, ↓reduceIte, Nat.reduceEqDiff, reduceCtorEq, d1421, L]
  refine Ev_loop0 (fun i => ⟨[(3, .str (encL (l.take i))), (8, .sl 1 (ints l)), (9, .int .i64 l.length), (10, .int .i64 (i : Int))], [], 0, [(0, 0, [3, 8, 9, 10], [])]⟩) l.length rfl (fun i hi => ?_) ?_
  · have e1 := ints_rdc0 hi
    obtain ⟨h0, h1⟩ := h (l.getD i 0) (by rw [List.getD_eq_getElem?_getD, List.getElem?_eq_getElem hi]; exact List.getElem_mem hi)
    have gn := number_run h0 h1
    have k1 := encL_len (l := l.take i) (fun x hx => h x (List.mem_of_mem_take hx))
    rw [List.length_take] at k1
    have k2 := encN_len (n := (l.getD i 0).toNat) (by omega)
    rw [take_snoc 0 hi, encL_snoc]
    simp (disch := omega) only [go_sem, ↓reduceIte, Nat.reduceEqDiff, d1421_b0, L, e1, gn]
  · rw [List.take_length]
    simp (disch := omega) only [go_sem, ↓reduceIte, Nat.reduceEqDiff, reduceCtorEq, d1421_b0]
end Go.Proofs.Ytcfhocnbpplecaa

namespace Go.Proofs.Ytcfhocnbpplecaa
set_option maxHeartbeats 4000000
set_option maxRecDepth 100000
def rdA : Option (Nat × Nat) → List AV
  | some (n, j) => [.int .i64 n, .int .i64 j, .bool true]
  | none => [.int .i64 0, .int .i64 0, .bool false]
theorem drop_getD {s : List UInt8} {i j : Nat} : (s.drop i).getD j 0 = s.getD (i + j) 0 := by
  rw [List.getD_eq_getElem?_getD, List.getD_eq_getElem?_getD, List.getElem?_drop]
def nbS (s : List UInt8) (at_ : Nat) (i : Nat) : St := ⟨[(0, .ref 0 0), (4, .int .i64 (vN (s.drop at_) i : Nat)), (5, .int .i64 ((128 ^ i : Nat) : Int))], [.row false [.str s, .int .i64 ((at_ + i : Nat) : Int)]], 1, [(0, 1, [0, 4, 5], [(0, 0)])]⟩
theorem nb_step {s : List UInt8} (hs : s.length ≤ 1000000) {at_ i : Nat} (hi : i < 5) (hl : at_ + i < s.length) (hb : 128 ≤ ((s.drop at_).getD i 0).toNat) : Ev tab d1468_b0 (nbS s at_ i) (fun x st => x = .normal ∧ st = nbS s at_ (i + 1)) := by
  have hv := vN_lt (s.drop at_) i
  have e1 := vN_succ (bs := s.drop at_) (i := i) (by simp; omega)
  rw [drop_getD] at hb e1
  have hb2 := (s.getD (at_ + i) 0).toNat_lt
  generalize hB : (s.getD (at_ + i) 0) = b at *
  have e2 : (128 ^ (i + 1) : Nat) = 128 ^ i * 128 := Nat.pow_succ 128 i
  have ei : s[((at_ : Int) + (i : Int)).toNat]? = some b := by
    rw [show ((at_ : Int) + (i : Int)).toNat = at_ + i by omega, List.getElem?_eq_getElem hl, ← hB, List.getD_eq_getElem?_getD, List.getElem?_eq_getElem hl]; rfl
  unfold nbS
  rw [e1, e2]
  have hp : 128 ^ i ≤ 128 ^ 4 := Nat.pow_le_pow_right (by omega) (by omega)
  generalize vN (s.drop at_) i = v at *
  generalize 128 ^ i = p at *
  have hm : b.toNat % 128 * p ≤ 127 * p := Nat.mul_le_mul_right p (by omega)
  have et : ((b.toNat : Int).tmod 128) = ((b.toNat % 128 : Nat) : Int) := by rw [Int.tmod_eq_emod_of_nonneg (by omega)]; omega
  have em : IntKind.i64.wrap (((b.toNat % 128 : Nat) : Int) * (p : Int)) = ((b.toNat % 128 * p : Nat) : Int) := by
    rw [← Int.natCast_mul]
    rw [IntKind.wrap_i64]; omega
  have ec : IntKind.i64.wrap (b.toNat : Int) = (b.toNat : Int) := by rw [IntKind.wrap_i64]; omega
  simp (disch := omega) only [go_sem, ↓reduceIte, Nat.reduceEqDiff, Nat.reduceAdd, reduceCtorEq, d1468_b0, et, ei, em, ec]
  rw [show ((at_ : Int) + (i : Int) + 1) = (at_ : Int) + ((i : Int) + 1) by omega, show ((p * 128 : Nat) : Int) = (p : Int) * 128 by omega]
theorem drop_at {s : List UInt8} {i : Nat} (h : i < s.length) : s[((i : Nat) : Int).toNat]? = some (s.getD i 0) := by
  rw [Int.toNat_natCast, List.getElem?_eq_getElem h, List.getD_eq_getElem?_getD, List.getElem?_eq_getElem h]; rfl
theorem num_at {s : List UInt8} (hs : s.length ≤ 1000000) {at_ n : Nat} (hn : n < 5) (hl : at_ + n < s.length) (hb : ((s.drop at_).getD n 0).toNat < 128) (hj : ∀ j, j < n → 128 ≤ ((s.drop at_).getD j 0).toNat) {ok : Bool} (hok : ok = true ↔ (vN (s.drop at_) (n + 1) ≤ 2147483647 ∧ (0 < ((s.drop at_).getD n 0).toNat ∨ n = 0))) :
    runP tab 1468 [.ref 0 0] [.row false [.str s, .int .i64 at_]] = some (.tup [.int .i64 (vN (s.drop at_) (n + 1) : Nat), .bool ok], [.row false [.str s, .int .i64 ((at_ + n + 1 : Nat) : Int)]]) := by
  refine runP_fn t1468 rfl ?_
  simp (disch := omega) only [go_sem, ↓reduceIte, Nat.reduceEqDiff, reduceCtorEq, d1468]
  refine Ev_loop0 (nbS s at_) n (by simp [nbS, vN]) (fun i hi => nb_step hs (by omega) (by omega) (hj i hi)) ?_
  have hv := vN_lt (s.drop at_) n
  have e1 := vN_succ (bs := s.drop at_) (i := n) (by simp; omega)
  rw [drop_getD] at hb e1 hok
  have hp : 128 ^ n ≤ 128 ^ 4 := Nat.pow_le_pow_right (by omega) (by omega)
  have hp1 : 0 < 128 ^ n := Nat.pow_pos (by omega)
  have hpn : 128 ^ n = 1 ↔ n = 0 := by
    constructor
    · intro h
      cases n with
      | zero => rfl
      | succ n => rw [pow128] at h; omega
    · rintro rfl; rfl
  have ei := drop_at hl
  rw [show (((at_ + n : Nat) : Int)) = (at_ : Int) + (n : Int) by omega] at ei
  generalize (s.getD (at_ + n) 0) = b at *
  unfold nbS
  rw [e1] at hok ⊢
  have hlt : vN (s.drop at_) n + b.toNat % 128 * 128 ^ n ≤ 127 * 268435456 + 268435456 := by
    have : b.toNat % 128 * 128 ^ n ≤ 127 * 128 ^ 4 := Nat.mul_le_mul (by omega) hp
    omega
  rw [← hpn] at hok
  generalize vN (s.drop at_) n = v at *
  generalize 128 ^ n = p at *
  have hm : b.toNat % 128 * p ≤ 127 * p := Nat.mul_le_mul_right p (by omega)
  have et : ((b.toNat : Int).tmod 128) = ((b.toNat % 128 : Nat) : Int) := by rw [Int.tmod_eq_emod_of_nonneg (by omega)]; omega
  have em : IntKind.i64.wrap (((b.toNat % 128 : Nat) : Int) * (p : Int)) = ((b.toNat % 128 * p : Nat) : Int) := by
    rw [← Int.natCast_mul]
    rw [IntKind.wrap_i64]; omega
  have ec : IntKind.i64.wrap (b.toNat : Int) = (b.toNat : Int) := by rw [IntKind.wrap_i64]; omega
  have gm := wmay_run (((v + b.toNat % 128 * p : Nat) : Int))
  rw [show (((v + b.toNat % 128 * p : Nat) : Int)) = (v : Int) + ((b.toNat % 128 * p : Nat) : Int) by omega] at gm
  generalize b.toNat % 128 * p = q at *
  by_cases c1 : v + q ≤ 2147483647
  · rw [decide_eq_true (by omega)] at gm
    by_cases c2 : 0 < b.toNat
    · have := hok.2 ⟨c1, .inl c2⟩
      subst this
      simp (disch := omega) only [go_sem, ↓reduceIte, Nat.reduceEqDiff, Nat.reduceAdd, reduceCtorEq, d1468_b0, et, ei, em, ec, gm]
    · by_cases c3 : p = 1
      · have := hok.2 ⟨c1, .inr c3⟩
        subst this
        simp (disch := omega) only [go_sem, ↓reduceIte, Nat.reduceEqDiff, Nat.reduceAdd, reduceCtorEq, d1468_b0, et, ei, em, ec, gm]
      · have : ok = false := by
          cases ok
          · rfl
          · have := hok.1 rfl; omega
        subst this
        simp (disch := omega) only [go_sem, ↓reduceIte, Nat.reduceEqDiff, Nat.reduceAdd, reduceCtorEq, d1468_b0, et, ei, em, ec, gm]
  · rw [decide_eq_false (by omega)] at gm
    have : ok = false := by
      cases ok
      · rfl
      · have := hok.1 rfl; omega
    subst this
    simp (disch := omega) only [go_sem, ↓reduceIte, Nat.reduceEqDiff, Nat.reduceAdd, reduceCtorEq, d1468_b0, et, ei, em, ec, gm]
theorem num_no {s : List UInt8} (hs : s.length ≤ 1000000) {at_ : Nat} (ha : at_ ≤ s.length) (hj : ∀ j, j < 5 → j < (s.drop at_).length → 128 ≤ ((s.drop at_).getD j 0).toNat) :
    ∃ j : Nat, runP tab 1468 [.ref 0 0] [.row false [.str s, .int .i64 at_]] = some (.tup [.int .i64 0, .bool false], [.row false [.str s, .int .i64 (j : Int)]]) := by
  rw [List.length_drop] at hj
  obtain ⟨n, hn5, hnl, hn⟩ : ∃ n, n ≤ 5 ∧ at_ + n ≤ s.length ∧ (n = 5 ∨ at_ + n = s.length) := by
    by_cases h : at_ + 5 ≤ s.length
    · exact ⟨5, by omega, h, .inl rfl⟩
    · exact ⟨s.length - at_, by omega, by omega, .inr (by omega)⟩
  refine ⟨at_ + n, runP_fn t1468 rfl ?_⟩
  simp (disch := omega) only [go_sem, ↓reduceIte, Nat.reduceEqDiff, reduceCtorEq, d1468]
  refine Ev_loop0 (nbS s at_) n (by simp [nbS, vN]) (fun i hi => nb_step hs (by omega) (by omega) (hj i (by omega) (by omega))) ?_
  unfold nbS
  generalize vN (s.drop at_) n = v at *
  by_cases h : at_ + n = s.length
  · simp (disch := omega) only [go_sem, ↓reduceIte, Nat.reduceEqDiff, reduceCtorEq, d1468_b0]
  · have h5 : n = 5 := by omega
    subst h5
    simp (disch := omega) only [go_sem, ↓reduceIte, Nat.reduceEqDiff, reduceCtorEq, d1468_b0]
theorem rd_cases (s : List UInt8) {i : Nat} (hi : i ≤ s.length) : (∃ n, n < 5 ∧ i + n < s.length ∧ ((s.drop i).getD n 0).toNat < 128 ∧ (∀ j, j < n → 128 ≤ ((s.drop i).getD j 0).toNat) ∧ rdN s i = if vN (s.drop i) (n + 1) ≤ 2147483647 ∧ (0 < ((s.drop i).getD n 0).toNat ∨ n = 0) then some (vN (s.drop i) (n + 1), i + (n + 1)) else none) ∨
    ((∀ j, j < 5 → j < (s.drop i).length → 128 ≤ ((s.drop i).getD j 0).toNat) ∧ rdN s i = none) := by
  rcases end_or 5 (s.drop i) with ⟨n, h1, h2, h3, h4⟩ | h
  · refine .inl ⟨n, h1, by rw [List.length_drop] at h2; omega, h3, h4, ?_⟩
    unfold rdN
    rw [if_pos hi, pN_at h1 h2 h3 h4]
    by_cases c : 0 < ((s.drop i).getD n 0).toNat ∨ n = 0
    · rw [if_pos c]
      simp only
      by_cases c2 : vN (s.drop i) (n + 1) ≤ 2147483647
      · rw [if_pos c2, if_pos ⟨c2, c⟩]
      · rw [if_neg c2, if_neg (fun h => c2 h.1)]
    · rw [if_neg c, if_neg (fun h => c h.2)]
  · refine .inr ⟨h, ?_⟩
    unfold rdN
    rw [if_pos hi, pN_no h]
theorem rdw_run {s : List UInt8} (hs : s.length ≤ 1000000) {i : Nat} (hi : i ≤ s.length) : ∃ j : Nat, runP tab 1467 [.ref 0 0, .clo 1468 [.ref 0 0] []] [.row false [.str s, .int .i64 i]] = some (.tup (rdA (rdN s i)), [.row false [.str s, .int .i64 j]]) := by
  rcases rd_cases s hi with ⟨n, h1, h2, h3, h4, h5⟩ | ⟨h, h5⟩
  · by_cases c : vN (s.drop i) (n + 1) ≤ 2147483647 ∧ (0 < ((s.drop i).getD n 0).toNat ∨ n = 0)
    · have g := num_at hs h1 h2 h3 h4 (ok := true) (by simp only [true_iff]; exact c)
      rw [h5, if_pos c]
      refine ⟨i + n + 1, runP_fn t1467 rfl ?_⟩
      simp (disch := omega) only [go_sem, ↓reduceIte, Nat.reduceEqDiff, reduceCtorEq, d1467, g, rdA]
      rw [show ((i : Int) + ((n : Int) + 1)) = (i : Int) + (n : Int) + 1 by omega]
    · have g := num_at hs h1 h2 h3 h4 (ok := false) ⟨fun h => by (cases h), fun h => absurd h c⟩
      rw [h5, if_neg c]
      refine ⟨i + n + 1, runP_fn t1467 rfl ?_⟩
      simp (disch := omega) only [go_sem, ↓reduceIte, Nat.reduceEqDiff, reduceCtorEq, d1467, g, rdA]
  · obtain ⟨j, g⟩ := num_no hs hi h
    rw [h5]
    refine ⟨j, runP_fn t1467 rfl ?_⟩
    simp (disch := omega) only [go_sem, ↓reduceIte, Nat.reduceEqDiff, reduceCtorEq, d1467, g, rdA]
theorem rdnum_run {s : List UInt8} (hs : s.length ≤ 1000000) {i : Nat} (hi : i ≤ s.length) : runP tab 1459 [.str s, .int .i64 i] [] = some (.tup (rdA (rdN s i)), []) := by
  obtain ⟨j, g⟩ := rdw_run hs hi
  refine runP_fn t1459 rfl ?_
  cases h : rdN s i with
  | none =>
    rw [h] at g
    simp only [rdA] at g ⊢
    simp (disch := omega) only [go_sem, ↓reduceIte, Nat.reduceEqDiff, Nat.reduceAdd, reduceCtorEq, Nat.reduceLeDiff, d1459, g]
  | some r =>
    rw [h] at g
    simp only [rdA] at g ⊢
    simp (disch := omega) only [go_sem, ↓reduceIte, Nat.reduceEqDiff, Nat.reduceAdd, reduceCtorEq, Nat.reduceLeDiff, d1459, g]
def nrS (s : List UInt8) (at_ i : Nat) : St := ⟨[(0, .str s), (1, .int .i64 at_), (7, .int .i64 (vN (s.drop at_) i : Nat)), (8, .int .i64 ((128 ^ i : Nat) : Int)), (9, .int .i64 ((at_ + i : Nat) : Int))], [], 0, [(0, 0, [0, 1, 7, 8, 9], [])]⟩
theorem rrd_run {s : List UInt8} (hs : s.length ≤ 1000000) {at_ : Nat} (hi : at_ ≤ s.length) : runP tab 1455 [.str s, .int .i64 at_] [] = some (.tup (rdA (rdN s at_)), []) := by
  refine runP_fn t1455 rfl ?_
  have stp : ∀ i, i < 5 → at_ + i < s.length → 128 ≤ ((s.drop at_).getD i 0).toNat → Ev tab d1455_b0 (nrS s at_ i) (fun x st => x = .normal ∧ st = nrS s at_ (i + 1)) := by
    intro i hi hl hb
    have hv := vN_lt (s.drop at_) i
    have e1 := vN_succ (bs := s.drop at_) (i := i) (by simp; omega)
    rw [drop_getD] at hb e1
    have hb2 := (s.getD (at_ + i) 0).toNat_lt
    have ei := drop_at hl
    rw [show (((at_ + i : Nat) : Int)) = (at_ : Int) + (i : Int) by omega] at ei
    generalize (s.getD (at_ + i) 0) = b at *
    have e2 : (128 ^ (i + 1) : Nat) = 128 ^ i * 128 := Nat.pow_succ 128 i
    unfold nrS
    rw [e1, e2]
    have hp : 128 ^ i ≤ 128 ^ 4 := Nat.pow_le_pow_right (by omega) (by omega)
    generalize vN (s.drop at_) i = v at *
    generalize 128 ^ i = p at *
    have hm : b.toNat % 128 * p ≤ 127 * p := Nat.mul_le_mul_right p (by omega)
    have et : ((b.toNat : Int).tmod 128) = ((b.toNat % 128 : Nat) : Int) := by rw [Int.tmod_eq_emod_of_nonneg (by omega)]; omega
    have em : IntKind.i64.wrap ((p : Int) * ((b.toNat % 128 : Nat) : Int)) = ((b.toNat % 128 * p : Nat) : Int) := by
      rw [← Int.natCast_mul, Nat.mul_comm, IntKind.wrap_i64]; omega
    have ec : IntKind.i64.wrap (b.toNat : Int) = (b.toNat : Int) := by rw [IntKind.wrap_i64]; omega
    simp (disch := omega) only [go_sem, ↓reduceIte, Nat.reduceEqDiff, reduceCtorEq, d1455_b0, et, ei, em, ec]
    rw [show ((at_ : Int) + (i : Int) + 1) = (at_ : Int) + ((i : Int) + 1) by omega, show ((p * 128 : Nat) : Int) = 128 * (p : Int) by omega]
  simp (disch := omega) only [go_sem, ↓reduceIte, Nat.reduceEqDiff, reduceCtorEq, d1455]
  rcases rd_cases s hi with ⟨n, h1, h2, h3, h4, h5⟩ | ⟨h, h5⟩
  · refine Ev_loop0 (nrS s at_) n (by simp [nrS, vN]) (fun i hi => stp i (by omega) (by omega) (h4 i hi)) ?_
    have hiff := enc_iff h1 (by simp; omega) h3 h4
    have hv := vN_lt (s.drop at_) n
    have e1 := vN_succ (bs := s.drop at_) (i := n) (by simp; omega)
    have hp : 128 ^ n ≤ 128 ^ 4 := Nat.pow_le_pow_right (by omega) (by omega)
    rw [drop_getD] at h3 e1 hiff
    rw [drop_getD] at h5
    have ei := drop_at h2
    rw [show (((at_ + n : Nat) : Int)) = (at_ : Int) + (n : Int) by omega] at ei
    have hsl : ((at_ : Int) + (n : Int) + 1).toNat - at_ = n + 1 := by omega
    generalize (s.getD (at_ + n) 0) = b at *
    have hb2 := b.toNat_lt
    generalize hV : vN (s.drop at_) (n + 1) = V at *
    unfold nrS
    generalize vN (s.drop at_) n = v at *
    generalize 128 ^ n = p at *
    have hm : b.toNat % 128 * p ≤ 127 * p := Nat.mul_le_mul_right p (by omega)
    have et : ((b.toNat : Int).tmod 128) = ((b.toNat % 128 : Nat) : Int) := by rw [Int.tmod_eq_emod_of_nonneg (by omega)]; omega
    have em : IntKind.i64.wrap ((p : Int) * ((b.toNat % 128 : Nat) : Int)) = ((b.toNat % 128 * p : Nat) : Int) := by
      rw [← Int.natCast_mul, Nat.mul_comm, IntKind.wrap_i64]; omega
    have ec : IntKind.i64.wrap (b.toNat : Int) = (b.toNat : Int) := by rw [IntKind.wrap_i64]; omega
    have eV : (v : Int) + ((b.toNat % 128 * p : Nat) : Int) = (V : Int) := by omega
    by_cases c1 : V ≤ 2147483647
    · have gr := rnumber_run (n := (V : Int)) (by omega) (by omega)
      rw [Int.toNat_natCast] at gr
      by_cases c2 : encN V = (s.drop at_).take (n + 1)
      · rw [h5, if_pos ⟨c1, hiff.1 c2⟩, rdA]
        have hc : (encN V == List.take (((at_ : Int) + (n : Int) + 1).toNat - at_) (List.drop at_ s)) = true := by rw [hsl, c2]; exact beq_self_eq_true _
        simp (disch := omega) only [go_sem, ↓reduceIte, Nat.reduceEqDiff, reduceCtorEq, d1455_b0, et, ei, em, ec, eV, gr, hc, Bool.not_true]
        rw [show ((at_ : Int) + ((n : Int) + 1)) = (at_ : Int) + (n : Int) + 1 by omega]
      · rw [h5, if_neg (fun h => c2 (hiff.2 h.2)), rdA]
        have hc : (encN V == List.take (((at_ : Int) + (n : Int) + 1).toNat - at_) (List.drop at_ s)) = false := by rw [hsl]; exact beq_false_of_ne c2
        simp (disch := omega) only [go_sem, ↓reduceIte, Nat.reduceEqDiff, reduceCtorEq, d1455_b0, et, ei, em, ec, eV, gr, hc, Bool.not_false]
    · have gr := rnumber_bad (n := (V : Int)) (by omega)
      rw [h5, if_neg (fun h => c1 h.1), rdA]
      simp (disch := omega) only [go_sem, ↓reduceIte, Nat.reduceEqDiff, reduceCtorEq, d1455_b0, et, ei, em, ec, eV, gr]
  · rw [List.length_drop] at h
    obtain ⟨n, hn5, hnl, hn⟩ : ∃ n, n ≤ 5 ∧ at_ + n ≤ s.length ∧ (n = 5 ∨ at_ + n = s.length) := by
      by_cases h : at_ + 5 ≤ s.length
      · exact ⟨5, by omega, h, .inl rfl⟩
      · exact ⟨s.length - at_, by omega, by omega, .inr (by omega)⟩
    refine Ev_loop0 (nrS s at_) n (by simp [nrS, vN]) (fun i hi => stp i (by omega) (by omega) (h i (by omega) (by omega))) ?_
    unfold nrS
    rw [h5]
    generalize vN (s.drop at_) n = v at *
    by_cases h : at_ + n = s.length
    · simp (disch := omega) only [go_sem, ↓reduceIte, Nat.reduceEqDiff, reduceCtorEq, d1455_b0, rdA]
    · have h5 : n = 5 := by omega
      subst h5
      simp (disch := omega) only [go_sem, ↓reduceIte, Nat.reduceEqDiff, reduceCtorEq, d1455_b0, rdA]
end Go.Proofs.Ytcfhocnbpplecaa

namespace Go.Proofs.Ytcfhocnbpplecaa
set_option maxHeartbeats 4000000
set_option maxRecDepth 100000
theorem need_run : runP tab 1444 [.bool true] [] = some (.tup [], []) := by
  refine runP_fn t1444 rfl ?_
  simp (disch := omega) only [go_sem, ↓reduceIte, d1444]
def rdr (s : List UInt8) (i : Nat) : Blk := .row false [.str s, .int .i64 (i : Int)]
theorem snum_run {s : List UInt8} (hs : s.length ≤ 1000000) {i n j : Nat} (h : rdN s i = some (n, j)) {most : Int} (hm : (n : Int) ≤ most) : runP tab 1445 [.ref 0 0, .int .i64 most] [rdr s i] = some (.int .i64 n, [rdr s j]) := by
  have hi : i ≤ s.length := by have := rdN_sound h; omega
  have g := rdnum_run hs hi
  rw [h] at g
  simp only [rdA] at g
  refine runP_fn t1445 rfl ?_
  simp (disch := omega) only [go_sem, ↓reduceIte, Nat.reduceEqDiff, Nat.reduceAdd, reduceCtorEq, d1445, rdr, g, need_run]
section
variable {P : Program}
def NeedIs (P : Program) : Prop := ∀ f fn, fid f = some 1444 → P.funcs[f]? = some fn → lastPan (fn.body.getD .skip) = true
theorem needs (G : Good P fid tab) (N : NeedIs P) (hps : List Blk) : DiesC P fid 1444 [.bool false] hps := need_dies G (show tab 1444 = some (.fn (needD _)) from t1444) N hps
theorem snum_dies (G : Good P fid tab) (N : NeedIs P) {s : List UInt8} (hs : s.length ≤ 1000000) {i : Nat} (hi : i ≤ s.length) {most : Int} (h : ∀ n j, rdN s i = some (n, j) → most < n) : DiesC P fid 1445 [.ref 0 0, .int .i64 most] [rdr s i] := by
  refine D_fn G t1445 ?_
  have g := rdnum_run hs hi
  have hn := needs G N []
  simp only [d1445, bindParams, rdr]
  refine D_seq2 G ?_
  simp (disch := omega) only [go_sem]
  refine D_seq2 G ?_
  cases hr : rdN s i with
  | none =>
    rw [hr] at g
    simp only [rdA] at g
    simp (disch := omega) only [go_sem, ↓reduceIte, Nat.reduceEqDiff, reduceCtorEq, g]
    refine D_ghost rfl (D_seq1 (D_ops (DO_take G 6 ?_)))
    simp (disch := omega) only [go_sem, ↓reduceIte, Nat.reduceEqDiff, reduceCtorEq, keepEnv, List.take_succ_cons, List.take_zero, List.drop_succ_cons, List.drop_zero]
    exact DO_call rfl rfl rfl hn trivial
  | some r =>
    obtain ⟨n, j⟩ := r
    have := h n j hr
    rw [hr] at g
    simp only [rdA] at g
    simp (disch := omega) only [go_sem, ↓reduceIte, Nat.reduceEqDiff, reduceCtorEq, g]
    refine D_ghost rfl (D_seq1 (D_ops (DO_take G 6 ?_)))
    simp (disch := omega) only [go_sem, ↓reduceIte, Nat.reduceEqDiff, reduceCtorEq, keepEnv, List.take_succ_cons, List.take_zero, List.drop_succ_cons, List.drop_zero]
    exact DO_call rfl rfl rfl hn trivial
end
end Go.Proofs.Ytcfhocnbpplecaa
