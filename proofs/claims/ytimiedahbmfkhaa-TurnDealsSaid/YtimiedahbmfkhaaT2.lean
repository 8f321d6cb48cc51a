import Derived.Test.YtimiedahbmfkhaaT1
namespace Go.Proofs.Ytimiedahbmfkhaa
open Go.RowKit

def pickAt (n : Nat) (p : Int) : Nat := (p % (n : Int)).toNat

theorem pickAt_lt {n : Nat} (p : Int) (h : 0 < n) : pickAt n p < n := by
  unfold pickAt
  have h1 := Int.emod_nonneg p (show (n : Int) ≠ 0 by omega)
  have h2 := Int.emod_lt_of_pos p (show 0 < (n : Int) by omega)
  omega

theorem pickAt_eq {n : Nat} (p : Int) (h : 0 < n) : p % (n : Int) = (pickAt n p : Int) := by
  unfold pickAt
  have h1 := Int.emod_nonneg p (show (n : Int) ≠ 0 by omega)
  omega

/-- What 'ordered' tells: of what is left each time the one that is picked. -/
def orderedL {α : Type} (xs : List α) : List Int → List α
  | [] => xs
  | p :: ps => match xs[pickAt xs.length p]? with
    | none => []
    | some x => x :: orderedL (xs.eraseIdx (pickAt xs.length p)) ps

theorem orderedL_nil {α : Type} (ps : List Int) : orderedL ([] : List α) ps = [] := by
  cases ps <;> simp [orderedL]

theorem orderedL_cons {α : Type} (xs : List α) (p : Int) (ps : List Int) (h : pickAt xs.length p < xs.length) :
    orderedL xs (p :: ps) = xs[pickAt xs.length p] :: orderedL (xs.eraseIdx (pickAt xs.length p)) ps := by
  rw [orderedL, List.getElem?_eq_getElem h]

theorem orderedL_length {α : Type} (xs : List α) (ps : List Int) : (orderedL xs ps).length = xs.length := by
  induction ps generalizing xs with
  | nil => simp [orderedL]
  | cons p ps ih =>
    rcases Nat.eq_zero_or_pos xs.length with h | h
    · have : xs = [] := List.eq_nil_of_length_eq_zero h
      subst this
      simp [orderedL_nil]
    · have := pickAt_lt p h
      rw [orderedL_cons xs p ps this, List.length_cons, ih, List.length_eraseIdx, if_pos this]
      omega

theorem pick_nat (n : Nat) (p : Int) (i : Nat) (w : World) (h1 : 0 < n) (h2 : n ≤ 9223372036854775807) (hp : i64 p) (hi : i = pickAt n p) :
    Calls Try.prog 10 #[.int .i64 n, .int .i64 p] w fun e w' => e = .returned (.tuple #[.int .i64 i, .bool true]) ∧ w = w' := by
  subst hi
  rw [← pickAt_eq p h1]
  exact pick_pos n p w (by omega) (by omega) hp

theorem eraseIdx_map' {α β : Type} (f : α → β) (xs : List α) (i : Nat) : (xs.map f).eraseIdx i = (xs.eraseIdx i).map f := by
  rw [List.eraseIdx_eq_take_drop_succ, List.eraseIdx_eq_take_drop_succ]; simp

theorem foll_some' (A : Option Addr) (c : Nat) (xs : List Int) (w : World) (gn gp k : Nat) (hx : At w A (ints xs)) (hxl : xs.length ≤ 9223372036854775807)
    (hn : Row w gn 3 [.int .i64 k]) (hp : Row w gp 22 [.slice A xs.length c]) (hk : k < xs.length) (hsep : ∀ a, A = some a → a.block ≠ gn) :
    Calls Try.prog 31 #[.pointer (some ⟨gn, 0, none⟩), .pointer (some ⟨gp, 0, none⟩)] w fun e w' => e = .returned (.tuple #[.int .i64 xs[k], .bool true]) ∧ Row w' gn 3 [.int .i64 ((k + 1 : Nat) : Int)] ∧ w.grownBy w' (some gn) := by
  refine (foll_some A c xs w gn gp k hx hxl hn hp hk hsep).mono ?_
  rintro e w' ⟨rfl, rfl⟩
  exact ⟨rfl, hn.setCell 0 _, grownBy_setCell w gn 0 _⟩

theorem own_int {w : World} {base g n cap : Nat} {xs : List Int} (h : w.ownsRow base 3 1 (.slice (some ⟨g, 0, none⟩) n cap) n (ints xs)) {k : Nat} (hk : k < xs.length) : w.cell? ⟨g, k, none⟩ = some (.int .i64 xs[k]) := by
  obtain ⟨b, off, h1, _, h2⟩ := (At.of_own h).int hk
  injection h1 with h1
  injection h1 with h3 h4
  subst h3 h4
  rwa [Nat.zero_add] at h2

def OrdInv (N B gn gp : Nat) (PA : Option Addr) (pc : Nat) (ps xs : List Int) (w : World) (l o : Value) (wr : World) : Prop :=
  ∃ (left out : List Int) (k cap : Nat), l = .slice (some ⟨N, 0, none⟩) left.length cap ∧ cap ≤ xs.length ∧ wr.ownsRow N 3 1 (.slice (some ⟨N, 0, none⟩) left.length cap) left.length (ints left) ∧
    wr.ownsRow (N + 1) 3 1 o out.length (ints out) ∧ Row wr gn 3 [.int .i64 k] ∧ Row wr gp 22 [.slice PA ps.length pc] ∧ k ≤ ps.length ∧ out ++ orderedL left (ps.drop k) = orderedL xs ps ∧
    out.length + left.length = xs.length ∧ Below B w wr ∧ N < wr.heap.size

set_option maxHeartbeats 1000000 in
theorem ordered_int (A : Option Addr) (c : Nat) (xs : List Int) (PA : Option Addr) (pc : Nat) (ps : List Int) (gn gp B : Nat) (w : World)
    (hx : At w A (ints xs)) (hxl : xs.length ≤ 1000000) (hp : At w PA (ints ps)) (hpl : ps.length ≤ 9223372036854775807) (hpw : ∀ p ∈ ps, i64 p)
    (hgn : Row w gn 3 [.int .i64 0]) (hgp : Row w gp 22 [.slice PA ps.length pc]) (hPB : ∀ a, PA = some a → 0 < ps.length → a.block < B) (hBn : B ≤ gn) (hBp : B ≤ gp) :
    Calls Try.prog 24 #[.slice A xs.length c, .func (.func 31) #[] #[.pointer (some ⟨gn, 0, none⟩), .pointer (some ⟨gp, 0, none⟩)]] w fun e w' =>
      ∃ v', e = .returned v' ∧ w'.ownsRow w.heap.size 3 1 v' xs.length (ints (orderedL xs ps)) ∧ Below B w w' := by
  have hnl := hgn.lt
  have hpl2 := hgp.lt
  have HA : Hid (A = none → xs.length = 0) := by
    intro h
    rcases Nat.eq_zero_or_pos xs.length with h0 | h0
    · exact h0
    · obtain ⟨b, off, h1, _⟩ := hx 0 (by simpa using h0)
      rw [h] at h1
      cases h1
  go_enter Try.func24, Try.ntmps24
  go_wp2_with (first | (at_make; refine wpList_mk rfl _ _ 22 rfl 3 (.int .i64 0) 1 8 Try.underlying22 info_int xs.length rfl rfl (by omega) (by simp only [maxLen]; omega) ?_; intro w1 H1 hg1 Hs1) | (with_reducible refine wpList_cp rfl _ _ 22 rfl 3 (.int .i64 0) 1 8 Try.underlying22 info_int w.heap.size xs.length xs.length A xs.length c rfl rfl _ (ints xs) H1.out (hx.grown hg1 (by simp)) (by simp) (Nat.le_refl _) (by simp [size_madeCells]) (ints_one xs) HA.out ?_; intro w2 H2 hg2 Hs2))
  go_loopw [5, 6] (fun l o wr => OrdInv w.heap.size B gn gp PA pc ps xs w l o wr) (fun l _ _ => match l with | .slice _ n _ => n | _ => 0)
  case atStart =>
    refine ⟨xs, [], 0, xs.length, rfl, Nat.le_refl _, ?_, World.ownsRow_nil _ _ _ _, ?_, ?_, Nat.zero_le _, rfl, by simp, ?_, by rw [Hs2.out, Hs1.out]; omega⟩
    · have h := H2.out
      rw [List.drop_eq_nil_of_le (by simp [size_madeCells]), List.append_nil] at h
      have := h.own (base := w.heap.size) (size := 1) (n := xs.length) (cap := xs.length) (Nat.le_refl _) (Nat.le_refl _) (by simp only [maxLen]; omega) (by simp)
      rwa [List.take_of_length_le (by simp)] at this
    · exact (hgn.grown hg1 (by simp)).grown hg2 (by intro h; injection h with h; omega)
    · exact (hgp.grown hg1 (by simp)).grown hg2 (by intro h; injection h with h; omega)
    · exact below_of_grown ((Below.refl B w).grown hg1 (by omega) (by simp)) hg2 (by omega) (by rw [Hs1.out]; omega)
  case round =>
    obtain ⟨left, out, k, cap, rfl, hcap, hown, howo, hn, hp', hk, HE, HL, hB, hN⟩ := hrel
    have HE := Lib.hid HE
    have HL := Lib.hid HL
    have hpw' := hp.under (by simpa using hPB) hB
    by_cases h0 : 0 < left.length
    · by_cases hkl : k < ps.length
      · have hpk : i64 ps[k] := hpw _ (List.getElem_mem hkl)
        obtain ⟨i, hi⟩ : ∃ i, i = pickAt left.length ps[k] := ⟨_, rfl⟩
        have hil : i < left.length := by rw [hi]; exact pickAt_lt _ h0
        have hll : left.length ≤ 1000000 := by have := HL.out; omega
        have hol : out.length < 1000000 := by have := HL.out; omega
        have HI := Lib.hid hi
        clear hi
        go_wp2_with fail
        refine (foll_some' PA pc ps wr gn gp k hpw' hpl hn hp' hkl (fun a h => by have := hPB a h (by omega); omega)).mono ?_
        rintro e w3 ⟨rfl, hn3, hg3⟩
        have hown3 := hown.kept hg3 (.inr (by simp [Value.ownBlock]; omega))
        have howo3 := howo.kept hg3 (.inr (own_ne howo (by omega)))
        have hp3 := hp'.grown hg3 (by intro h; injection h with h; subst h; unfold Row at hn hp'; rw [hn] at hp'; simp at hp')
        have hs3 := hg3.size
        have hci := own_int hown3 hil
        have hB3 := below_of_grown hB hg3 hBn (by omega)
        go_wp2_with fail
        refine (pick_nat left.length ps[k] i w3 h0 (by omega) hpk HI.out).mono ?_
        rintro e w4 ⟨rfl, rfl⟩
        go_wp2_with (at_builtin; (refine wpList_app _ rfl (.tmp 34) (.tmp 39) 22 rfl (w.heap.size + 1) 3 (.int .i64 0) 1 8 Try.underlying22 info_int rfl (by decide) u6 out.length (ints out) rfl (howo3.alloc _) (some ⟨w3.heap.size, 0, none⟩) 1 1 [.int .i64 left[i]] rfl rfl (At.one _ _ _) (by simp [Value.oneCell']) (by simp only [maxLen]; omega) (by omega) (by simp; omega) ?_); intro v5 w5 hown5 hg5 hv5)
        have hs5 := hg5.size
        simp only [World.size_alloc] at hs5
        have hne : (u6.ownBlock : Option Nat) ≠ some w.heap.size := own_ne howo3 (by omega)
        have hownl5 := (hown3.alloc (.cells #[.int .i64 left[i]] 3)).kept hg5 (.inr (by simpa [Value.ownBlock] using hne.symm))
        have hn5 := (hn3.alloc (.cells #[.int .i64 left[i]] 3)).grown hg5 (by intro h; exact own_ne howo3 (by omega) h.symm)
        have hp5 := (hp3.alloc (.cells #[.int .i64 left[i]] 3)).grown hg5 (by intro h; exact own_ne howo3 (by omega) h.symm)
        have hB5 := (hB3.alloc (by omega) (.cells #[.int .i64 left[i]] 3)).grown hg5 (by simp; omega) (by intro g hg; have := (howo3.lt g hg).1; omega)
        refine (del_int w.heap.size i left.length cap w.heap.size (ints left) w5 (ints_one _) hownl5 hil (by omega)).mono ?_
        rintro e w6 ⟨rfl, hown6, hg6⟩
        have howo6 := hown5.kept hg6 (.inr (own_ne hown5 (by omega)))
        have hn6 := hn5.grown hg6 (by intro h; injection h with h; omega)
        have hp6 := hp5.grown hg6 (by intro h; injection h with h; omega)
        have hB6 := below_of_grown hB5 hg6 (by omega) (by omega)
        have hs6 := hg6.size
        go_wp2
        go_roundw
        case rel =>
          have hel : (left.eraseIdx i).length = left.length - 1 := by rw [List.length_eraseIdx, if_pos hil]
          refine ⟨left.eraseIdx i, out ++ [left[i]], k + 1, cap, by rw [hel], hcap, ?_, ?_, hn6, hp6, by omega, ?_, ?_, hB6, by omega⟩
          · rw [hel]
            have := hown6
            unfold ints at this ⊢
            rwa [eraseIdx_map'] at this
          · rw [ints_append]
            simpa [ints] using howo6
          · have h1 := HE.out
            rw [List.drop_eq_getElem_cons hkl, orderedL_cons left _ _ (by rw [← HI.out]; exact hil)] at h1
            simp only [← HI.out] at h1
            rw [← h1]
            simp
          · rw [hel]
            have := HL.out
            simp
            omega
        case measure =>
          simp
          omega
      · have hkk : k = ps.length := by omega
        subst hkk
        go_wp2_with fail
        refine (foll_none PA pc ps wr gn gp hpl hn hp').mono ?_
        rintro e w3 ⟨rfl, rfl⟩
        have hol : out.length + left.length ≤ 1000000 := by have := HL.out; omega
        go_wp2_with (at_builtin; (refine wpList_app _ rfl (.tmp 46) (.tmp 47) 22 rfl (w.heap.size + 1) 3 (.int .i64 0) 1 8 Try.underlying22 info_int rfl (by decide) u6 out.length (ints out) rfl howo (some ⟨w.heap.size, 0, none⟩) left.length cap (ints left) rfl (by simp) (At.of_own hown) (ints_one _) (by simp only [maxLen]; omega) (by omega) (by omega) ?_); intro v5 w5 hown5 hg5 hv5)
        go_ret
        have h1 := HE.out
        rw [List.drop_eq_nil_of_le (by omega)] at h1
        have h2 : orderedL left [] = left := by simp [orderedL]
        rw [h2] at h1
        refine ⟨_, rfl, ?_, ?_⟩
        · rw [← h1, ints_append, ← HL.out]
          exact own_mono hown5 (by omega)
        · exact hB.grown hg5 (by omega) (by intro g hg; have := (howo.lt g hg).1; omega)
    · have hl0 : left.length = 0 := by omega
      have hl1 : left = [] := List.eq_nil_of_length_eq_zero hl0
      subst hl1
      have hol : out.length ≤ 1000000 := by have := HL.out; omega
      go_wp2_with (at_builtin; (refine wpList_app _ rfl (.tmp 46) (.tmp 47) 22 rfl (w.heap.size + 1) 3 (.int .i64 0) 1 8 Try.underlying22 info_int rfl (by decide) u6 out.length (ints out) rfl howo (some ⟨w.heap.size, 0, none⟩) 0 cap [] rfl (by simp) (At.nil _ _) (by simp) (by simp only [maxLen]; omega) (by omega) (by omega) ?_); intro v5 w5 hown5 hg5 hv5)
      go_ret
      have h1 := HE.out
      rw [orderedL_nil, List.append_nil] at h1
      refine ⟨_, rfl, ?_, ?_⟩
      · rw [← h1]
        have h3 := own_mono (base' := w.heap.size) hown5 (by omega)
        have h4 := HL.out
        simp only [List.length_nil, Nat.add_zero] at h4
        rw [← h4]
        simpa using h3
      · exact hB.grown hg5 (by omega) (by intro g hg; have := (howo.lt g hg).1; omega)
end Go.Proofs.Ytimiedahbmfkhaa
