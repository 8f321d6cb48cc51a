import Derived.Test.YtcfhocnbpplecaaYd
namespace Go.Proofs.Ytcfhocnbpplecaa
set_option maxHeartbeats 4000000
set_option maxRecDepth 100000
inductive Rd (α : Type) where
  | ret (a : α)
  | num (most : Nat) (k : Nat → Rd α)
  | txt (k : List UInt8 → Rd α)
def rdL (most : Nat) (s : List UInt8) (j : Nat) : Option (Nat × Nat) := match rdN s j with
  | some (n, e) => if n ≤ most then some (n, e) else none
  | none => none
def rdT (s : List UInt8) (j : Nat) : Option (List UInt8 × Nat) := match rdN s j with
  | some (n, e) => if n ≤ 4000 ∧ n ≤ s.length - e then some ((s.drop e).take n, e + n) else none
  | none => none
def encT (t : List UInt8) : List UInt8 := encN t.length ++ t
def Rd.run {α : Type} : Rd α → List UInt8 → Nat → Option (α × Nat)
  | .ret a, _, j => some (a, j)
  | .num m k, s, j => match rdL m s j with
    | some (n, e) => (k n).run s e
    | none => none
  | .txt k, s, j => match rdT s j with
    | some (t, e) => (k t).run s e
    | none => none
inductive Gen {α : Type} : Rd α → α → List UInt8 → Prop
  | ret (a : α) : Gen (.ret a) a []
  | num {m : Nat} {k : Nat → Rd α} {n : Nat} {a : α} {b : List UInt8} : n ≤ m → n ≤ 2147483647 → Gen (k n) a b → Gen (.num m k) a (encN n ++ b)
  | txt {k : List UInt8 → Rd α} {t : List UInt8} {a : α} {b : List UInt8} : t.length ≤ 4000 → Gen (k t) a b → Gen (.txt k) a (encT t ++ b)
theorem rdL_sound {m : Nat} {s : List UInt8} {j n e : Nat} (h : rdL m s j = some (n, e)) : rdN s j = some (n, e) ∧ n ≤ m := by
  unfold rdL at h
  split at h
  · split at h
    · injection h with h
      injection h with h1 h2
      subst h1; subst h2
      exact ⟨by assumption, by assumption⟩
    · cases h
  · cases h
theorem rdL_none {m : Nat} {s : List UInt8} {j : Nat} (h : rdL m s j = none) : ∀ n e, rdN s j = some (n, e) → m < n := by
  intro n e hn
  unfold rdL at h
  rw [hn] at h
  simp only at h
  split at h
  · cases h
  · omega
theorem rdT_sound {s : List UInt8} {j : Nat} {t : List UInt8} {e : Nat} (h : rdT s j = some (t, e)) : t.length ≤ 4000 ∧ j < e ∧ e ≤ s.length ∧ s.take e = s.take j ++ encT t := by
  unfold rdT at h
  split at h
  · rename_i n e' hn
    split at h
    · rename_i hc
      injection h with h
      injection h with h1 h2
      subst h1; subst h2
      obtain ⟨g1, g2, g3, g4⟩ := rdN_sound hn
      have hl : ((s.drop e').take n).length = n := by rw [List.length_take, List.length_drop]; omega
      refine ⟨by omega, by omega, by omega, ?_⟩
      rw [List.take_add, g4, encT, hl, List.append_assoc]
    · cases h
  · cases h
theorem rdT_enc {a r t : List UInt8} (h : t.length ≤ 4000) : rdT (a ++ (encT t ++ r)) a.length = some (t, a.length + (encT t).length) := by
  unfold rdT encT
  rw [List.append_assoc, rdN_enc (by omega)]
  simp only
  have e1 : (a ++ (encN t.length ++ (t ++ r))).drop (a.length + (encN t.length).length) = t ++ r := by
    rw [← List.append_assoc, List.drop_append_of_le_length (by simp), List.drop_of_length_le (by simp)]; rfl
  rw [if_pos ⟨h, by simp; omega⟩, e1, List.take_left, List.length_append, Nat.add_assoc]
theorem gen_run {α : Type} {t : Rd α} {x : α} {b : List UInt8} (h : Gen t x b) : ∀ p r : List UInt8, t.run (p ++ (b ++ r)) p.length = some (x, p.length + b.length) := by
  induction h with
  | ret a => intro p r; rfl
  | @num m k n a b h1 h2 _ ih =>
    intro p r
    simp only [Rd.run]
    have e : rdL m (p ++ (encN n ++ b ++ r)) p.length = some (n, p.length + (encN n).length) := by
      unfold rdL
      rw [List.append_assoc, rdN_enc h2]
      simp only
      rw [if_pos h1]
    rw [e]
    simp only
    have := ih (p ++ encN n) r
    rw [List.length_append] at this
    rw [show p ++ (encN n ++ b ++ r) = p ++ encN n ++ (b ++ r) by simp, this, List.length_append, Nat.add_assoc]
  | @txt k t a b h1 _ ih =>
    intro p r
    simp only [Rd.run]
    rw [List.append_assoc, rdT_enc h1]
    simp only
    have := ih (p ++ encT t) r
    rw [List.length_append] at this
    rw [show p ++ (encT t ++ (b ++ r)) = p ++ encT t ++ (b ++ r) by simp, this, List.length_append, Nat.add_assoc]
theorem run_gen {α : Type} : ∀ {t : Rd α} {s : List UInt8} {j : Nat} {x : α} {e : Nat}, j ≤ s.length → t.run s j = some (x, e) → ∃ b, Gen t x b ∧ e ≤ s.length ∧ s.take e = s.take j ++ b
  | .ret a, s, j, x, e, hj, h => by
    simp only [Rd.run, Option.some.injEq, Prod.mk.injEq] at h
    obtain ⟨rfl, rfl⟩ := h
    exact ⟨[], .ret _, hj, by simp⟩
  | .num m k, s, j, x, e, hj, h => by
    simp only [Rd.run] at h
    split at h
    · rename_i n e' hn
      obtain ⟨g0, hm⟩ := rdL_sound hn
      obtain ⟨g1, g2, g3, g4⟩ := rdN_sound g0
      obtain ⟨b, k1, k2, k3⟩ := run_gen g2 h
      exact ⟨_, .num hm g3 k1, k2, by rw [k3, g4, List.append_assoc]⟩
    · cases h
  | .txt k, s, j, x, e, hj, h => by
    simp only [Rd.run] at h
    split at h
    · rename_i t e' hn
      obtain ⟨g1, g2, g3, g4⟩ := rdT_sound hn
      obtain ⟨b, k1, k2, k3⟩ := run_gen g3 h
      exact ⟨_, .txt g1 k1, k2, by rw [k3, g4, List.append_assoc]⟩
    · cases h
def rdC (s : List UInt8) (j : Nat) : Nat × Nat × Bool := match rdN s j with
  | some (n, e) => (n, e, false)
  | none => (0, j, true)
def rdCT (s : List UInt8) (j : Nat) : List UInt8 × Nat × Bool := match rdT s j with
  | some (t, e) => (t, e, false)
  | none => ([], j, true)
def Rd.doc {α : Type} : Rd α → List UInt8 → Nat → Bool → α × Nat × Bool
  | .ret a, _, j, bad => (a, j, bad)
  | .num _ k, s, j, bad => (k (rdC s j).1).doc s (rdC s j).2.1 (bad || (rdC s j).2.2)
  | .txt k, s, j, bad => (k (rdCT s j).1).doc s (rdCT s j).2.1 (bad || (rdCT s j).2.2)
theorem run_doc {α : Type} : ∀ {t : Rd α} {s : List UInt8} {j : Nat} {x : α} {e : Nat}, t.run s j = some (x, e) → t.doc s j false = (x, e, false)
  | .ret a, s, j, x, e, h => by
    simp only [Rd.run, Option.some.injEq, Prod.mk.injEq] at h
    obtain ⟨rfl, rfl⟩ := h
    rfl
  | .num m k, s, j, x, e, h => by
    simp only [Rd.run] at h
    split at h
    · rename_i n e' hn
      obtain ⟨g0, hm⟩ := rdL_sound hn
      simp only [Rd.doc, rdC, g0, Bool.or_false]
      exact run_doc h
    · cases h
  | .txt k, s, j, x, e, h => by
    simp only [Rd.run] at h
    split at h
    · rename_i t e' hn
      simp only [Rd.doc, rdCT, hn, Bool.or_false]
      exact run_doc h
    · cases h
def alG {α : Type} (t : Rd α) (ok : α → Bool) (s : List UInt8) : Option α := match t.run s 0 with
  | some (x, e) => if e = s.length ∧ ok x = true then some x else none
  | none => none
structure Form {α : Type} (t : Rd α) (ok : α → Bool) (enc : α → List UInt8) : Prop where
  say : ∀ x b, Gen t x b → b = enc x
  all : ∀ x, ok x = true → Gen t x (enc x)
section
variable {α : Type} {t : Rd α} {ok : α → Bool} {enc : α → List UInt8}
theorem Form.run_enc (F : Form t ok enc) {x : α} (h : ok x = true) (r : List UInt8) : t.run (enc x ++ r) 0 = some (x, (enc x).length) := by
  have := gen_run (F.all x h) [] r
  simpa using this
theorem Form.iff (F : Form t ok enc) {s : List UInt8} {x : α} : alG t ok s = some x ↔ ok x = true ∧ s = enc x := by
  unfold alG
  constructor
  · intro h
    split at h
    · rename_i y e hr
      split at h
      · rename_i hc
        injection h with h; subst h
        obtain ⟨b, h1, h2, h3⟩ := run_gen (Nat.zero_le _) hr
        rw [hc.1, List.take_length, List.take_zero, List.nil_append] at h3
        exact ⟨hc.2, by rw [h3]; exact F.say _ _ h1⟩
      · cases h
    · cases h
  · rintro ⟨h, rfl⟩
    have := F.run_enc h []
    rw [List.append_nil] at this
    rw [this]
    simp only
    rw [if_pos ⟨trivial, h⟩]
def docG (t : Rd α) (ok : α → Bool) (enc : α → List UInt8) (s : List UInt8) : Option α := if (t.doc s 0 false).2.2 = false ∧ ok (t.doc s 0 false).1 = true ∧ enc (t.doc s 0 false).1 = s then some (t.doc s 0 false).1 else none
theorem Form.doc (F : Form t ok enc) (s : List UInt8) : docG t ok enc s = alG t ok s := by
  cases h : alG t ok s with
  | some x =>
    obtain ⟨h1, h2⟩ := F.iff.1 h
    subst h2
    have := F.run_enc h1 []
    rw [List.append_nil] at this
    have := run_doc this
    unfold docG
    rw [this]
    simp only
    rw [if_pos ⟨trivial, h1, trivial⟩]
  | none =>
    unfold docG
    rw [if_neg]
    rintro ⟨_, h2, h3⟩
    have := F.iff.2 ⟨h2, h3.symm⟩
    rw [h] at this; cases this
theorem Form.pre (F : Form t ok enc) {x y : α} (hx : ok x = true) (hy : ok y = true) {r : List UInt8} (h : enc y = enc x ++ r) : y = x := by
  have h1 := F.run_enc hx r
  have h2 := F.run_enc hy []
  rw [List.append_nil, h, h1] at h2
  injection h2 with h2
  injection h2 with h2 _
  exact h2.symm
end
end Go.Proofs.Ytcfhocnbpplecaa
