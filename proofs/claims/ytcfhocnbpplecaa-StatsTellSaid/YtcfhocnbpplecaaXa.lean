import Derived.Test.YtcfhocnbpplecaaRp
import Derived.Test.YtcfhocnbpplecaaXb
namespace Go.Proofs.Ytcfhocnbpplecaa
set_option maxHeartbeats 4000000
set_option maxRecDepth 100000
def encI (l : List Int) : List UInt8 := l.flatMap fun x => encN x.toNat
def tHits {α : Type} : Nat → List Hit → (List Hit → Rd α) → Rd α
  | 0, acc, k => k acc
  | n + 1, acc, k => .num 200 fun v => .num 200 fun d => tHits n (acc ++ [⟨v, d⟩]) k
def encH (l : List Hit) : List UInt8 := l.flatMap fun h => encI [h.v, h.d]
theorem encI_cons (a : Int) (l : List Int) : encI (a :: l) = encN a.toNat ++ encI l := by simp [encI]
theorem encI_nil : encI [] = [] := rfl
theorem encH_cons (h : Hit) (l : List Hit) : encH (h :: l) = encN h.v.toNat ++ (encN h.d.toNat ++ encH l) := by simp [encH, encI]
theorem gen_hits {α : Type} {k : List Hit → Rd α} {x : α} : ∀ {n : Nat} {acc : List Hit} {b : List UInt8}, Gen (tHits n acc k) x b → ∃ l b', l.length = n ∧ b = encH l ++ b' ∧ Gen (k (acc ++ l)) x b'
  | 0, acc, b, h => ⟨[], b, rfl, rfl, by simpa [tHits] using h⟩
  | n + 1, acc, b, h => by
    simp only [tHits] at h
    cases h with
    | @num _ _ v _ _ h1 h2 h =>
      cases h with
      | @num _ _ d _ _ h3 h4 h =>
        obtain ⟨l, b', k1, k2, k3⟩ := gen_hits h
        refine ⟨⟨v, d⟩ :: l, b', by simp [k1], ?_, by rw [List.append_assoc] at k3; exact k3⟩
        rw [encH_cons, k2]
        simp
theorem hits_gen {α : Type} {k : List Hit → Rd α} {x : α} : ∀ {l acc : List Hit} {b : List UInt8}, (∀ h ∈ l, 0 ≤ h.v ∧ h.v ≤ 200 ∧ 0 ≤ h.d ∧ h.d ≤ 200) → Gen (k (acc ++ l)) x b → Gen (tHits l.length acc k) x (encH l ++ b)
  | [], acc, b, _, h => by simpa [tHits, encH] using h
  | ⟨v, d⟩ :: l, acc, b, hh, h => by
    obtain ⟨h1, h2, h3, h4⟩ := hh ⟨v, d⟩ (by simp)
    simp only at h1 h2 h3 h4
    obtain ⟨v, rfl⟩ : ∃ n : Nat, v = n := ⟨v.toNat, by omega⟩
    obtain ⟨d, rfl⟩ : ∃ n : Nat, d = n := ⟨d.toNat, by omega⟩
    have := hits_gen (k := k) (x := x) (l := l) (acc := acc ++ [⟨v, d⟩]) (b := b) (fun h hm => hh h (by simp [hm])) (by rw [List.append_assoc]; exact h)
    rw [encH_cons, List.append_assoc, List.append_assoc]
    simp only [Int.toNat_natCast, List.length_cons, tHits]
    exact Gen.num (n := v) (by omega) (by omega) (Gen.num (n := d) (by omega) (by omega) this)
def okH (h : Hit) : Prop := 0 ≤ h.v ∧ h.v < 200 ∧ 0 ≤ h.d ∧ h.d ≤ 200
instance : DecidablePred okH := fun h => by unfold okH; infer_instance
def RepOk (r : Rep) : Prop := (0 ≤ r.id ∧ r.id ≤ 2147483647) ∧ (0 ≤ r.code ∧ r.code ≤ 1000) ∧ (0 ≤ r.d ∧ r.d ≤ 400) ∧ r.hits.length ≤ 100 ∧ (r.code = 0 ∨ r.found = false) ∧ (r.found = true ∨ r.d = 0 ∧ r.hits.length = 0) ∧ (r.d = 0 ∨ r.hits.length = 0) ∧ ∀ h ∈ r.hits, okH h
instance : DecidablePred RepOk := fun r => by unfold RepOk; infer_instance
def okR (r : Rep) : Bool := decide (RepOk r)
theorem okR_no {r : Rep} (h : RepOk r → False) : okR r = false := decide_eq_false h
theorem okR_yes {r : Rep} (h : RepOk r) : okR r = true := decide_eq_true h
def fN (b : Bool) : Nat := if b then 1 else 0
def encR (r : Rep) : List UInt8 := encI [r.id, r.code] ++ if r.code = 0 then encI [(fN r.found : Nat), r.d, r.hits.length] ++ encH r.hits else []
def tRep : Rd Rep := .num 2147483647 fun id => .num 1000 fun code => if code = 0 then .num 1 fun f => .num 400 fun d => .num 100 fun n => tHits (min n 101) [] fun l => .ret ⟨id, code, decide (f = 1), d, l⟩ else .ret ⟨id, code, false, 0, []⟩
theorem formR : Form tRep okR encR := by
  constructor
  · intro x b h
    unfold tRep at h
    cases h with
    | @num _ _ id _ _ h1 h2 h =>
      cases h with
      | @num _ _ code _ _ h3 h4 h =>
        dsimp only at h
        split at h
        · rename_i hc
          subst hc
          cases h with
          | @num _ _ f _ _ h5 h6 h =>
            cases h with
            | @num _ _ d _ _ h7 h8 h =>
              cases h with
              | @num _ _ n _ _ h9 h10 h =>
                obtain ⟨l, b', k1, rfl, k3⟩ := gen_hits h
                cases k3
                have hn : n = l.length := by omega
                subst hn
                have hf : fN (decide (f = 1)) = f := by
                  unfold fN
                  by_cases hf : f = 1
                  · subst hf; rfl
                  · rw [decide_eq_false hf, if_neg (by simp)]; omega
                simp [encR, encI, hf]
        · rename_i hc
          cases h
          simp only [encR]
          rw [if_neg (by omega)]
          simp [encI]
  · intro x h
    obtain ⟨id, code, found, d, hits⟩ := x
    have h := of_decide_eq_true h
    obtain ⟨h1, h2, h3, h4, h5, h6, h7, h8⟩ := h
    simp only at h1 h2 h3 h4 h5 h6 h7 h8
    obtain ⟨id, rfl⟩ : ∃ n : Nat, id = n := ⟨id.toNat, by omega⟩
    obtain ⟨code, rfl⟩ : ∃ n : Nat, code = n := ⟨code.toNat, by omega⟩
    obtain ⟨d, rfl⟩ : ∃ n : Nat, d = n := ⟨d.toNat, by omega⟩
    unfold tRep encR
    simp only [encI_cons, encI_nil, List.append_nil, Int.toNat_natCast, List.append_assoc]
    refine .num (by omega) (by omega) (.num (by omega) (by omega) ?_)
    by_cases hc : code = 0
    · subst hc
      rw [if_pos rfl, if_pos (show ((0 : Nat) : Int) = 0 from rfl)]
      have hf : fN found ≤ 1 := by unfold fN; split <;> omega
      refine .num hf (by omega) (.num (by omega) (by omega) (.num h4 (by omega) ?_))
      have e : decide (fN found = 1) = found := by cases found <;> rfl
      simp only [e]
      rw [show min hits.length 101 = hits.length by omega]
      have := hits_gen (α := Rep) (k := fun l => .ret ⟨id, (0 : Nat), found, d, l⟩) (x := ⟨id, (0 : Nat), found, d, hits⟩) (l := hits) (acc := []) (b := []) (fun h hm => by have := h8 h hm; unfold okH at this; omega) (.ret _)
      rwa [List.append_nil] at this
    · rw [if_neg hc, if_neg (by omega)]
      have hf : found = false := by
        rcases h5 with h | h
        · omega
        · exact h
      subst hf
      rcases h6 with h | ⟨h, h'⟩
      · cases h
      · have : d = 0 := by omega
        subst this
        have := List.length_eq_zero_iff.1 h'
        subst this
        exact .ret _
end Go.Proofs.Ytcfhocnbpplecaa
