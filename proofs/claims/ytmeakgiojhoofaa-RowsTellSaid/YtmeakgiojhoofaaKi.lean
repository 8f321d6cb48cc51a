/-
  Each operation does what the evaluator says (3): pieces; what makes memory, and turns it.
-/
import Derived.Test.YtmeakgiojhoofaaKh
namespace Go.Proofs.Ytmeakgiojhoofaa
open Go.RowKit

section
variable {P : Program} {fid : FuncId → Option Nat} {fr : Nat → Prop} {w0 w : World} {m : Mem} {hp hp' : List Blk} {env : List (Nat × AV)} {a : Act} {o : Oper} {v : AV} {l0 : Nat} {mk : List Mark} {fl : List Nat}

/-- The bounds of a piece: c0 is what the evaluator knows of the room. -/
theorem bounds_ok (isS : Bool) {n c c0 l k : Nat} (hnc : n ≤ c) (hc0 : c0 ≤ c) (hn0 : n ≤ c0) {lo hi mx : Option SX} {vl vh vm : Option Operand} {st : St} (hl : (vl = none ∧ lo = none) ∨ ∃ x' y', vl = some x' ∧ lo = some y' ∧ C m (st.ev y') (a.eval x'))
    (hh : (vh = none ∧ hi = none) ∨ ∃ x' y', vh = some x' ∧ hi = some y' ∧ C m (st.ev y') (a.eval x')) (hm : (vm = none ∧ mx = none) ∨ ∃ x' y', vm = some x' ∧ mx = some y' ∧ C m (st.ev y') (a.eval x')) (h : cut3 n c0 (lo.map st.ev) (hi.map st.ev) (mx.map st.ev) = some (l, k)) :
    ∃ q, (Instr.sliceBounds isS n c (vl.map a.eval) (vh.map a.eval) (vm.map a.eval)).run P w = .ok (l, k, q) w ∧ l ≤ k ∧ k ≤ q ∧ k ≤ c0 ∧ (mx = none → q = c) := by
  rcases hm with ⟨rfl, rfl⟩ | ⟨xm, ym, rfl, rfl, hm⟩
  · refine ⟨c, ?_⟩
    simp only [Option.map_none, cut3] at h ⊢
    rcases hl with ⟨rfl, rfl⟩ | ⟨xl, yl, rfl, rfl, hl⟩ <;> rcases hh with ⟨rfl, rfl⟩ | ⟨xh, yh, rfl, rfl, hh⟩
    · simp only [Option.map_none, cut, Option.some.injEq, Prod.mk.injEq] at h
      obtain ⟨rfl, rfl⟩ := h
      exact ⟨by simp [Instr.sliceBounds], Nat.zero_le _, hnc, hn0, by simp⟩
    · simp only [Option.map_none, Option.map_some] at h ⊢
      unfold cut at h
      split at h <;> simp_all
      rename_i kk hv heq
      obtain ⟨hc, rfl, rfl⟩ := h
      simp only [C] at hh
      rw [hh]
      refine ⟨?_, by omega, by omega⟩
      simp [Instr.sliceBounds, Instr.sliceBound, asIntOf, hc.1, show hv ≤ (c : Int) by omega]
    · simp only [Option.map_none, Option.map_some] at h ⊢
      unfold cut at h
      split at h <;> simp_all
      rename_i kk hv heq
      obtain ⟨hc, rfl, rfl⟩ := h
      simp only [C] at hl
      rw [hl]
      refine ⟨?_, by omega⟩
      simp [Instr.sliceBounds, Instr.sliceBound, asIntOf, hc.1, hc.2]
    · simp only [Option.map_some] at h ⊢
      unfold cut at h
      split at h <;> simp_all
      rename_i k1 l1 k2 h1 e1 e2
      obtain ⟨hc, rfl, rfl⟩ := h
      simp only [C] at hl hh
      rw [hl, hh]
      refine ⟨?_, by omega, by omega, by omega⟩
      simp [Instr.sliceBounds, Instr.sliceBound, asIntOf, show (0:Int) ≤ h1 by omega, show h1 ≤ (c : Int) by omega, hc.1, show l1 ≤ max h1 0 by omega]
  · simp only [Option.map_some, cut3] at h ⊢
    split at h
    · rename_i heq; cases heq
    · rename_i k3 mv heq
      injection heq with heq
      rw [heq] at hm
      simp only [C] at hm
      split at h
      · rename_i hc
        obtain ⟨rfl, hsome⟩ := hc
        refine ⟨n, ?_⟩
        rw [hm]
        rcases hh with ⟨rfl, rfl⟩ | ⟨xh, yh, rfl, rfl, hh⟩
        · simp at hsome
        · rcases hl with ⟨rfl, rfl⟩ | ⟨xl, yl, rfl, rfl, hl⟩
          · simp only [Option.map_none, Option.map_some] at h ⊢
            unfold cut at h
            split at h <;> simp_all
            rename_i kk hv heq'
            obtain ⟨hc, rfl, rfl⟩ := h
            simp only [C] at hh
            rw [hh]
            refine ⟨?_, by omega, by omega⟩
            simp [Instr.sliceBounds, Instr.sliceBound, asIntOf, hc.1, hc.2, show n ≤ c by omega]
          · simp only [Option.map_some] at h ⊢
            unfold cut at h
            split at h <;> simp_all
            rename_i k1 l1 k2 h1 e1 e2
            obtain ⟨hc, rfl, rfl⟩ := h
            simp only [C] at hl hh
            rw [hl, hh]
            refine ⟨?_, by omega, by omega, by omega⟩
            simp [Instr.sliceBounds, Instr.sliceBound, asIntOf, show (0:Int) ≤ h1 by omega, show h1 ≤ (n : Int) by omega, hc.1, show l1 ≤ max h1 0 by omega, show n ≤ c by omega]
      · cases h
    · cases h

theorem go_slice (hcd : m.cd = fid) {t e : TypeId} {s : Nat} {x : Operand} {x' : SX} {lo hi mx : Option Operand} {lo' hi' mx' : Option SX} (hop : o.op = .slice t x lo hi mx) (ht : P.underlying t = some (.slice e)) (hz : szOf P e = some s) (hz0 : s ≠ 0)
    (h1 : opd fid x = some x') (h2 : opdo fid lo = some lo') (h3 : opdo fid hi = some hi') (h4 : opdo fid mx = some mx')
    (hs : astep hp (St.ev ⟨env, hp, l0, mk⟩) (.slice s x' lo' hi' mx') = some (v, hp')) (H : HInv fr w0 m hp w []) (E : EnvOk m env a.tmps) : Goes P o a w fr w0 m v hp' := by
  have k1 := opd_ok (st := ⟨env, hp, l0, mk⟩) hcd h1 E
  have k2 := opdo_ok (st := ⟨env, hp, l0, mk⟩) hcd h2 E
  have k3 := opdo_ok (st := ⟨env, hp, l0, mk⟩) hcd h3 E
  have k4 := opdo_ok (st := ⟨env, hp, l0, mk⟩) hcd h4 E
  have hsz := szOf_ok hz
  have hrun : ∀ ad n c l k q, a.eval x = .slice ad n c → (Instr.sliceBounds true n c (lo.map a.eval) (hi.map a.eval) (mx.map a.eval)).run P w = .ok (l, k, q) w →
      (execOp a.eval o).run P w = .ok (.value (.slice (if q = l then ad else ad.map (·.add (l * s))) (k - l) (q - l))) w := by
    intro ad n c l k q hx hb
    simp [execOp, hop, hx, Instr.sliceAt, Instr.slice, run_underlying ht, hb, hsz]
  simp only [astep] at hs
  split at hs
  · rename_i hx
    rw [hx] at k1
    simp only [C] at k1
    split at hs
    · cases hs
    · rename_i hmx
      simp only [Option.map_eq_some_iff, Prod.mk.injEq] at hs
      obtain ⟨⟨l, k⟩, hc, rfl, rfl⟩ := hs
      obtain ⟨q, hb, h4, h5, h6, h7⟩ := bounds_ok (P := P) (w := w) true (Nat.le_refl 0) (Nat.le_refl 0) (Nat.le_refl 0) k2 k3 k4 hc
      have hq : q = 0 := h7 (by cases mx' <;> simp_all)
      have : k = 0 := by omega
      subst this
      have : l = 0 := by omega
      subst this
      subst hq
      exact goes_pure H (hrun _ _ _ _ _ _ k1 hb) (by simp [C])
  · rename_i s' cs hx
    rw [hx] at k1
    simp only [C] at k1
    obtain ⟨hok, ad, n, c, hu, g3, g4, g5, g6⟩ := k1
    split at hs
    · rename_i hss
      simp only [Option.map_eq_some_iff, Prod.mk.injEq] at hs
      obtain ⟨⟨l, k⟩, hc, rfl, rfl⟩ := hs
      have hnn : cs.length = n * s ∧ cs.length / s = n := by
        rcases hss with rfl | rfl
        · exact ⟨g3, len_div g3 g4⟩
        · have := g4 rfl
          subst this
          simp
      rw [hnn.2] at hc
      obtain ⟨q, hb, h4, h5, h6, h7⟩ := bounds_ok (P := P) (w := w) true g5 g5 (Nat.le_refl n) k2 k3 k4 hc
      refine goes_pure H (hrun _ _ _ _ _ _ hu hb) ?_
      simp only [C]
      have hlen : ((cs.drop (l * s)).take ((k - l) * s)).length = (k - l) * s := by
        simp only [List.length_take, List.length_drop, hnn.1]
        have : (k - l) * s ≤ n * s - l * s := by rw [← Nat.sub_mul]; exact Nat.mul_le_mul_right _ (by omega)
        omega
      refine ⟨all_take (all_drop hok _) _, _, _, _, rfl, hlen, fun h => ?_, by omega, ?_⟩
      · rw [h] at hlen
        simp only [List.length_nil] at hlen
        rcases Nat.mul_eq_zero.1 hlen.symm with h | h
        · exact h
        · exact absurd h hz0
      · intro hne
        have hkl : l < k := by
          rcases Nat.lt_or_ge l k with h | h
          · exact h
          · rw [show k - l = 0 by omega] at hne; simp at hne
        have hne2 : cs ≠ [] := by rintro rfl; simp at hne
        obtain ⟨b, off, rfl, hCL⟩ := g6 hne2
        refine ⟨b, off + l * s, ?_, ?_⟩
        · rw [if_neg (by omega)]; simp [addr_add]
        · have := CL_take (CL_drop hCL (l * s)) ((k - l) * s)
          simpa only [Nat.add_assoc] using this
    · cases hs
  · rename_i s' id hx
    rw [hx] at k1
    simp only [C] at k1
    obtain ⟨e', he, hu, hes⟩ := k1
    split at hs
    · rename_i hss
      subst hss
      simp only [Option.bind_eq_some_iff, Option.map_eq_some_iff, Prod.mk.injEq] at hs
      obtain ⟨cs, hcs, ⟨l, k⟩, hc, rfl, rfl⟩ := hs
      obtain ⟨e2, q', hb', he', g1, g2, g3, g4, g5⟩ := row_at H hcs
      rw [he] at he'; injection he' with he'; subst he'
      rw [hes] at g2
      rw [len_div g2 g3] at hc
      obtain ⟨q, hb, h4, h5, h6, h7⟩ := bounds_ok (P := P) (w := w) true g4 g4 (Nat.le_refl _) k2 k3 k4 hc
      refine goes_pure H (hrun _ _ _ _ _ _ hu hb) ?_
      cases hmx : mx' with
      | some y => simp [C, Value.oneCell']
      | none =>
        have hq := h7 hmx
        subst hq
        simp only [Option.isSome_none, Bool.false_eq_true, if_false, C]
        refine ⟨e', he, hes, by omega, _, _, rfl, by omega, by omega, ?_⟩
        rcases g5 with ⟨r1, r2, _⟩ | ⟨g, f, r1, r2, _⟩
        · left; omega
        · by_cases hql : e'.cap = l
          · left; omega
          · right
            exact ⟨g, r1, by rw [if_neg hql, r2]; simp [addr_add]⟩
    · cases hs
  · rename_i s' id o2 n hx
    rw [hx] at k1
    simp only [C] at k1
    obtain ⟨e', he, hes, hs0, ad, c, hu, hnc, hco, hca⟩ := k1
    split at hs
    · rename_i hss
      subst hss
      simp only [Option.bind_eq_some_iff] at hs
      obtain ⟨cs, hcs, hs⟩ := hs
      split at hs
      case isFalse => cases hs
      rename_i hn0
      simp only [Option.map_eq_some_iff, Prod.mk.injEq] at hs
      obtain ⟨⟨l, k⟩, hc, rfl, rfl⟩ := hs
      obtain ⟨e2, q', hb', he', g1, g2, g3, g4, g5⟩ := row_at H hcs
      rw [he] at he'; injection he' with he'; subst he'
      rw [hes] at g2
      rw [len_div g2 g3] at hc hn0
      have hfin : ∀ l k c0, c0 ≤ c → n ≤ c0 → cut3 n c0 (lo'.map (St.ev ⟨env, hp, l0, mk⟩)) (hi'.map (St.ev ⟨env, hp, l0, mk⟩)) (mx'.map (St.ev ⟨env, hp, l0, mk⟩)) = some (l, k) → Goes P o a w fr w0 m (if mx'.isSome = true then .any else .osl s' id (o2 + l) (k - l)) hp := by
        intro l k c0 hcc hnc0 hc
        obtain ⟨q, hb, h4, h5, h6, h7⟩ := bounds_ok (P := P) (w := w) true hnc hcc hnc0 k2 k3 k4 hc
        refine goes_pure H (hrun _ _ _ _ _ _ hu hb) ?_
        cases hmx : mx' with
        | some y => simp [C, Value.oneCell']
        | none =>
          have hq := h7 hmx
          subst hq
          simp only [Option.isSome_none, Bool.false_eq_true, if_false, C]
          refine ⟨e', he, hes, by omega, _, _, rfl, by omega, by omega, ?_⟩
          rcases hca with hc0 | ⟨g, r1, rfl⟩
          · left; omega
          · by_cases hql : q = l
            · left; omega
            · right
              exact ⟨g, r1, by rw [if_neg hql]; simp only [Option.map_some, addr_add, Nat.add_mul]⟩
      exact hfin l k _ (by omega) hn0 hc
    · cases hs
  · cases hs

theorem go_slices (hcd : m.cd = fid) {t : TypeId} {x : Operand} {x' : SX} {lo hi : Option Operand} {lo' hi' : Option SX} (hop : o.op = .slice t x lo hi none) (ht : P.underlying t = some .string)
    (h1 : opd fid x = some x') (h2 : opdo fid lo = some lo') (h3 : opdo fid hi = some hi')
    (hs : astep hp (St.ev ⟨env, hp, l0, mk⟩) (.slices x' lo' hi') = some (v, hp')) (H : HInv fr w0 m hp w []) (E : EnvOk m env a.tmps) : Goes P o a w fr w0 m v hp' := by
  have k1 := opd_ok (st := ⟨env, hp, l0, mk⟩) hcd h1 E
  have k2 := opdo_ok (st := ⟨env, hp, l0, mk⟩) hcd h2 E
  have k3 := opdo_ok (st := ⟨env, hp, l0, mk⟩) hcd h3 E
  simp only [astep] at hs
  split at hs
  · rename_i bs hx
    rw [hx] at k1
    simp only [C] at k1
    simp only [Option.map_eq_some_iff, Prod.mk.injEq] at hs
    obtain ⟨⟨l, k⟩, hc, rfl, rfl⟩ := hs
    have hbl : (ByteArray.mk bs.toArray).size = bs.length := by simp [ByteArray.size]
    obtain ⟨q, hb, h4, h5, h6, h7⟩ := bounds_ok (P := P) (w := w) (vm := none) (mx := none) false (Nat.le_refl bs.length) (Nat.le_refl _) (Nat.le_refl _) k2 k3 (.inl ⟨rfl, rfl⟩) hc
    have hq := h7 rfl
    subst hq
    have hex : (ByteArray.mk bs.toArray).extract l k = ⟨((bs.drop l).take (k - l)).toArray⟩ := by
      apply ByteArray.ext
      simp [ByteArray.data_extract, List.extract_toArray, List.extract]
    simp only [Option.map_none] at hb
    refine goes_pure H (u := .string ⟨((bs.drop l).take (k - l)).toArray⟩) ?_ (by simp [C])
    simp [execOp, hop, k1, Instr.sliceAt, Instr.slice, run_underlying ht, hbl, hb, hex]
  · cases hs
end
end Go.Proofs.Ytmeakgiojhoofaa
