import Derived.Test.YtfobdiiolebipaaKl

set_option linter.unusedVariables false
set_option maxHeartbeats 1000000

namespace Go.Proofs.Ytfobdiiolebipaa
open Lib

/-- One form only. -/
def SO.one : SO → Bool
  | .lit _ _ _ _ _ | .load _ _ _ | .store _ _ _ _ | .call _ _ _ | .callf _ _ _ => false
  | _ => true

theorem base_one {so b : SO} (h : b = so.base) (hb : b.one = true) : so = b := by
  cases so <;> simp_all [SO.base, SO.one]

section
variable {P : Program} {fid : FuncId → Option Nat} {fr : Nat → Prop} {w0 w : World} {m : Mem} {hp hp' : List Blk} {env : List (Nat × AV)} {a : Act} {o : Oper} {v : AV} {l0 : Nat} {mk : List Mark}

theorem call_op_ok (hcd : m.cd = fid) {c : Call} {so so' : SO} (hop : o.op = .call c) (hc : copCall P fid c = some so') (hb : so' = so.base) (hs : astep hp (St.ev ⟨env, hp, l0, mk⟩) so = some (v, hp')) (H : HInv fr w0 m hp w []) (E : EnvOk m env a.tmps) : Goes P o a w fr w0 m v hp' := by
  obtain ⟨callee, args, ats⟩ := c
  obtain ⟨args⟩ := args
  obtain ⟨ats⟩ := ats
  unfold copCall at hc
  split at hc
  · rename_i hcal
    simp only at hcal; subst hcal
    split at hc
    · rename_i x t hx ht
      simp only at hx ht; subst hx; subst ht
      split at hc
      · rename_i d hd
        simp only [Option.map_eq_some_iff] at hc
        obtain ⟨x', h1, rfl⟩ := hc
        have := base_one hb rfl; subst this
        exact go_lenl hcd hop hd h1 hs H E
      · rename_i hd
        simp only [Option.map_eq_some_iff] at hc
        obtain ⟨x', h1, rfl⟩ := hc
        have := base_one hb rfl; subst this
        exact go_lens hcd hop hd h1 hs H E
      · cases hc
    · cases hc
  · rename_i hcal
    simp only at hcal; subst hcal
    split at hc
    · rename_i s x t t' hx ht
      simp only at hx ht; subst hx; subst ht
      split at hc
      · rename_i htt; subst htt
        split at hc
        · rename_i e he
          simp only [Option.bind_eq_some_iff] at hc
          obtain ⟨i, hi, hc⟩ := hc
          split at hc
          · rename_i hcond
            simp only [Option.map_eq_some_iff, Option.bind_eq_some_iff] at hc
            obtain ⟨s', h1, x', h2, rfl⟩ := hc
            have := base_one hb rfl; subst this
            exact go_append hcd hop he hi hcond.1 hcond.2.1 hcond.2.2 h1 h2 hs H E
          · cases hc
        · cases hc
      · cases hc
    · cases hc
  · rename_i hcal
    simp only at hcal; subst hcal
    split at hc
    · rename_i x t hx ht
      simp only at hx ht; subst hx; subst ht
      split at hc
      · rename_i e he
        simp only [Option.bind_eq_some_iff] at hc
        obtain ⟨z, hz, hc⟩ := hc
        split at hc
        · rename_i hcond
          simp only [Option.map_eq_some_iff] at hc
          obtain ⟨x', h1, rfl⟩ := hc
          have := base_one hb rfl; subst this
          exact go_clear hcd hop he hz hcond.1 hcond.2 h1 hs H E
        · cases hc
      · cases hc
    · cases hc
  · rename_i hcal
    simp only at hcal; subst hcal
    split at hc
    · rename_i s x t t' hx ht
      simp only at hx ht; subst hx; subst ht
      split at hc
      · rename_i htt; subst htt
        split at hc
        · rename_i e he
          simp only [Option.bind_eq_some_iff] at hc
          obtain ⟨n, hn, hc⟩ := hc
          split at hc
          · rename_i hcond
            simp only [Option.map_eq_some_iff, Option.bind_eq_some_iff] at hc
            obtain ⟨s', h1, x', h2, rfl⟩ := hc
            have := base_one hb rfl; subst this
            exact go_copy hcd hop he hn hcond h1 h2 hs H E
          · cases hc
        · cases hc
      · cases hc
    · cases hc
  · rename_i hcal
    simp only at hcal; subst hcal
    split at hc
    · rename_i x y hx
      simp only at hx; subst hx
      simp only [Option.map_eq_some_iff, Option.bind_eq_some_iff] at hc
      obtain ⟨x', h1, y', h2, rfl⟩ := hc
      have := base_one hb rfl; subst this
      exact go_mm hcd (mx := true) hop h1 h2 hs H E
    · cases hc
  · rename_i hcal
    simp only at hcal; subst hcal
    split at hc
    · rename_i x y hx
      simp only at hx; subst hx
      simp only [Option.map_eq_some_iff, Option.bind_eq_some_iff] at hc
      obtain ⟨x', h1, y', h2, rfl⟩ := hc
      have := base_one hb rfl; subst this
      exact go_mm hcd (mx := false) hop h1 h2 hs H E
    · cases hc
  · simp only [Option.map_eq_some_iff, Option.bind_eq_some_iff] at hc
    obtain ⟨k, hk, as, has, rfl⟩ := hc
    cases so <;> simp [SO.base] at hb
    simp [astep] at hs
  · simp only [Option.map_eq_some_iff] at hc
    obtain ⟨as, has, rfl⟩ := hc
    cases so <;> simp [SO.base] at hb
    simp [astep] at hs
  · cases hc

theorem op_ok (hcd : m.cd = fid) {so so' : SO} (hc : cop P fid o.op = some so') (hb : so' = so.base) (hs : astep hp (St.ev ⟨env, hp, l0, mk⟩) so = some (v, hp')) (H : HInv fr w0 m hp w []) (E : EnvOk m env a.tmps) : Goes P o a w fr w0 m v hp' := by
  generalize hop : o.op = op at hc
  unfold cop at hc
  split at hc <;> try simp only [Option.map_eq_some_iff, Option.bind_eq_some_iff] at hc
  · obtain ⟨y, hy, rfl⟩ := hc; have := base_one hb rfl; subst this; exact go_move hcd (.inl hop) hy hs H E
  · obtain ⟨y, hy, rfl⟩ := hc; have := base_one hb rfl; subst this; exact go_move hcd (.inr hop) hy hs H E
  · obtain ⟨c', h1, a', h2, b', h3, rfl⟩ := hc; have := base_one hb rfl; subst this; exact go_pick hcd hop h1 h2 h3 hs H E
  · obtain ⟨z, hz, rfl⟩ := hc; have := base_one hb rfl; subst this; exact go_alloc hcd hop hz hs H
  · obtain ⟨n, hn, x', hx, rfl⟩ := hc; have := base_one hb rfl; subst this; exact go_box hcd hop hx hs H E
  · split at hc
    · rename_i fs hfs
      split at hc
      · rename_i hall
        simp only [Option.map_eq_some_iff, Option.bind_eq_some_iff] at hc
        obtain ⟨z, hz, qs, hqs, rfl⟩ := hc
        have := base_one hb rfl; subst this
        exact go_build hcd hop hz hqs (build_struct hfs hall) hs H E
      · cases hc
    · rename_i n e hfs
      simp only [Option.map_eq_some_iff, Option.bind_eq_some_iff] at hc
      obtain ⟨s, hs', z, hz, qs, hqs, rfl⟩ := hc
      have := base_one hb rfl; subst this
      exact go_build hcd hop hz hqs (build_array hfs hs') hs H E
    · cases hc
  · split at hc
    · rename_i e he
      simp only [Option.bind_eq_some_iff] at hc
      obtain ⟨s, hs', z, hz, hc⟩ := hc
      split at hc
      · rename_i hh
        simp only [Option.map_eq_some_iff] at hc
        obtain ⟨qs, hqs, rfl⟩ := hc
        cases so <;> simp only [SO.base, reduceCtorEq, SO.lit.injEq, true_and] at hb
        obtain ⟨rfl, rfl, rfl, rfl⟩ := hb
        exact go_lit hcd hop he hs' hz hh.1 hh.2.1 hh.2.2 hqs hs H E
      · cases hc
    · cases hc
  · obtain ⟨n, hn, x', hx, rfl⟩ := hc
    cases so <;> simp only [SO.base, reduceCtorEq, SO.load.injEq, true_and] at hb
    obtain ⟨rfl, rfl⟩ := hb
    exact go_load hcd hop hn hx hs H E
  · obtain ⟨n, hn, x', hx, v', hv, rfl⟩ := hc
    cases so <;> simp only [SO.base, reduceCtorEq, SO.store.injEq, true_and] at hb
    obtain ⟨rfl, rfl, rfl⟩ := hb
    exact go_store hcd hop hn hx hv hs H E
  · obtain ⟨x', hx, rfl⟩ := hc; have := base_one hb rfl; subst this; exact go_nilCheck hcd hop hx hs H E
  · split at hc
    · rename_i e he
      split at hc
      · rename_i hnil
        split at hc
        · simp only [Option.map_eq_some_iff] at hc
          obtain ⟨x', hx, rfl⟩ := hc
          have := base_one hb rfl; subst this
          exact go_isnil hcd hop he hnil (.inl ⟨rfl, rfl⟩) hx hs H E
        · simp only [Option.map_eq_some_iff] at hc
          obtain ⟨x', hx, rfl⟩ := hc
          have := base_one hb rfl; subst this
          exact go_isnil hcd hop he hnil (.inr ⟨rfl, rfl⟩) hx hs H E
        · cases hc
      · cases hc
    · simp only [Option.map_eq_some_iff, Option.bind_eq_some_iff] at hc
      obtain ⟨tc, htc, x', hx, y', hy, rfl⟩ := hc
      have := base_one hb rfl; subst this
      exact go_bin hcd hop htc hx hy hs H E
  · obtain ⟨x', hx, rfl⟩ := hc; have := base_one hb rfl; subst this; exact go_un hcd hop hx hs H E
  · split at hc
    · rename_i k1 k2 h1 h2
      simp only [Option.map_eq_some_iff] at hc
      obtain ⟨x', hx, rfl⟩ := hc; have := base_one hb rfl; subst this; exact go_conv hcd hop h1 h2 hx hs H E
    · rename_i h1 h2
      simp only [Option.map_eq_some_iff] at hc
      obtain ⟨x', hx, rfl⟩ := hc; have := base_one hb rfl; subst this; exact go_same hcd hop h1 h2 hx hs H E
    · cases hc
  · obtain ⟨k, hk, fs', hfs, cs', hcs, rfl⟩ := hc; have := base_one hb rfl; subst this; exact go_fn hcd hop hk hfs hcs hs H E
  · obtain ⟨fd, hf, s, hs', hc⟩ := hc
    split at hc
    · cases hc
    · rename_i h0
      simp only [Option.map_eq_some_iff] at hc
      obtain ⟨x', hx, rfl⟩ := hc; have := base_one hb rfl; subst this; exact go_fieldAddr hcd hop hf hs' h0 hx hs H E
  · obtain ⟨fd, hf, n, hn, x', hx, rfl⟩ := hc; have := base_one hb rfl; subst this; exact go_field hcd hop hf hn hx hs H E
  · split at hc
    · rename_i e he
      simp only [Option.bind_eq_some_iff] at hc
      obtain ⟨s, hs', hc⟩ := hc
      split at hc
      · cases hc
      · rename_i h0
        simp only [Option.map_eq_some_iff, Option.bind_eq_some_iff] at hc
        obtain ⟨x', hx, i', hi, rfl⟩ := hc; have := base_one hb rfl; subst this; exact go_indexAddr hcd hop he hs' h0 hx hi hs H E
    · rename_i n e he
      simp only [Option.map_eq_some_iff, Option.bind_eq_some_iff] at hc
      obtain ⟨s, hs', x', hx, i', hi, rfl⟩ := hc; have := base_one hb rfl; subst this; exact go_indexArr hcd hop he hs' hx hi hs H E
    · cases hc
  · split at hc
    · rename_i he
      simp only [Option.map_eq_some_iff, Option.bind_eq_some_iff] at hc
      obtain ⟨x', hx, i', hi, rfl⟩ := hc; have := base_one hb rfl; subst this; exact go_index hcd hop he hx hi hs H E
    · cases hc
  · split at hc
    · rename_i e he
      simp only [Option.bind_eq_some_iff] at hc
      obtain ⟨s, hs', hc⟩ := hc
      split at hc
      · cases hc
      · rename_i h0
        simp only [Option.map_eq_some_iff, Option.bind_eq_some_iff] at hc
        obtain ⟨x', hx, lo', hlo, hi', hhi, mx', hmx, rfl⟩ := hc; have := base_one hb rfl; subst this; exact go_slice hcd hop he hs' h0 hx hlo hhi hmx hs H E
    · rename_i he
      split at hc
      · cases hc
      · rename_i hmx
        simp only [Option.map_eq_some_iff, Option.bind_eq_some_iff] at hc
        obtain ⟨x', hx, lo', hlo, hi', hhi, rfl⟩ := hc
        have := base_one hb rfl; subst this
        have hmn := Option.not_isSome_iff_eq_none.1 hmx
        subst hmn
        exact go_slices hcd hop he hx hlo hhi hs H E
    · cases hc
  · obtain ⟨x', hx, rfl⟩ := hc; have := base_one hb rfl; subst this; exact go_extract hcd hop hx hs H E
  · rename_i t l c
    split at hc
    · rename_i hlc
      subst hlc
      split at hc
      · rename_i e he
        simp only [Option.bind_eq_some_iff] at hc
        obtain ⟨i, hi, z, hz, hc⟩ := hc
        split at hc
        · rename_i hcond
          injection hc with hc; subst hc
          have := base_one hb rfl; subst this
          exact go_make hcd hop he hi hz hcond.1 hcond.2.1 hcond.2.2 hs H E
        · cases hc
      · cases hc
    · cases hc
  · exact call_op_ok hcd hop hc hb hs H E
  · cases hc
end
end Go.Proofs.Ytfobdiiolebipaa
