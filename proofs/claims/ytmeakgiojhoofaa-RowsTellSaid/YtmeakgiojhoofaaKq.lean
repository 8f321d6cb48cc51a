/-
  A region whose order is open (1): what an operation looks at.
-/
import Derived.Test.YtmeakgiojhoofaaKp
namespace Go.Proofs.Ytmeakgiojhoofaa
open Go.RowKit

theorem mem_addAll : ∀ (xs acc : List Nat) (y : Nat), y ∈ addAll xs acc → y ∈ xs ∨ y ∈ acc
  | [], _, _, h => .inr h
  | x :: xs, acc, y, h => by
    rcases mem_addAll xs _ y h with h | h
    · exact .inl (by simp [h])
    · split at h
      · exact .inr h
      · rcases List.mem_cons.1 h with h | h
        · exact .inl (by simp [h])
        · exact .inr h

theorem ancs_ok {ops : Array Oper} {L : Nat → Prop} (hL : ∀ j o, L j → ops[j]? = some o → ∀ e ∈ ons o, L e) :
    ∀ (l : List Oper) (acc : List (List Nat)), (∀ k, l[k]? = ops[acc.length + k]?) → (∀ (j : Nat) o, j < acc.length → ops[j]? = some o → (∀ e ∈ ons o, L e) → ∀ i ∈ acc.getD j [], L i) →
      ∀ (j : Nat) o, ops[j]? = some o → j < acc.length + l.length → (∀ e ∈ ons o, L e) → ∀ i ∈ (ancs l acc).getD j [], L i
  | [], acc, _, hacc, j, o, ho, hj, he, i, hi => hacc j o (by simpa using hj) ho he i (by simpa [ancs] using hi)
  | q :: l, acc, hl, hacc, j, o, ho, hj, he, i, hi => by
    refine ancs_ok hL l (acc ++ [addAll ((ons q).flatMap fun e => acc.getD e []) (ons q)]) ?_ ?_ j o ho (by simp at hj ⊢; omega) he i (by simpa [ancs] using hi)
    · intro k
      have := hl (k + 1)
      simp at this ⊢
      rw [this]
      congr 1
      omega
    · intro j' o' hj' ho' he' i' hi'
      by_cases hlt : j' < acc.length
      · rw [List.getD_eq_getElem?_getD, List.getElem?_append_left hlt, ← List.getD_eq_getElem?_getD] at hi'
        exact hacc j' o' hlt ho' he' i' hi'
      · have hje : j' = acc.length := by simp at hj'; omega
        subst hje
        rw [List.getD_eq_getElem?_getD, List.getElem?_append_right (Nat.le_refl _), Nat.sub_self, List.getElem?_cons_zero, Option.getD_some] at hi'
        have hq : o' = q := by
          have := hl 0
          simp at this
          rw [ho'] at this
          injection this with this; exact this.symm
        subst hq
        rcases mem_addAll _ _ _ hi' with h | h
        · simp only [List.mem_flatMap] at h
          obtain ⟨e, h1, h2⟩ := h
          have hLe := he' e h1
          by_cases hel : e < acc.length
          · obtain ⟨oe, hoe⟩ : ∃ oe, ops[e]? = some oe := by
              have : acc.length < ops.size := (Array.getElem?_eq_some_iff.1 ho').1
              exact ⟨ops[e], Array.getElem?_eq_getElem (by omega)⟩
            exact hacc e oe hel hoe (hL e oe hLe hoe) i' h2
          · rw [List.getD_eq_getElem?_getD, List.getElem?_eq_none (by omega)] at h2
            simp at h2
        · exact he' _ h

section
variable {P : Program} {fid : FuncId → Option Nat}

theorem ev_same {env env' : List (Nat × AV)} {hp hp' : List Blk} {lo lo' : Nat} {mk mk' : List Mark} : ∀ (x : SX), (∀ t ∈ x.tmps, lk env' t = lk env t) → St.ev ⟨env', hp', lo', mk'⟩ x = St.ev ⟨env, hp, lo, mk⟩ x
  | .tmp t, h => h t (by simp [SX.tmps])
  | .val v, _ => rfl

theorem xo_same {env env' : List (Nat × AV)} {hp hp' : List Blk} {lo lo' : Nat} {mk mk' : List Mark} : ∀ (x : Option SX), (∀ t ∈ xo x, lk env' t = lk env t) → x.map (St.ev ⟨env', hp', lo', mk'⟩) = x.map (St.ev ⟨env, hp, lo, mk⟩)
  | none, _ => rfl
  | some x, h => by simp only [Option.map_some]; rw [ev_same x h]

theorem xas_same {env env' : List (Nat × AV)} {hp hp' : List Blk} {lo lo' : Nat} {mk mk' : List Mark} : ∀ (l : List SX), (∀ t ∈ xas l, lk env' t = lk env t) → l.map (St.ev ⟨env', hp', lo', mk'⟩) = l.map (St.ev ⟨env, hp, lo, mk⟩)
  | [], _ => rfl
  | x :: l, h => by
    simp only [List.map_cons]
    rw [ev_same x (fun t ht => h t (by simp [xas, ht])), xas_same l (fun t ht => h t (by simp [xas, ht]))]

theorem parts_same {env env' : List (Nat × AV)} {hp hp' : List Blk} {lo lo' : Nat} {mk mk' : List Mark} : ∀ (l : List (Nat × Nat × SX)) (cs : List AV), (∀ t ∈ xps l, lk env' t = lk env t) → parts (St.ev ⟨env', hp', lo', mk'⟩) l cs = parts (St.ev ⟨env, hp, lo, mk⟩) l cs
  | [], _, _ => rfl
  | (o, s, x) :: l, cs, h => by
    simp only [parts]
    rw [ev_same x (hp := hp) (lo := lo) (mk := mk) (fun t ht => h t (by simp [xps, ht]))]
    split
    · exact parts_same l _ (fun t ht => h t (by simp [xps, ht]))
    · rfl

theorem astep_same {env env' : List (Nat × AV)} {hp hp1 hp2 : List Blk} {lo lo' : Nat} {mk mk' : List Mark} (so : SO) (h : ∀ t ∈ so.tmps, lk env' t = lk env t) : astep hp (St.ev ⟨env', hp1, lo', mk'⟩) so = astep hp (St.ev ⟨env, hp2, lo, mk⟩) so := by
  have e := fun x hx => ev_same (env := env) (env' := env') (hp := hp2) (hp' := hp1) (lo := lo) (lo' := lo') (mk := mk) (mk' := mk') x hx
  cases so <;> simp only [SO.tmps, List.mem_append] at h <;> simp only [astep]
  case move x => rw [e x h]
  case pick c a b => rw [e c (fun t ht => h t (.inl ht)), e a (fun t ht => h t (.inr (.inl ht))), e b (fun t ht => h t (.inr (.inr ht)))]
  case box n x => rw [e x h]
  case build z ps => rw [parts_same ps z h]
  case lit m z sz len ps => rw [parts_same ps _ h]
  case load u n x => rw [e x h]
  case store mv n x v => rw [e x (fun t ht => h t (.inl ht)), e v (fun t ht => h t (.inr ht))]
  case nilCheck x => rw [e x h]
  case bin tc op x y => rw [e x (fun t ht => h t (.inl ht)), e y (fun t ht => h t (.inr ht))]
  case isnil g x => rw [e x h]
  case un op x => rw [e x h]
  case conv k x => rw [e x h]
  case same x => rw [e x h]
  case fieldAddr o x => rw [e x h]
  case field n o x => rw [e x h]
  case indexAddr sz x i => rw [e x (fun t ht => h t (.inl ht)), e i (fun t ht => h t (.inr ht))]
  case indexArr len sz x i => rw [e x (fun t ht => h t (.inl ht)), e i (fun t ht => h t (.inr ht))]
  case indexV q len sz x i => rw [e x (fun t ht => h t (.inl ht)), e i (fun t ht => h t (.inr ht))]
  case index x i => rw [e x (fun t ht => h t (.inl ht)), e i (fun t ht => h t (.inr ht))]
  case slice sz x lo hi mx => rw [e x (fun t ht => h t (.inl ht)), xo_same lo (fun t ht => h t (.inr (.inl ht))), xo_same hi (fun t ht => h t (.inr (.inr (.inl ht)))), xo_same mx (fun t ht => h t (.inr (.inr (.inr ht))))]
  case slices x lo hi => rw [e x (fun t ht => h t (.inl ht)), xo_same lo (fun t ht => h t (.inr (.inl ht))), xo_same hi (fun t ht => h t (.inr (.inr ht)))]
  case extract i x => rw [e x h]
  case len s x => rw [e x h]
  case append sz b s x => rw [e s (fun t ht => h t (.inl ht)), e x (fun t ht => h t (.inr ht))]
  case make z b n => rw [e n h]
  case clear z x => rw [e x h]
  case copy sz s x => rw [e s (fun t ht => h t (.inl ht)), e x (fun t ht => h t (.inr ht))]
  case mm b x y => rw [e x (fun t ht => h t (.inl ht)), e y (fun t ht => h t (.inr ht))]
  case fn f fs cs => rw [xas_same fs (fun t ht => h t (.inl ht)), xas_same cs (fun t ht => h t (.inr ht))]

theorem callee_same {env env' : List (Nat × AV)} {hp hp' : List Blk} {lo lo' : Nat} {mk mk' : List Mark} (so : SO) (h : ∀ t ∈ so.tmps, lk env' t = lk env t) : so.callee (St.ev ⟨env', hp', lo', mk'⟩) = so.callee (St.ev ⟨env, hp, lo, mk⟩) := by
  cases so <;> simp only [SO.tmps, List.mem_append] at h <;> simp only [SO.callee]
  case call md k as => rw [xas_same as h]
  case callf md x as => rw [ev_same x (fun t ht => h t (.inl ht)), xas_same as (fun t ht => h t (.inr ht))]

theorem wanted_same {env env' : List (Nat × AV)} {o : SOp} (h : ∀ t ∈ o.looks, lk env' t = lk env t) : wanted env' o.guard = wanted env o.guard := by
  cases hg : o.guard with
  | none => rfl
  | some p =>
    obtain ⟨t, b⟩ := p
    simp only [wanted]
    rw [h t (by simp [SOp.looks, hg])]

/-- The blocks that an operation reads. -/
def SO.reads (ev : SX → AV) : SO → List Nat
  | .load _ _ x | .len _ x | .isnil _ x | .indexAddr _ x _ | .slice _ x _ _ _ => (ev x).ids
  | .call _ _ as => idsL (as.map ev)
  | .callf _ x as => (ev x).ids ++ idsL (as.map ev)
  | _ => []

theorem rowc_on {hp hp2 : List Blk} {id : Nat} {cs : List AV} (h : rowc hp id = some cs) (hA : ∀ b, hp[id]? = some b → hp2[id]? = some b) : rowc hp2 id = some cs := by
  simp only [rowc, Option.bind_eq_some_iff] at h ⊢
  obtain ⟨b, h1, h2⟩ := h
  exact ⟨b, hA b h1, h2⟩

mutual
theorem fz_on {hp hp2 : List Blk} : ∀ x y, (∀ id ∈ x.ids, ∀ b, hp[id]? = some b → hp2[id]? = some b) → fz hp x = some y → fz hp2 x = some y
  | .own sz id, y, hA, h => by
    simp only [fz, Option.bind_eq_some_iff] at h ⊢
    obtain ⟨cs, h1, h2⟩ := h
    exact ⟨cs, rowc_on h1 (hA id (by simp [AV.ids])), h2⟩
  | .osl sz id o n, y, hA, h => by
    simp only [fz, Option.bind_eq_some_iff] at h ⊢
    obtain ⟨cs, h1, h2⟩ := h
    exact ⟨cs, rowc_on h1 (hA id (by simp [AV.ids])), h2⟩
  | .ref id off, y, hA, h => by
    simp only [fz, Option.bind_eq_some_iff] at h ⊢
    obtain ⟨cs, h1, h2⟩ := h
    exact ⟨cs, rowc_on h1 (hA id (by simp [AV.ids])), h2⟩
  | .agg cs, y, hA, h => by
    simp only [fz, Option.map_eq_some_iff] at h ⊢
    obtain ⟨q, h1, h2⟩ := h
    exact ⟨q, fzL_on cs q (by simpa only [AV.ids] using hA) h1, h2⟩
  | .tup cs, y, hA, h => by
    simp only [fz, Option.map_eq_some_iff] at h ⊢
    obtain ⟨q, h1, h2⟩ := h
    exact ⟨q, fzL_on cs q (by simpa only [AV.ids] using hA) h1, h2⟩
  | .clo f fs cs, y, hA, h => by
    simp only [fz, Option.bind_eq_some_iff, Option.map_eq_some_iff] at h ⊢
    obtain ⟨q, h1, r, h2, h3⟩ := h
    exact ⟨q, fzL_on fs q (fun i hi => hA i (by simp [AV.ids, hi])) h1, r, fzL_on cs r (fun i hi => hA i (by simp [AV.ids, hi])) h2, h3⟩
  | .ifc t x, y, hA, h => by
    simp only [fz, Option.map_eq_some_iff] at h ⊢
    obtain ⟨q, h1, h2⟩ := h
    exact ⟨q, fz_on x q (by simpa only [AV.ids] using hA) h1, h2⟩
  | .nils, y, _, h | .sl _ _, y, _, h | .ip _, y, _, h | .unk, y, _, h | .mref _, y, _, h | .yld _, y, _, h | .vec _ _, y, _, h | .box _, y, _, h | .mp _ _, y, _, h
  | .any, y, _, h | .maybe _ _, y, _, h | .bool _, y, _, h | .int _ _, y, _, h | .str _, y, _, h | .nilp, y, _, h | .nilf, y, _, h | .nili, y, _, h | .nilm, y, _, h => by simpa only [fz] using h
theorem fzL_on {hp hp2 : List Blk} : ∀ xs ys, (∀ id ∈ idsL xs, ∀ b, hp[id]? = some b → hp2[id]? = some b) → fzL hp xs = some ys → fzL hp2 xs = some ys
  | [], _, _, h => by simpa only [fzL] using h
  | x :: xs, ys, hA, h => by
    simp only [fzL, Option.bind_eq_some_iff, Option.map_eq_some_iff] at h ⊢
    obtain ⟨y, h1, q, h2, h3⟩ := h
    exact ⟨y, fz_on x y (fun i hi => hA i (by simp [idsL, hi])) h1, q, fzL_on xs q (fun i hi => hA i (by simp [idsL, hi])) h2, h3⟩
end

mutual
theorem C_ids {m : Mem} : ∀ (x : AV) (u : Value), C m x u → ∀ id ∈ x.ids, id < m.bl.length
  | .own _ _, u, h | .osl _ _ _ _, u, h | .ref _ _, u, h | .mref _, u, h | .yld _, u, h => by
    intro i hi
    simp [AV.ids] at hi
    subst hi
    simp only [C] at h
    obtain ⟨e, he, _⟩ := h
    exact (List.getElem?_eq_some_iff.1 he).1
  | .agg cs, u, h => by
    simp only [C] at h
    obtain ⟨_, vs, _, _, h⟩ := h
    simpa only [AV.ids] using CL_ids cs _ h
  | .tup cs, u, h => by
    simp only [C] at h
    obtain ⟨vs, _, _, h⟩ := h
    simpa only [AV.ids] using CL_ids cs _ h
  | .sl _ cs, u, h => by
    simp only [C] at h
    obtain ⟨_, a, n, c, _, _, _, _, h⟩ := h
    by_cases hc : cs = []
    · subst hc; simp [AV.ids, idsL]
    · obtain ⟨b, o, _, h⟩ := h hc
      simpa only [AV.ids] using CL_ids cs _ h
  | .ip cs, u, h => by
    simp only [C] at h
    obtain ⟨_, b, o, _, h⟩ := h
    simpa only [AV.ids] using CL_ids cs _ h
  | .clo _ a b, u, h => by
    simp only [C] at h
    obtain ⟨_, _, _, _, _, _, _, h1, h2⟩ := h
    intro i hi
    simp only [AV.ids, List.mem_append] at hi
    rcases hi with hi | hi
    · exact CL_ids a _ h1 i hi
    · exact CL_ids b _ h2 i hi
  | .ifc t x, u, h => by
    simp only [C] at h
    obtain ⟨v, _, h⟩ := h
    simpa only [AV.ids] using C_ids x v h
  | .vec _ _, u, h | .box _, u, h | .mp _ _, u, h => by simp only [C] at h
  | .unk, _, _ | .any, _, _ | .maybe _ _, _, _ | .bool _, _, _ | .int _ _, _, _ | .str _, _, _ | .nils, _, _ | .nilp, _, _ | .nilf, _, _ | .nili, _, _ | .nilm, _, _ => by simp [AV.ids]
theorem CL_ids {m : Mem} : ∀ (xs : List AV) (g : Nat → Option Value), CL m xs g → ∀ id ∈ idsL xs, id < m.bl.length
  | [], _, _ => by simp [idsL]
  | x :: xs, g, h => by
    simp only [CL] at h
    obtain ⟨⟨u, _, hu⟩, h⟩ := h
    intro id hi
    simp only [idsL, List.mem_append] at hi
    rcases hi with hi | hi
    · exact C_ids x u hu id hi
    · exact CL_ids xs _ h id hi
end

/-- One that makes no memory answers the same in any memory that has what it reads. -/
theorem light_on {ev : SX → AV} {hp hp2 : List Blk} {so : SO} {r : AV × List Blk} (hh : so.heavy = false) (hA : so.isLoad = true → ∀ id ∈ so.reads ev, ∀ b, hp[id]? = some b → hp2[id]? = some b) (h : astep hp ev so = some r) : r.2 = hp ∧ astep hp2 ev so = some (r.1, hp2) := by
  cases so <;> simp only [SO.heavy, reduceCtorEq] at hh <;> simp only [astep] at h ⊢
  case move x => injection h with h; subst h; exact ⟨rfl, rfl⟩
  case pick c a b => split at h <;> cases h; exact ⟨rfl, rfl⟩
  case build z ps => simp only [Option.map_eq_some_iff] at h ⊢; obtain ⟨x, h1, rfl⟩ := h; exact ⟨rfl, x, h1, rfl⟩
  case lit m z sz len ps =>
    subst hh
    simp only [Option.bind_eq_some_iff, Bool.false_eq_true, if_false] at h ⊢
    obtain ⟨cs, hcs, h⟩ := h
    split at h
    · rename_i hi
      cases h
      exact ⟨rfl, cs, hcs, by rw [if_pos hi]⟩
    · cases h
  case load u n x =>
    subst hh
    have hA := hA rfl
    simp only [SO.reads] at hA
    split at h
    · simp only [Option.map_eq_some_iff] at h ⊢; obtain ⟨x, h1, rfl⟩ := h; exact ⟨rfl, x, h1, rfl⟩
    · rename_i id o hx
      rw [hx] at hA
      split at h
      · rename_i q cs hb
        rw [hA id (by simp [AV.ids]) _ hb]
        simp only [Bool.false_eq_true, if_false, Option.bind_eq_some_iff] at h ⊢
        obtain ⟨v, h1, h2⟩ := h
        split at h2
        · rename_i hv; cases h2; exact ⟨rfl, v, h1, by rw [if_pos hv]⟩
        · cases h2
      · cases h
    · cases h
  case isnil g x =>
    have hA := hA rfl
    simp only [SO.reads] at hA
    split at h
    · cases h; exact ⟨rfl, rfl⟩
    · cases h; exact ⟨rfl, rfl⟩
    · rename_i hx
      rw [hx] at hA
      simp only [Option.map_eq_some_iff] at h ⊢
      obtain ⟨cs, h1, rfl⟩ := h
      exact ⟨rfl, cs, rowc_on h1 (hA _ (by simp [AV.ids])), rfl⟩
    · cases h; exact ⟨rfl, rfl⟩
    · cases h
  case nilCheck x => split at h <;> cases h <;> exact ⟨rfl, rfl⟩
  case bin tc op x y => simp only [Option.map_eq_some_iff] at h ⊢; obtain ⟨x, h1, rfl⟩ := h; exact ⟨rfl, x, h1, rfl⟩
  case un op x => split at h <;> cases h <;> exact ⟨rfl, rfl⟩
  case conv k x => split at h <;> cases h <;> exact ⟨rfl, rfl⟩
  case same x => split at h <;> cases h <;> exact ⟨rfl, rfl⟩
  case fieldAddr o x => split at h <;> cases h <;> exact ⟨rfl, rfl⟩
  case field n o x =>
    split at h
    · simp only [Option.map_eq_some_iff] at h ⊢; obtain ⟨x, h1, rfl⟩ := h; exact ⟨rfl, x, h1, rfl⟩
    · cases h
  case indexAddr sz x i =>
    have hA := hA rfl
    simp only [SO.reads] at hA
    split at h
    · split at h
      · split at h
        · rename_i hs hc; cases h; exact ⟨rfl, by rw [if_pos hs, if_pos hc]⟩
        · cases h
      · cases h
    · rename_i hx _
      rw [hx] at hA
      simp only [Option.bind_eq_some_iff] at h ⊢
      obtain ⟨cs, h1, h⟩ := h
      split at h
      · split at h
        · rename_i hs hc; cases h; exact ⟨rfl, cs, rowc_on h1 (hA _ (by simp [AV.ids])), by rw [if_pos hs, if_pos hc]⟩
        · cases h
      · cases h
    · split at h
      · split at h
        · rename_i hs hc; cases h; exact ⟨rfl, by rw [if_pos hs, if_pos hc]⟩
        · cases h
      · cases h
    · cases h
  case indexV q len sz x i =>
    split at h
    · split at h
      · rename_i hc
        simp only [Option.map_eq_some_iff] at h
        obtain ⟨z, h1, rfl⟩ := h
        exact ⟨rfl, by rw [if_pos hc, h1]; rfl⟩
      · cases h
    · cases h
  case indexArr len sz x i =>
    split at h
    · split at h
      · rename_i hc; cases h; exact ⟨rfl, by rw [if_pos hc]⟩
      · cases h
    · split at h
      · rename_i hc; cases h; exact ⟨rfl, by rw [if_pos hc]⟩
      · cases h
    · cases h
  case index x i =>
    split at h
    · split at h
      · rename_i hc
        rw [if_pos hc]
        simp only [Option.map_eq_some_iff] at h ⊢; obtain ⟨x, h1, rfl⟩ := h; exact ⟨rfl, x, h1, rfl⟩
      · cases h
    · cases h
  case slice sz x lo hi mx =>
    have hA := hA rfl
    simp only [SO.reads] at hA
    split at h
    · split at h
      · cases h
      · rename_i hm
        rw [if_neg hm]
        simp only [Option.map_eq_some_iff] at h ⊢; obtain ⟨x, h1, rfl⟩ := h; exact ⟨rfl, x, h1, rfl⟩
    · split at h
      · rename_i hc
        rw [if_pos hc]
        simp only [Option.map_eq_some_iff] at h ⊢; obtain ⟨x, h1, rfl⟩ := h; exact ⟨rfl, x, h1, rfl⟩
      · cases h
    · rename_i hx
      rw [hx] at hA
      split at h
      · rename_i hc
        rw [if_pos hc]
        simp only [Option.bind_eq_some_iff, Option.map_eq_some_iff] at h ⊢
        obtain ⟨cs, h0, x, h1, rfl⟩ := h
        exact ⟨rfl, cs, rowc_on h0 (hA _ (by simp [AV.ids])), x, h1, rfl⟩
      · cases h
    · rename_i hx
      rw [hx] at hA
      split at h
      · rename_i hc
        rw [if_pos hc]
        simp only [Option.bind_eq_some_iff] at h ⊢
        obtain ⟨cs, h0, h⟩ := h
        split at h
        · rename_i hn
          simp only [Option.map_eq_some_iff] at h
          obtain ⟨x, h1, rfl⟩ := h
          exact ⟨rfl, cs, rowc_on h0 (hA _ (by simp [AV.ids])), by rw [if_pos hn, h1]; rfl⟩
        · cases h
      · cases h
    · cases h
  case slices x lo hi =>
    split at h
    · simp only [Option.map_eq_some_iff] at h ⊢; obtain ⟨x, h1, rfl⟩ := h; exact ⟨rfl, x, h1, rfl⟩
    · cases h
  case extract i x =>
    split at h
    · simp only [Option.map_eq_some_iff] at h ⊢; obtain ⟨x, h1, rfl⟩ := h; exact ⟨rfl, x, h1, rfl⟩
    · cases h
  case len s x =>
    have hA := hA rfl
    simp only [SO.reads] at hA
    split at h
    · split at h
      · rename_i hc; cases h; exact ⟨rfl, by simp [hc]⟩
      · cases h
    · split at h
      · cases h
      · rename_i hx _ hc
        simp only [Option.map_eq_some_iff] at h
        obtain ⟨k, h1, rfl⟩ := h
        refine ⟨rfl, ?_⟩
        have h2 : sln hp2 (ev x) = some k := by
          cases hq : ev x <;> rw [hq] at h1 hA <;> simp only [sln, reduceCtorEq] at h1 ⊢
          · exact h1
          · exact h1
          · simp only [Option.map_eq_some_iff] at h1 ⊢
            obtain ⟨cs, h3, h4⟩ := h1
            exact ⟨cs, rowc_on h3 (hA _ (by simp [AV.ids])), h4⟩
          · exact h1
        rw [if_neg hc, h2]; rfl
  case mm b x y =>
    split at h
    · split at h
      · rename_i hc; cases h; exact ⟨rfl, by rw [if_pos hc]⟩
      · cases h
    · cases h
  case fn f fs cs => cases h; exact ⟨rfl, rfl⟩
  all_goals simp at h

mutual
theorem thaw_app : ∀ (hp : List Blk) (v : AV), ∃ l, (thaw hp v).2 = hp ++ l
  | hp, .vec _ cs => ⟨_, rfl⟩
  | hp, .box cs => ⟨_, rfl⟩
  | hp, .agg cs => by simp only [thaw]; exact thawL_app hp cs
  | hp, .tup cs => by simp only [thaw]; exact thawL_app hp cs
  | hp, .clo _ a b => by
    simp only [thaw]
    obtain ⟨l1, h1⟩ := thawL_app hp a
    obtain ⟨l2, h2⟩ := thawL_app (thawL hp a).2 b
    exact ⟨l1 ++ l2, by rw [h2, h1, List.append_assoc]⟩
  | hp, .ifc _ x => by simp only [thaw]; exact thaw_app hp x
  | hp, .unk | hp, .any | hp, .maybe _ _ | hp, .bool _ | hp, .int _ _ | hp, .str _ | hp, .nils | hp, .nilp | hp, .nilf | hp, .nili | hp, .nilm | hp, .sl _ _ | hp, .ip _ | hp, .own _ _ | hp, .osl _ _ _ _ | hp, .ref _ _ | hp, .mref _ | hp, .yld _ | hp, .mp _ _ => ⟨[], by simp [thaw]⟩
theorem thawL_app : ∀ (hp : List Blk) (vs : List AV), ∃ l, (thawL hp vs).2 = hp ++ l
  | hp, [] => ⟨[], by simp [thawL]⟩
  | hp, v :: vs => by
    obtain ⟨l1, h1⟩ := thaw_app hp v
    obtain ⟨l2, h2⟩ := thawL_app (thaw hp v).2 vs
    exact ⟨l1 ++ l2, by simp only [thawL]; rw [h2, h1, List.append_assoc]⟩
end
end
end Go.Proofs.Ytmeakgiojhoofaa
