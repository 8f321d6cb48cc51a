/-
  A call, where it is made, in whatever way its answer is taken.
-/
import Derived.Test.YtmeakgiojhoofaaKn
namespace Go.Proofs.Ytmeakgiojhoofaa
open Go.RowKit

theorem dedup_mem : ∀ (l acc : List Nat) (x : Nat), x ∈ dedup l acc ↔ x ∈ l ∨ x ∈ acc
  | [], acc, x => by simp [dedup]
  | y :: l, acc, x => by
    simp only [dedup]
    rw [dedup_mem l]
    split
    · rename_i h
      have : y ∈ acc := by simpa using h
      simp only [List.mem_cons]
      constructor
      · rintro (h | h)
        · exact .inl (.inr h)
        · exact .inr h
      · rintro ((rfl | h) | h)
        · exact .inr this
        · exact .inl h
        · exact .inr h
    · simp only [List.mem_cons]
      constructor
      · rintro (h | h | h)
        · exact .inl (.inr h)
        · exact .inl (.inl h)
        · exact .inr h
      · rintro ((h | h) | h)
        · exact .inr (.inl h)
        · exact .inl h
        · exact .inr (.inr h)

theorem dedup_nodup : ∀ (l acc : List Nat), acc.Nodup → (dedup l acc).Nodup
  | [], acc, h => by simp only [dedup]; exact List.pairwise_reverse.2 (h.imp fun hne e => hne e.symm)
  | y :: l, acc, h => by
    simp only [dedup]
    refine dedup_nodup l _ ?_
    split
    · exact h
    · rename_i hn
      have : y ∉ acc := by simpa using hn
      exact List.nodup_cons.2 ⟨this, h⟩

theorem idxOf_get : ∀ (l : List Nat) (x : Nat), x ∈ l → l[idxOf l x]? = some x
  | [], x, h => by cases h
  | y :: l, x, h => by
    simp only [idxOf]
    split
    · rename_i e; subst e; rfl
    · rename_i e
      have : x ∈ l := by rcases List.mem_cons.1 h with h | h; exact absurd h.symm e; exact h
      simpa using idxOf_get l x this

theorem idxOf_at {l : List Nat} (hn : l.Nodup) {k x : Nat} (h : l[k]? = some x) : idxOf l x = k := by
  have hm : x ∈ l := List.mem_of_getElem? h
  have h2 := idxOf_get l x hm
  exact (List.getElem?_inj (List.getElem?_eq_some_iff.1 h2).1 hn).1 (h2.trans h.symm)

theorem subHp_get : ∀ {l : List Nat} {hp hps : List Blk}, subHp hp l = some hps → hps.length = l.length ∧ ∀ (k id : Nat), l[k]? = some id → ∃ cs, hp[id]? = some (.row false cs) ∧ allL pnoid cs = true ∧ hps[k]? = some (.row false cs)
  | [], hp, hps, h => by
    simp only [subHp] at h; injection h with h; subst h
    exact ⟨rfl, fun k id hk => by simp at hk⟩
  | i :: l, hp, hps, h => by
    simp only [subHp] at h
    split at h
    · rename_i cs hb
      split at h
      · rename_i hn
        simp only [Option.map_eq_some_iff] at h
        obtain ⟨q, hq, rfl⟩ := h
        obtain ⟨k1, k2⟩ := subHp_get hq
        refine ⟨by simp [k1], fun k id hk => ?_⟩
        cases k with
        | zero => simp at hk; subst hk; exact ⟨cs, hb, hn, by simp⟩
        | succ k => simpa using k2 k id (by simpa using hk)
      · cases h
    · cases h

theorem putHp_length : ∀ (l : List Nat) (bs hp : List Blk), (putHp hp l bs).length = hp.length
  | [], bs, hp => by simp [putHp]
  | _ :: _, [], hp => by simp [putHp]
  | i :: l, b :: bs, hp => by simp only [putHp]; rw [putHp_length l bs]; simp

theorem putHp_get : ∀ (l : List Nat) (bs hp : List Blk), l.Nodup → bs.length = l.length → (∀ i ∈ l, i < hp.length) → ∀ id, (putHp hp l bs)[id]? = if id ∈ l then bs[idxOf l id]? else hp[id]?
  | [], bs, hp, _, _, _, id => by simp [putHp]
  | i :: l, [], hp, _, h, _, id => by simp at h
  | i :: l, b :: bs, hp, hn, h, hlt, id => by
    obtain ⟨h1, h2⟩ := List.nodup_cons.1 hn
    simp only [putHp]
    rw [putHp_get l bs (hp.set i b) h2 (by simpa using h) (fun k hk => by simpa using hlt k (by simp [hk]))]
    by_cases hid : id = i
    · subst hid
      rw [if_neg h1, if_pos (by simp)]
      simp only [idxOf, if_true]
      rw [List.getElem?_set_self (by simpa using hlt id (by simp))]
      simp
    · by_cases hm : id ∈ l
      · rw [if_pos hm, if_pos (by simp [hm])]
        simp only [idxOf]
        rw [if_neg (fun e => hid e.symm)]
        simp
      · rw [if_neg hm, if_neg (by simp [hm, hid]), List.getElem?_set_ne (fun e => hid e.symm)]

section
variable {P : Program} {fid : FuncId → Option Nat} {fr : Nat → Prop} {w0 w w' : World} {m : Mem} {hp hp' : List Blk} {fl : List Nat}

/-- A callee that is handed some of its caller's blocks. -/
theorem mem_ok {f : FuncId} {vs : List AV} {hps : List Blk} {r : AV × List Blk} {args : Array Value} {L : List Nat} (hL : ∀ id ∈ idsL vs, id ∈ L) (hnd : L.Nodup) (hP : m.P = P) (hcd : m.cd = fid) (H : HInv fr w0 m hp w []) (hC : CL m vs (fun i => args[i]?)) (hs : args.size = vs.length)
    (hsub : subHp hp L = some hps) (hr : CallOk P fid f (renL (idxOf L) vs) hps r) (hl : r.2.length = L.length) (hno : r.2.all Blk.noidb = true) :
    CallsIn Fence.wide 0 P f args w fun e w' => ∃ u fl m', e = .returned u ∧ Ext fr m m' ∧ HInv fr w0 m' (putHp hp L r.2) w' fl ∧ R m' w' (ren (fun i => L.getD i 0) r.1) u fl := by
  obtain ⟨s1, s2⟩ := subHp_get hsub
  have hlt : ∀ i ∈ L, i < hp.length := by
    intro i hi
    obtain ⟨k, hk⟩ := List.getElem?_of_mem hi
    obtain ⟨cs, hb, _⟩ := s2 k i hk
    exact (List.getElem?_eq_some_iff.1 hb).1
  have hlt' : ∀ i ∈ L, i < m.bl.length := fun i hi => by rw [H.len]; exact hlt i hi
  let F : Nat → List Nat := fun k => match L[k]? with | some i => m.fp i | none => []
  have hF : ∀ (k i : Nat), L[k]? = some i → F k = m.fp i := fun k i h => by show (match L[k]? with | some i => m.fp i | none => []) = _; rw [h]
  have hF0 : ∀ (k : Nat), L[k]? = none → F k = [] := fun k h => by show (match L[k]? with | some i => m.fp i | none => []) = _; rw [h]
  let mc : Mem := { m with bl := L.map fun i => m.bl.getD i ⟨none, none, 0, 0, 0⟩, fp := F }
  have hbl : ∀ (k i : Nat), L[k]? = some i → mc.bl[k]? = m.bl[i]? := by
    intro k i hk
    show (L.map _)[k]? = _
    rw [List.getElem?_map, hk]
    have : m.bl[i]? = some (m.bl[i]'(hlt' i (List.mem_of_getElem? hk))) := List.getElem?_eq_getElem (hlt' i (List.mem_of_getElem? hk))
    simp [this]
  have hblL : ∀ (k : Nat) e, mc.bl[k]? = some e → ∃ i, L[k]? = some i ∧ m.bl[i]? = some e := by
    intro k e he
    have hk : k < L.length := by have := (List.getElem?_eq_some_iff.1 he).1; simpa [mc] using this
    refine ⟨L[k], List.getElem?_eq_getElem hk, ?_⟩
    rw [← hbl k _ (List.getElem?_eq_getElem hk)]; exact he
  let fr' : Nat → Prop := fun g => g < w.heap.size ∧ ∀ i ∈ L, g ∉ m.fp i
  have Hc : HInv fr' w mc hps w [] := by
    refine ⟨rfl, rfl, rfl, Nat.le_refl _, fun g hg => ⟨hg.1, rfl⟩, by simp [mc, s1], H.im, ?_, ?_, ?_, ?_, ?_, fun g hg => by simp at hg, by simp, fun id g hg => by simp⟩
    · intro k b e hb he
      obtain ⟨i, hi, he'⟩ := hblL k e he
      obtain ⟨cs, hb1, hn, hb2⟩ := s2 k i hi
      rw [hb] at hb2; injection hb2 with hb2; subst hb2
      have := H.blk i _ e hb1 he'
      show BlkOk mc w _ e (F k)
      rw [hF k i hi]
      obtain ⟨h1, h3, h4, h5, h6⟩ := this
      refine ⟨h1, h3, h4, h5, ?_⟩
      rcases h6 with h6 | ⟨g, h7, h8, h9, h10⟩
      · exact .inl h6
      · refine .inr ⟨g, h7, h8, fun hf => ?_, fun hf => by cases hf⟩
        obtain ⟨cur, t, f', q1, q2, q3, q4⟩ := h9 hf
        exact ⟨cur, t, f', q1, q2, q3, RL_noid (m := m) (m' := mc) rfl rfl (fun _ _ _ h => h) hn (fun _ _ => rfl) q4⟩
    · intro k g hg
      change g ∈ F k at hg
      cases hk : L[k]? with
      | none => rw [hF0 k hk] at hg; cases hg
      | some i =>
        rw [hF k i hk] at hg
        exact ⟨fun h => h.2 i (List.mem_of_getElem? hk) hg, (H.own i g hg).2⟩
    · intro k
      show (F k).Nodup
      cases hk : L[k]? with
      | none => rw [hF0 k hk]; simp
      | some i => rw [hF k i hk]; exact H.nd i
    · intro i j g hi hj
      change g ∈ F i at hi
      change g ∈ F j at hj
      cases hki : L[i]? with
      | none => rw [hF0 i hki] at hi; cases hi
      | some a =>
        cases hkj : L[j]? with
        | none => rw [hF0 j hkj] at hj; cases hj
        | some b =>
          rw [hF i a hki] at hi
          rw [hF j b hkj] at hj
          have := H.dj a b g hi hj
          subst this
          rw [← idxOf_at hnd hki, ← idxOf_at hnd hkj]
    · intro k hk
      rw [s1] at hk
      show F k = []
      exact hF0 k (List.getElem?_eq_none hk)
  have hCc : CL mc (renL (idxOf L) vs) (fun i => args[i]?) := CL_sim2 (r := idxOf L) (m := m) (m' := mc) vs _ _ ⟨rfl, rfl, fun _ _ _ h => h, fun id hid e he => by
    rw [hbl (idxOf L id) id (idxOf_get L id (hL id hid))]; exact he⟩ (fun _ _ h => h) hC
  have hlen : (renL (idxOf L) vs).length = vs.length := by
    have : ∀ (l : List AV), (mapL (ren1 (idxOf L)) l).length = l.length := fun l => by
      induction l with
      | nil => rfl
      | cons x xs ih => simp [mapL, ih]
    exact this vs
  refine (hr fr' w mc w args hP hcd Hc hCc (by rw [hs, hlen])).mono ?_
  rintro e w' ⟨u, m', fl, rfl, E', hbl', H', hR⟩
  have hframe : ∀ g, fr' g → w'.heap[g]? = w.heap[g]? := fun g hg => (H'.fix g hg).2
  have hfrfr : ∀ g, fr g → fr' g := fun g hg => ⟨(H.fix g hg).1, fun i _ h => (H.own i g h).1 hg⟩
  have hother : ∀ id, id ∉ L → ∀ g ∈ m.fp id, fr' g := fun id hid g hg => ⟨(H.own id g hg).2.1, fun i hi h => hid (by rw [H.dj id i g hg h]; exact hi)⟩
  let m2 : Mem := { m with im := m'.im, fp := fun id => if id ∈ L then m'.fp (idxOf L id) else m.fp id }
  have hle : m.le m2 := ⟨rfl, rfl, fun b o u h => E'.le.im b o u h, fun _ _ h => h⟩
  have hE : Ext fr m m2 := ⟨hle, fun b hb o => E'.low b (hfrfr b hb) o⟩
  have hfp1 : ∀ id, id ∈ L → m2.fp id = m'.fp (idxOf L id) := fun id h => by show (if _ then _ else _) = _; rw [if_pos h]
  have hfp2 : ∀ id, id ∉ L → m2.fp id = m.fp id := fun id h => by show (if _ then _ else _) = _; rw [if_neg h]
  have hput := putHp_get L r.2 hp hnd hl hlt
  have hnofr : ∀ g, ¬ fr' g → ¬ fr g := fun g h k => h (hfrfr g k)
  refine ⟨u, fl, m2, rfl, hE, ?_, ?_⟩
  · refine ⟨H'.os.trans H.os, H'.tape.trans H.tape, H'.output.trans H.output, Nat.le_trans H.size H'.size, fun g hg => ⟨(H'.fix g (hfrfr g hg)).1, (hframe g (hfrfr g hg)).trans (H.fix g hg).2⟩, by rw [putHp_length]; exact H.len, H'.im, ?_, ?_, ?_, ?_, ?_, ?_, H'.fnd, ?_⟩
    · intro id b e hb he
      rw [hput id] at hb
      split at hb
      · rename_i hid
        rw [hfp1 id hid]
        have hbok := H'.blk (idxOf L id) b e hb (by rw [hbl', hbl _ id (idxOf_get L id hid)]; exact he)
        have hnb : b.noidb = true := List.all_eq_true.1 hno b (List.mem_of_getElem? hb)
        cases b with
        | dead => exact hbok
        | row q cs =>
          obtain ⟨h1, h3, h4, h5, h6⟩ := hbok
          refine ⟨h1, h3, h4, h5, ?_⟩
          rcases h6 with h6 | ⟨g, h7, h8, h9, h10⟩
          · exact .inl h6
          · refine .inr ⟨g, h7, h8, fun hf => ?_, fun hf => ?_⟩
            · obtain ⟨cur, t, f', q1, q2, q3, q4⟩ := h9 hf
              exact ⟨cur, t, f', q1, q2, q3, RL_noid (m := m') (m' := m2) E'.le.P.symm E'.le.cd.symm (fun _ _ _ h => h) hnb (fun _ _ => rfl) q4⟩
            · exact ⟨(h10 hf).1, CL_noid (m := m') (m' := m2) E'.le.P.symm E'.le.cd.symm (fun _ _ _ h => h) hnb (h10 hf).2⟩
        | mp _ _ => simp [Blk.noidb] at hnb
        | lp _ _ _ _ _ _ => simp [Blk.noidb] at hnb
      · rename_i hid
        rw [hfp2 id hid]
        exact (H.blk id b e hb he).mono hle (fun g hg => hframe g (hother id hid g hg))
    · intro id g hg
      by_cases hid : id ∈ L
      · rw [hfp1 id hid] at hg
        have := H'.own _ g hg
        exact ⟨hnofr g this.1, this.2⟩
      · rw [hfp2 id hid] at hg
        have hq := hother id hid g hg
        refine ⟨(H.own id g hg).1, (H'.fix g hq).1, fun o => ?_⟩
        show m'.im g o = none
        rw [E'.low g hq o]
        exact (H.own id g hg).2.2 o
    · intro id
      by_cases hid : id ∈ L
      · rw [hfp1 id hid]; exact H'.nd _
      · rw [hfp2 id hid]; exact H.nd id
    · intro i j g hi hj
      by_cases h1 : i ∈ L <;> by_cases h2 : j ∈ L
      · rw [hfp1 i h1] at hi; rw [hfp1 j h2] at hj
        have := H'.dj _ _ g hi hj
        have e1 := idxOf_get L i h1
        have e2 := idxOf_get L j h2
        rw [this, e2] at e1
        injection e1 with e1; exact e1.symm
      · rw [hfp1 i h1] at hi; rw [hfp2 j h2] at hj
        exact absurd (hother j h2 g hj) (H'.own _ g hi).1
      · rw [hfp2 i h1] at hi; rw [hfp1 j h2] at hj
        exact absurd (hother i h1 g hi) (H'.own _ g hj).1
      · rw [hfp2 i h1] at hi; rw [hfp2 j h2] at hj
        exact H.dj i j g hi hj
    · intro id hid
      rw [putHp_length] at hid
      have hn : id ∉ L := fun h => by have := hlt id h; omega
      rw [hfp2 id hn]; exact H.fpz id hid
    · intro g hg
      have := H'.fown g hg
      exact ⟨hnofr g this.1, this.2⟩
    · intro id g hg hf
      by_cases hid : id ∈ L
      · rw [hfp1 id hid] at hg
        exact H'.fdj _ g hg hf
      · rw [hfp2 id hid] at hg
        exact (H'.fown g hf).1 (hother id hid g hg)
  · refine R_sim (m := m') (m' := m2) (r := fun i => L.getD i 0) _ _ _ ⟨E'.le.P.symm, E'.le.cd.symm, fun _ _ _ h => h, fun id _ e he => ?_⟩ (fun _ _ => rfl) hR
    rw [hbl'] at he
    obtain ⟨i, hi, he'⟩ := hblL id e he
    show m.bl[L.getD id 0]? = some e
    rw [List.getD_eq_getElem?_getD, hi]
    exact he'

theorem shared_of {k : Nat} {vs : List AV} {dr : Bool} {md : Md} {v : AV} {f : FuncId} (hk : fid f = some k) (h : CStep P fid dr k vs hp md v hp') : FnThere P f ∧ Shared P fid f vs hp v hp' := by
  cases h with
  | @plain ps r hf hr hd =>
    obtain ⟨h1, h2⟩ := hr f hk
    refine ⟨h1, fun fr w0 m w args hP hcd H hC hs => (plain_ok hP hcd H hC hs hf h2).mono ?_⟩
    rintro e w' ⟨u, fl, rfl, hi, m', E', H', hR⟩
    cases hq : noimm r.1 with
    | true =>
      obtain ⟨G, hR'⟩ := hi hq
      obtain ⟨m3, E3, H3, hC3⟩ := thawed G hR'
      exact ⟨u, m3, rfl, E3, by simpa [hq] using H3, by simpa [hq] using hC3⟩
    | false =>
      obtain ⟨m3, E3, H3, hC3⟩ := thawed H' hR
      exact ⟨u, m3, rfl, E'.trans E3, by simpa [hq] using H3, by simpa [hq] using hC3⟩
  | @quiet ps r hf hr q1 q2 =>
    obtain ⟨h1, h2⟩ := hr f hk
    refine ⟨h1, fun fr w0 m w args hP hcd H hC hs => (plain_ok hP hcd H hC hs hf h2).mono ?_⟩
    rintro e w' ⟨u, fl, rfl, hi, m', E', H', hR⟩
    rcases q2 with q2 | q2
    · obtain ⟨G, hR'⟩ := hi q2
      obtain ⟨hC', rfl⟩ := C_of_R _ _ _ q1 hR'
      exact ⟨u, m, rfl, Ext.refl fr m, G, hC'⟩
    · rw [q2, still_nil] at H'
      obtain ⟨hC', rfl⟩ := C_of_R _ _ _ q1 hR
      exact ⟨u, m', rfl, E', H', hC'⟩
  | @mem hps r hs hr hl hno =>
    obtain ⟨h1, h2⟩ := hr f hk
    refine ⟨h1, fun fr w0 m w args hP hcd H hC hsz => (mem_ok (fun id hid => (dedup_mem _ _ _).2 (.inl hid)) (dedup_nodup _ _ (by simp)) hP hcd H hC hsz hs h2 hl hno).mono ?_⟩
    rintro e w' ⟨u, fl, m', rfl, E', H', hR⟩
    obtain ⟨m3, E3, H3, hC3⟩ := thawed H' hR
    exact ⟨u, m3, rfl, E'.trans E3, H3, hC3⟩
  | @all v hp1 hr =>
    obtain ⟨h1, h2⟩ := hr f hk
    refine ⟨h1, fun fr w0 m w args hP hcd H hC hs => (h2 fr w0 m w args hP hcd H hC hs).mono ?_⟩
    rintro e w' ⟨u, m', rfl, E', H', hR⟩
    obtain ⟨m3, E3, H3, hC3⟩ := thawed H' hR
    exact ⟨u, m3, rfl, (E'.ext (by rw [H.len]; exact Nat.le_refl _)).trans E3, H3, hC3⟩
end
end Go.Proofs.Ytmeakgiojhoofaa
