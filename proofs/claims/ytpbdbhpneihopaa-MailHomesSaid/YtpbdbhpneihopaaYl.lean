/- Layer 16: what is combined, by thought; MailBack, MailOrder. -/
import Derived.Test.YtpbdbhpneihopaaYk
namespace Go.Proofs.Ytpbdbhpneihopaa
set_option linter.unusedSimpArgs false
set_option linter.unusedVariables false
set_option maxHeartbeats 4000000
set_option maxRecDepth 100000
theorem sorted_ascK {l : List Ky} (h : l.Nodup) : asc ltT (sorted ltT l) := by
  have hn : (sorted ltT l).Nodup := ((sorted_perm (lt := ltT) l).nodup_iff).2 h
  have hs := sorted_srtd ordrT l
  refine (hs.and hn).imp fun {x y} h => ?_
  obtain ⟨h1, h2⟩ := h
  cases hq : ltT x y with
  | true => rfl
  | false => exact absurd (ordrT.tri x y hq h1) h2
theorem cmb_keys (l : List Ml) : (cmb l).map kyM = sorted ltT (kyL l) := by
  unfold cmb
  rw [List.map_map]
  refine (List.map_congr_left fun k _ => ?_).trans (List.map_id _)
  rfl
theorem cmb_asc (l : List Ml) : asc ltT ((cmb l).map kyM) := by
  rw [cmb_keys]; exact sorted_ascK (kyL_nodup l)
theorem cmb_key_mem {l : List Ml} {k : Ky} : k ∈ (cmb l).map kyM ↔ k ∈ kyL l := by
  rw [cmb_keys]; exact (sorted_perm (lt := ltT) (kyL l)).mem_iff
theorem cmb_d {l : List Ml} {x : Ml} (h : x ∈ cmb l) : x.d = lD l (kyM x) := by
  unfold cmb at h
  obtain ⟨k, _, rfl⟩ := List.mem_map.1 h
  rfl
theorem cmb_uniq {m l : List Ml} (h1 : asc ltT (m.map kyM)) (h2 : ∀ k, k ∈ m.map kyM ↔ k ∈ kyL l) (h3 : ∀ x ∈ m, x.d = lD l (kyM x)) : m = cmb l := by
  have hk : m.map kyM = (cmb l).map kyM := asc_ext ordrT h1 (cmb_asc l) fun k => (h2 k).trans cmb_key_mem.symm
  have e : ∀ n : List Ml, (∀ x ∈ n, x.d = lD l (kyM x)) → n = (n.map kyM).map fun k => ⟨k.s, k.d, k.v, lD l k⟩ := by
    intro n hn
    rw [List.map_map]
    refine ((List.map_congr_left fun x hx => ?_).trans (List.map_id _)).symm
    simp only [Function.comp]
    rw [← hn x hx]
    cases x; rfl
  rw [e m h3, hk, ← e (cmb l) fun x hx => cmb_d hx]
theorem lD_spec {l : List Ml} {k : Ky} (h : k ∈ kyL l) : (∃ x ∈ l, kyM x = k ∧ x.d = lD l k) ∧ ∀ x ∈ l, kyM x = k → lD l k ≤ x.d := by
  obtain ⟨m, hm, hk⟩ := (kyL_mem l k).1 h
  have hne : (l.filter fun m => decide (kyM m = k)).map (·.d) ≠ [] := by
    intro e
    have : m.d ∈ (l.filter fun m => decide (kyM m = k)).map (·.d) := List.mem_map.2 ⟨m, by simp [hm, hk], rfl⟩
    rw [e] at this; cases this
  obtain ⟨h1, h2⟩ := lst_spec hne
  refine ⟨?_, fun x hx hxk => h2 _ (List.mem_map.2 ⟨x, by simp [hx, hxk], rfl⟩)⟩
  obtain ⟨x, hx, hd⟩ := List.mem_map.1 h1
  simp only [List.mem_filter, decide_eq_true_eq] at hx
  exact ⟨x, hx.1, hx.2, hd⟩
theorem cmb_mem {l : List Ml} {x : Ml} (h : x ∈ cmb l) : x ∈ l := by
  have hk : kyM x ∈ kyL l := cmb_key_mem.1 (List.mem_map.2 ⟨x, h, rfl⟩)
  obtain ⟨⟨y, hy, hyk, hyd⟩, _⟩ := lD_spec hk
  have hd := cmb_d h
  have hdd : y.d = x.d := hyd.trans hd.symm
  have : y = x := by
    clear hd hyd hk h
    obtain ⟨a, b, c, d⟩ := x
    obtain ⟨a', b', c', d'⟩ := y
    simp only [kyM, Ky.mk.injEq] at hyk
    obtain ⟨rfl, rfl, rfl⟩ := hyk
    simp only at hdd
    rw [hdd]
  rw [← this]; exact hy
theorem cmb_le {l : List Ml} {x : Ml} (h : x ∈ l) : ∃ y ∈ cmb l, kyM y = kyM x ∧ y.d ≤ x.d := by
  have hk : kyM x ∈ kyL l := (kyL_mem l _).2 ⟨x, h, rfl⟩
  obtain ⟨y, hy, hyk⟩ := List.mem_map.1 (cmb_key_mem.2 hk)
  refine ⟨y, hy, hyk, ?_⟩
  rw [cmb_d hy, hyk]
  exact (lD_spec hk).2 x h rfl
theorem cmb_of {a b : List Ml} (h1 : ∀ x ∈ a, ∃ y ∈ b, kyM y = kyM x ∧ y.d ≤ x.d) (h2 : ∀ x ∈ b, ∃ y ∈ a, kyM y = kyM x ∧ y.d ≤ x.d) : cmb a = cmb b := by
  refine cmb_uniq (cmb_asc a) (fun k => ?_) (fun x hx => ?_)
  · rw [cmb_key_mem, kyL_mem, kyL_mem]
    constructor
    · rintro ⟨m, hm, rfl⟩; obtain ⟨y, hy, hk, _⟩ := h1 m hm; exact ⟨y, hy, hk⟩
    · rintro ⟨m, hm, rfl⟩; obtain ⟨y, hy, hk, _⟩ := h2 m hm; exact ⟨y, hy, hk⟩
  · have hxa := cmb_mem hx
    have hd := cmb_d hx
    have hka : kyM x ∈ kyL a := (kyL_mem a _).2 ⟨x, hxa, rfl⟩
    obtain ⟨y, hy, hk, hyd⟩ := h1 x hxa
    have hkb : kyM x ∈ kyL b := (kyL_mem b _).2 ⟨y, hy, hk⟩
    obtain ⟨⟨z, hz, hzk, hzd⟩, hb⟩ := lD_spec hkb
    obtain ⟨u, hu, huk, hud⟩ := h2 z hz
    have := (lD_spec hka).2 u hu (huk.trans hzk)
    have := hb y hy hk
    omega
theorem cmb_idem (l : List Ml) : cmb (cmb l) = cmb l := cmb_of (fun x hx => ⟨x, cmb_mem hx, rfl, Int.le_refl _⟩) (fun x hx => cmb_le hx)
theorem cmb_app (a b l : List Ml) (h : ∀ x, x ∈ l ↔ x ∈ a ∨ x ∈ b) : cmb (cmb a ++ cmb b) = cmb l := by
  refine cmb_of (fun x hx => ?_) (fun x hx => ?_)
  · rcases List.mem_append.1 hx with hx | hx
    · exact ⟨x, (h x).2 (.inl (cmb_mem hx)), rfl, Int.le_refl _⟩
    · exact ⟨x, (h x).2 (.inr (cmb_mem hx)), rfl, Int.le_refl _⟩
  · rcases (h x).1 hx with hx | hx
    · obtain ⟨y, hy, h1, h2⟩ := cmb_le hx
      exact ⟨y, List.mem_append_left _ hy, h1, h2⟩
    · obtain ⟨y, hy, h1, h2⟩ := cmb_le hx
      exact ⟨y, List.mem_append_right _ hy, h1, h2⟩
theorem okM_rngM {m : Ml} (h : okM m = true) : rngM m := okM_rng h
theorem back_law {l : List Ml} {s : List UInt8} (hl : l.length ≤ 9223372036854775807) (hs : s.length ≤ 9223372036854775807) : runP tabM 1608 [.sl 4 (mls l), .str s] [] = some (.bool true, []) := by
  refine runP_fn (show tabM 1608 = _ from t1608) rfl ?_
  have L := mls_len l
  have Ld : l.length * 4 / 4 = l.length := by omega
  by_cases h1 : 100 < l.length
  · simp (config := { maxSteps := 1000000 }) (disch := omega) only [go_sem, ↓reduceIte, Nat.reduceEqDiff, Nat.reduceAdd, Int.reduceToNat, reduceCtorEq, Nat.reduceLeDiff, Nat.reduceSub, Nat.reduceDiv, Nat.reduceMod, Nat.reduceMul, d1608, L, Ld]
  by_cases h2 : 1000 < s.length
  · simp (config := { maxSteps := 1000000 }) (disch := omega) only [go_sem, ↓reduceIte, Nat.reduceEqDiff, Nat.reduceAdd, Int.reduceToNat, reduceCtorEq, Nat.reduceLeDiff, Nat.reduceSub, Nat.reduceDiv, Nat.reduceMod, Nat.reduceMul, d1608, L, Ld]
  have gm := mails_run
  have gc := up (check_run (l := l) (by omega))
  have gp := up (print_run (l := l) (by omega))
  have gs := up (same16_run (a := l) (b := l) (by omega) (by omega))
  rw [decide_eq_true rfl] at gs
  have g0 := up (print_run (l := []) (by decide))
  have e0 : printA [] = [.str (prM []), .int .i64 0] := by unfold printA; rw [if_neg (by decide), if_pos (by decide)]
  rw [e0, mls_nil] at g0
  unfold printA at gp
  rw [if_neg (by omega)] at gp
  have g2 := parse_run (s := s) (by omega)
  have key : ∃ (n : List Ml) (g : Int) (b : List UInt8) (h : Int), parseA s = [.vec 4 (mls n), .int .i64 g] ∧ n.length ≤ 1000 ∧ runP tabM 1612 [.sl 4 (mls n)] [] = some (.tup [.str b, .int .i64 h], []) ∧ ((g = 0 ∧ h = 0 ∧ b = s) ∨ (g = 220 ∧ h = 0)) := by
    unfold parseA
    cases ha : alM s with
    | none => exact ⟨[], 220, _, 0, rfl, by simp, g0, .inr ⟨rfl, rfl⟩⟩
    | some n =>
      obtain ⟨hb, hn, _⟩ := alM_iff.1 ha
      simp only
      cases ho : okMs n with
      | false => exact ⟨[], 220, _, 0, rfl, by simp, g0, .inr ⟨rfl, rfl⟩⟩
      | true =>
        have gq := up (print_run (l := n) (by omega))
        unfold printA at gq
        rw [if_neg (by omega), ho, if_pos rfl] at gq
        exact ⟨n, 0, prM n, 0, rfl, hn, gq, .inl ⟨rfl, rfl, hb.symm⟩⟩
  obtain ⟨n, g, b, h, e1, hn, gq, hc⟩ := key
  rw [e1] at g2
  have Ln := mls_len n
  cases ho : okMs l with
  | true =>
    rw [ho] at gc gp
    simp only [if_true] at gp
    have ha : alM (prM l) = some l := alM_iff.2 ⟨rfl, by omega, fun m hm => okM_rngM (okMs_mem ho m hm)⟩
    have k0 := encN_len (n := l.length) (by omega)
    have k1 := prs_len (l := l) (okMs_mem ho)
    have k2 : (prM l).length ≤ 1000000 := by unfold prM; rw [List.length_append]; omega
    have g1 := parse_run k2
    have e2 : parseA (prM l) = [.vec 4 (mls l), .int .i64 0] := by unfold parseA; rw [ha]; simp only; rw [if_pos ho]
    rw [e2] at g1
    rcases hc with ⟨rfl, rfl, rfl⟩ | ⟨rfl, rfl⟩
    · have hb : (b == b) = true := beq_self_eq_true _
      simp (config := { maxSteps := 1000000 }) (disch := omega) only [go_sem, ↓reduceIte, Nat.reduceEqDiff, Nat.reduceAdd, Int.reduceToNat, reduceCtorEq, Nat.reduceLeDiff, Nat.reduceSub, Nat.reduceDiv, Nat.reduceMod, Nat.reduceMul, d1608, L, Ld, gm, gc, gp, gs, g1, g2, gq, hb]
    · simp (config := { maxSteps := 1000000 }) (disch := omega) only [go_sem, ↓reduceIte, Nat.reduceEqDiff, Nat.reduceAdd, Int.reduceToNat, reduceCtorEq, Nat.reduceLeDiff, Nat.reduceSub, Nat.reduceDiv, Nat.reduceMod, Nat.reduceMul, d1608, L, Ld, gm, gc, gp, gs, g1, g2, gq]
  | false =>
    rw [ho] at gc gp
    simp only [Bool.false_eq_true, if_false] at gp
    have g1 := parse_run (s := []) (by decide)
    have e4 : parseA [] = [.vec 4 [], .int .i64 220] := by
      unfold parseA
      rw [ex_al0]
    rw [e4] at g1
    rcases hc with ⟨rfl, rfl, rfl⟩ | ⟨rfl, rfl⟩
    · have hb : (b == b) = true := beq_self_eq_true _
      simp (config := { maxSteps := 1000000 }) (disch := omega) only [go_sem, ↓reduceIte, Nat.reduceEqDiff, Nat.reduceAdd, Int.reduceToNat, reduceCtorEq, Nat.reduceLeDiff, Nat.reduceSub, Nat.reduceDiv, Nat.reduceMod, Nat.reduceMul, d1608, L, Ld, gm, gc, gp, gs, g1, g2, gq, hb]
    · simp (config := { maxSteps := 1000000 }) (disch := omega) only [go_sem, ↓reduceIte, Nat.reduceEqDiff, Nat.reduceAdd, Int.reduceToNat, reduceCtorEq, Nat.reduceLeDiff, Nat.reduceSub, Nat.reduceDiv, Nat.reduceMod, Nat.reduceMul, d1608, L, Ld, gm, gc, gp, gs, g1, g2, gq]
end Go.Proofs.Ytpbdbhpneihopaa
