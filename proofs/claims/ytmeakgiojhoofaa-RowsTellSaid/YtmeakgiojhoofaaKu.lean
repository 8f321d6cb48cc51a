/-
  What a function hands back.
-/
import Derived.Test.YtmeakgiojhoofaaKrb
namespace Go.Proofs.Ytmeakgiojhoofaa
open Go.RowKit

def cres (P : Program) : List ResultVar → Option (List RV)
  | [] => some []
  | .tmp t :: l => (cres P l).map (.tmp t :: ·)
  | .cell t ty :: l => (ldk P ty).bind fun n => (cres P l).map (.cell t n :: ·)

section
variable {P : Program} {fid : FuncId → Option Nat} {fr : Nat → Prop} {w0 w : World} {m : Mem} {hp : List Blk} {fl : List Nat}

theorem load_at (H : HInv fr w0 m hp w fl) {id off : Nat} {v : Value} (hC : C m (.ref id off) v) {cs : List AV} (hb : rowc hp id = some cs) {t : TypeId} {n : Option Nat} (hn : ldk P t = some n) {x : AV} (hv : rdc (cs.drop off) n = some x) (hni : noinl x = true) :
    ∃ g u, v = .pointer (some ⟨g, off, none⟩) ∧ (Instr.loadAt t v).run P w = .ok u w ∧ C m x u := by
  simp only [C] at hC
  obtain ⟨e, he, g, heg, hu⟩ := hC
  obtain ⟨e', q, hb', he', q1, q2, q3, q4, q5⟩ := row_at H hb
  rw [he] at he'; injection he' with he'; subst he'
  rcases q5 with ⟨r1, _⟩ | ⟨g', f, r1, r2, hR⟩
  · rw [heg] at r1; cases r1
  · rw [heg] at r1; injection r1 with r1; subst r1
    obtain ⟨fa, fb, rfl, _, hb2⟩ := CL_get hR off
    by_cases hoff : off ≤ cs.length
    · have hto : (cs.take off).length = off := by simp; omega
      rw [hto] at hb2
      have hk : ∃ k, rdc ((cs.drop off).take k) n = some x ∧ allL pnoinl ((cs.drop off).take k) = true := by
        cases n with
        | none =>
          refine ⟨1, ?_, ?_⟩
          · simp only [rdc] at hv ⊢
            rw [List.head?_take, if_neg (by omega)]; exact hv
          · simp only [rdc] at hv
            cases hq : cs.drop off with
            | nil => rfl
            | cons x xs =>
              rw [hq] at hv
              simp at hv; subst hv
              simp only [List.take_succ_cons, List.take_zero, allL, Bool.and_true]
              exact hni
        | some k =>
          refine ⟨k, ?_, ?_⟩
          · simp only [rdc] at hv ⊢
            split at hv
            · rename_i hk; rw [if_pos (by rw [List.length_take]; omega), List.take_take, Nat.min_self]; exact hv
            · cases hv
          · simp only [rdc] at hv
            split at hv
            · injection hv with hv; subst hv
              simp only [noinl, AV.allv, Bool.and_eq_true] at hni
              exact hni.2
            · cases hv
      obtain ⟨k, hv2, hni2⟩ := hk
      obtain ⟨fc, fd, rfl, hc2, _⟩ := CL_get hb2 k
      obtain ⟨hCL, _⟩ := CL_of_RL _ _ _ hni2 hc2
      obtain ⟨uu, hr, hC⟩ := run_loadAt_ok (P := P) (w := w) (b := g) (o := off) hn hv2 (all_take (all_drop q1 _) _) hCL (fun i v hv => hv)
      exact ⟨g, uu, hu, by rw [hu]; exact hr, hC⟩
    · rw [List.drop_eq_nil_of_le (by omega)] at hv
      obtain ⟨uu, hr, hC⟩ := run_loadAt_ok (P := P) (w := w) (b := g) (o := off) (cs := []) (g := fun _ => none) hn hv rfl (by simp [CL]) (fun i v hv => by cases hv)
      exact ⟨g, uu, hu, by rw [hu]; exact hr, hC⟩

/-! ### Nil slices that are told as empty rows -/

theorem nz1_okc (sz : Nat) (imm : Bool) (x : AV) : (nz1 sz imm x).okc = x.okc := by
  cases x <;> simp only [nz1]
  split <;> rfl

theorem nz1_ok {sz : Nat} {imm : Bool} {x : AV} {u : Value} {f : List Nat} (h : R m w x u f) : R m w (nz1 sz imm x) u f := by
  cases x <;> simp only [nz1] <;> try exact h
  simp only [R, C] at h
  obtain ⟨rfl, rfl⟩ := h
  split
  · simp only [R, C]
    exact ⟨trivial, rfl, none, 0, 0, rfl, by simp, fun _ => rfl, Nat.le_refl _, fun h => absurd rfl h⟩
  · simp only [R]
    exact ⟨rfl, none, 0, 0, rfl, by simp, fun _ => rfl, Nat.le_refl _, .inl (by simp)⟩

theorem RL_setv {y : AV} : ∀ (cs : List AV) (i : Nat) (g : Nat → Option Value) (f : List Nat) (x : AV), cs[i]? = some x → (∀ u f, R m w x u f → R m w y u f) → RL m w cs g f → RL m w (cs.set i y) g f
  | [], i, g, f, x, h, _, _ => by simp at h
  | x :: xs, 0, g, f, z, h, hxy, k => by
    simp only [List.getElem?_cons_zero, Option.some.injEq] at h
    subst h
    simp only [List.set_cons_zero, RL] at k ⊢
    obtain ⟨f1, f2, rfl, ⟨u, h1, h2⟩, h3⟩ := k
    exact ⟨f1, f2, rfl, ⟨u, h1, hxy u f1 h2⟩, h3⟩
  | x :: xs, i + 1, g, f, z, h, hxy, k => by
    simp only [List.set_cons_succ, RL] at k ⊢
    obtain ⟨f1, f2, rfl, h1, h3⟩ := k
    exact ⟨f1, f2, rfl, h1, RL_setv xs i _ f2 z (by simpa using h) hxy h3⟩

theorem nzc_ok {g : Nat → Option Value} {f : List Nat} : ∀ (sh : List (Nat × Nat × Bool)) (cs : List AV), RL m w cs g f → cs.all AV.okc = true → RL m w (nzc sh cs) g f ∧ (nzc sh cs).all AV.okc = true ∧ (nzc sh cs).length = cs.length
  | [], cs, h, hk => ⟨h, hk, rfl⟩
  | (i, sz, imm) :: l, cs, h, hk => by
    simp only [nzc]
    split
    · rename_i x hx
      obtain ⟨k1, k2, k3⟩ := nzc_ok l (cs.set i (nz1 sz imm x)) (RL_setv cs i g f x hx (fun u f h => nz1_ok h) h)
        (okc_set hk (by rw [nz1_okc]; exact List.all_eq_true.1 hk x (List.mem_of_getElem? hx)))
      exact ⟨k1, k2, by rw [k3]; simp⟩
    · exact nzc_ok l cs h hk

theorem nz_ok {sh : List (Nat × Nat × Bool)} {x : AV} {u : Value} (h : R m w x u []) : R m w (nz sh x) u [] := by
  unfold nz
  split
  · simp only [R] at h ⊢
    obtain ⟨h1, vs, h2, h3, h4⟩ := h
    obtain ⟨k1, k2, k3⟩ := nzc_ok sh _ h4 h1
    exact ⟨k2, vs, h2, by rw [k3]; exact h3, k1⟩
  · split
    · exact nz1_ok h
    · exact h

theorem loadVar_run {t : TypeId} {a : Addr} {w : World} : (loadVar t a).run P w = (Instr.loadAt t (.pointer (some a))).run P w := rfl

theorem rvs_ok {env : List (Nat × AV)} {ts : Array Value} (H : HInv fr w0 m hp w fl) (E : EnvOk m env ts) :
    ∀ (l : List ResultVar) (r : List RS) (vs : List AV), cres P l = some (r.map RS.rv) → rvs env hp r = some vs → ∃ us : List Value, (∀ (f : ResultVar → Sem Value), (∀ t, f (.tmp t) = pure (ts.getD t undef)) → (∀ t ty, f (.cell t ty) = do loadVar ty (← asAddr (ts.getD t undef))) → (l.mapM f).run P w = .ok us w) ∧ us.length = vs.length ∧ RL m w vs (fun i => us[i]?) []
  | [], r, vs, h1, h2 => by
    simp only [cres, Option.some.injEq] at h1
    have : r = [] := by simpa using h1.symm
    subst this
    simp only [rvs, Option.some.injEq] at h2
    subst h2
    exact ⟨[], fun _ _ _ => rfl, rfl, by simp [RL]⟩
  | .tmp t :: l, r, vs, h1, h2 => by
    simp only [cres, Option.map_eq_some_iff] at h1
    obtain ⟨r', h1, h3⟩ := h1
    cases r with
    | nil => simp at h3
    | cons r0 r =>
      simp only [List.map_cons, List.cons.injEq] at h3
      obtain ⟨e1, rfl⟩ := h3
      simp only [rvs, ← e1, rvv, Option.bind_some, Option.map_eq_some_iff] at h2
      obtain ⟨vs', h2, rfl⟩ := h2
      obtain ⟨us, h3, h4, h5⟩ := rvs_ok H E l r vs' h1 h2
      refine ⟨ts.getD t undef :: us, fun f hf hg => by simp only [List.mapM_cons, Sem.run_bind, hf, Sem.run_pure, Result.andThen_ok, h3 f hf hg], by simp [h4], ?_⟩
      simp only [RL]
      exact ⟨[], [], rfl, ⟨_, by simp, nz_ok (R_of_C _ _ (E t))⟩, by simpa using h5⟩
  | .cell t ty :: l, r, vs, h1, h2 => by
    simp only [cres, Option.bind_eq_some_iff, Option.map_eq_some_iff] at h1
    obtain ⟨n, hn, r', h1, h3⟩ := h1
    cases r with
    | nil => simp at h3
    | cons r0 r =>
      simp only [List.map_cons, List.cons.injEq] at h3
      obtain ⟨e1, rfl⟩ := h3
      simp only [rvs, ← e1, rvv, Option.bind_eq_some_iff, Option.map_eq_some_iff] at h2
      obtain ⟨v, hv, vs', h2, rfl⟩ := h2
      obtain ⟨us, h3, h4, h5⟩ := rvs_ok H E l r vs' h1 h2
      split at hv
      · rename_i id off hx
        simp only [Option.bind_eq_some_iff] at hv
        obtain ⟨cs, hcs, v', hv', hv⟩ := hv
        split at hv
        · rename_i hni
          injection hv with hv; subst hv
          have k1 := E t
          rw [hx] at k1
          obtain ⟨g, u, hu, hr, hC⟩ := load_at (P := P) H k1 hcs hn hv' hni
          refine ⟨u :: us, ?_, by simp [h4], ?_⟩
          · intro f hf hg
            rw [hu] at hr
            simp only [List.mapM_cons, Sem.run_bind, hg, hu, asAddr, Sem.run_pure, Result.andThen_ok, loadVar_run, hr, h3 f hf hg]
          · simp only [RL]
            exact ⟨[], [], rfl, ⟨u, by simp, nz_ok (R_of_C _ _ hC)⟩, by simpa using h5⟩
        · cases hv
      · cases hv

theorem results_ok {env : List (Nat × AV)} {ts : Array Value} (H : HInv fr w0 m hp w fl) (E : EnvOk m env ts) {fn : Func} {l : List RS} (hr : cres P fn.results.toList = some (l.map RS.rv)) {u : AV} (hu : results env hp l = some u) :
    ∃ v, (Go.results fn ts).run P w = .ok v w ∧ R m w u v [] := by
  simp only [Proofs.Ytmeakgiojhoofaa.results, Option.map_eq_some_iff] at hu
  obtain ⟨vs, h1, rfl⟩ := hu
  have hrun : ∃ us : List Value, (Go.results fn ts).run P w = .ok (if h : us.toArray.size = 1 then us.toArray[0] else .tuple us.toArray) w ∧ us.length = vs.length ∧ RL m w vs (fun i => us[i]?) [] := by
    unfold Go.results
    rw [Array.mapM_eq_mapM_toList, Sem.run_bind, map_eq_pure_bind, Sem.run_bind]
    obtain ⟨us, h2, h3, h4⟩ := rvs_ok (P := P) H E _ _ _ hr h1
    refine ⟨us, ?_, h3, h4⟩
    rw [h2 _ (fun _ => rfl) (fun _ _ => rfl)]
    simp only [Result.andThen_ok, Sem.run_pure]
  obtain ⟨us, h2, h3, h4⟩ := hrun
  refine ⟨_, h2, ?_⟩
  match vs, us, h3, h4 with
  | [], [], _, _ => simp [tupv, R, RL]
  | [v], [u], _, h =>
    simp only [RL] at h
    obtain ⟨f1, f2, h0, ⟨u', h5, h6⟩, _⟩ := h
    simp at h5 h0
    obtain ⟨rfl, rfl⟩ := h0
    subst h5
    simpa [tupv] using h6
  | v :: v' :: vs, u :: u' :: us, hl, h =>
    simp only [tupv, R]
    refine ⟨(u :: u' :: us).toArray, ?_, by simpa using hl, by simpa using h⟩
    rw [dif_neg (by simp)]

theorem lk_params : ∀ (as : List AV) (i s : Nat), lk (bindParams i as) s = if s < i then .unk else (as[s - i]?).getD .unk
  | [], i, s => by simp [bindParams, lk]
  | v :: vs, i, s => by
    simp only [bindParams, lk]
    by_cases h : i = s
    · subst h; simp
    · rw [if_neg h, lk_params vs (i + 1) s]
      by_cases h1 : s < i
      · rw [if_pos (by omega), if_pos h1]
      · rw [if_neg (by omega), if_neg h1, show s - i = (s - (i + 1)) + 1 by omega]
        simp

theorem env_params {as : List AV} {args : Array Value} (hC : CL m as (fun i => args[i]?)) (hs : args.size = as.length) (N : Nat) : EnvOk m (bindParams 0 as) (args ++ Array.replicate N undef) := by
  intro s
  rw [lk_params]
  simp only [Nat.not_lt_zero, if_false, Nat.sub_zero]
  cases hq : as[s]? with
  | none => simp [C]
  | some x =>
    obtain ⟨u, hu, hCu⟩ := CL_iff.1 hC s x hq
    have hlt : s < args.size := (Array.getElem?_eq_some_iff.1 hu).1
    rw [Array.getD_eq_getD_getElem?, Array.getElem?_append_left hlt, hu]
    exact hCu

/-- Yield's arguments in the loop's slots. -/
theorem env_to : ∀ (ps : List Nat) (vs : List AV) (us : List Value) (env : List (Nat × AV)) (ts : Array Value), EnvOk m env ts → (∀ p ∈ ps, p < ts.size) → vs.length = ps.length → us.length = ps.length → CL m vs (fun i => us[i]?) →
    EnvOk m (bindTo ps vs env) ((ps.zip us).foldl (fun tmps (t, a) => tmps.setIfInBounds t a) ts) ∧ ((ps.zip us).foldl (fun tmps (t, a) => tmps.setIfInBounds t a) ts).size = ts.size
  | [], vs, us, env, ts, E, _, _, _, _ => by
    cases vs <;> exact ⟨E, rfl⟩
  | p :: ps, [], us, env, ts, E, _, h, _, _ => by simp at h
  | p :: ps, v :: vs, [], env, ts, E, _, _, h, _ => by simp at h
  | p :: ps, v :: vs, u :: us, env, ts, E, hp, h1, h2, hC => by
    simp only [CL] at hC
    obtain ⟨⟨u', hu', hC1⟩, hC2⟩ := hC
    simp only [List.getElem?_cons_zero, Option.some.injEq] at hu'
    subst hu'
    simp only [bindTo, List.zip_cons_cons, List.foldl_cons]
    obtain ⟨k1, k2⟩ := env_to ps vs us ((p, v) :: env) (ts.setIfInBounds p u) (E.put (hp p (by simp)) hC1) (fun q hq => by simpa using hp q (by simp [hq])) (by simpa using h1) (by simpa using h2) (by simpa using hC2)
    exact ⟨k1, by rw [k2]; simp⟩
end
end Go.Proofs.Ytmeakgiojhoofaa
