/-
  The evaluator: what it comes to (run), and its equations.
-/
import Derived.Test.YtmeakgiojhoofaaKa
namespace Go.Proofs.Ytmeakgiojhoofaa

section
variable {T : Nat → Option Entry} {f g : Job → Option Res}

theorem agree_some {x y : Option Res} {r : Res} : agree x y = some r ↔ x = some r ∧ y = some r := by
  unfold agree
  split
  · rename_i h; subst h; simp
  · rename_i h
    constructor
    · intro k; cases k
    · rintro ⟨rfl, rfl⟩; exact absurd rfl h

theorem callRes_mono (h : ∀ j r, f j = some r → g j = some r) {k : Nat} {as : List AV} {hps : List Blk} {r : AV × List Blk} (hr : callRes f T k as hps = some r) : callRes g T k as hps = some r := by
  unfold callRes at *
  split at hr
  · exact hr
  · rw [Option.bind_eq_some_iff] at hr ⊢
    obtain ⟨x, h1, h2⟩ := hr
    exact ⟨x, h _ _ h1, h2⟩
  · exact hr

theorem callOp_mono (h : ∀ j r, f j = some r → g j = some r) {dr : Bool} {md : Md} {k : Nat} {vs : List AV} {d : Option Nat} {st : St} {r : Res} (hr : callOp f T dr md k vs d st = some r) : callOp g T dr md k vs d st = some r := by
  cases md <;> simp only [callOp, Option.bind_eq_some_iff, Option.map_eq_some_iff] at hr ⊢
  · obtain ⟨x, h3, y, h4, h5⟩ := hr; exact ⟨x, h3, y, callRes_mono h h4, h5⟩
  · obtain ⟨x, h3, y, h4, h5⟩ := hr; exact ⟨x, h3, y, callRes_mono h h4, h5⟩
  · obtain ⟨x, h3, y, h4, h5⟩ := hr; exact ⟨x, h3, y, callRes_mono h h4, h5⟩
  · obtain ⟨x, h3, h4⟩ := hr; exact ⟨x, h _ _ h3, h4⟩

theorem F_mono (h : ∀ j r, f j = some r → g j = some r) : ∀ j r, F T f j = some r → F T g j = some r := by
  intro j r hr
  rcases j with ⟨s, st⟩ | ⟨d, l, st⟩ | ⟨d, o, st⟩ | ⟨k, as, hp⟩ | ⟨id, vs, hp⟩
  · cases s with
    | skip => exact hr
    | ops d l => exact h _ _ hr
    | opsC chk l =>
      simp only [F, Option.bind_eq_some_iff] at hr ⊢
      obtain ⟨x, h1, h2⟩ := hr
      exact ⟨x, h _ _ h1, h2⟩
    | scope b => exact h _ _ hr
    | seq a b =>
      simp only [F, Option.bind_eq_some_iff] at hr ⊢
      obtain ⟨x, h1, h2⟩ := hr
      refine ⟨x, h _ _ h1, ?_⟩
      split at h2
      · rename_i hx; rw [if_pos hx]; exact h _ _ h2
      · rename_i hx; rw [if_neg hx]; exact h2
    | cond x a b =>
      simp only [F] at hr ⊢
      split at hr
      · rename_i c hc
        cases c
        · exact h _ _ hr
        · exact h _ _ hr
      · rename_i e c hc
        cases e
        · simp only [Bool.false_eq_true, if_false] at hr ⊢
          cases c
          · exact h _ _ hr
          · exact h _ _ hr
        · simp only [if_true, agree_some] at hr ⊢
          exact ⟨h _ _ hr.1, h _ _ hr.2⟩
      · cases hr
    | block id b =>
      simp only [F, Option.map_eq_some_iff] at hr ⊢
      obtain ⟨x, h1, h2⟩ := hr
      exact ⟨x, h _ _ h1, h2⟩
    | loop b =>
      simp only [F, Option.bind_eq_some_iff] at hr ⊢
      obtain ⟨x, h1, h2⟩ := hr
      refine ⟨x, h _ _ h1, ?_⟩
      split at h2
      · rename_i hx; rw [if_pos hx]; exact h _ _ h2
      · rename_i hx; rw [if_neg hx]; exact h2
    | exit id => exact hr
    | ret => exact hr
    | rangef x ps asg body =>
      simp only [F] at hr ⊢
      split at hr
      · simp only [Option.bind_eq_some_iff] at hr ⊢
        obtain ⟨x, h1, h2⟩ := hr
        exact ⟨x, h _ _ h1, h2⟩
      · cases hr
    | ghost q b =>
      simp only [F, Option.bind_eq_some_iff] at hr ⊢
      obtain ⟨x, h1, h2⟩ := hr
      exact ⟨x, h1, h _ _ h2⟩
    | after b q =>
      simp only [F, Option.bind_eq_some_iff] at hr ⊢
      obtain ⟨x, h1, h2⟩ := hr
      exact ⟨x, h _ _ h1, h2⟩
  · cases l with
    | nil => exact hr
    | cons o l =>
      simp only [F, Option.bind_eq_some_iff] at hr ⊢
      obtain ⟨x, h1, h2⟩ := hr
      exact ⟨x, h _ _ h1, h _ _ h2⟩
  · simp only [F, Option.bind_eq_some_iff] at hr ⊢
    obtain ⟨go, h1, h2⟩ := hr
    refine ⟨go, h1, ?_⟩
    cases go
    · exact h2
    · simp only [if_true] at h2 ⊢
      split at h2
      · rename_i md k as hk
        try simp only [hk]
        exact callOp_mono h h2
      · rename_i md x as hk
        try simp only [hk]
        split at h2
        · exact callOp_mono h h2
        · split at h2
          · rename_i hm
            rw [if_pos hm]
            simp only [Option.map_eq_some_iff] at h2 ⊢
            obtain ⟨x, h3, h4⟩ := h2
            exact ⟨x, h _ _ h3, h4⟩
          · cases h2
        · cases h2
      · exact h2
  · simp only [F] at hr ⊢
    split at hr
    · rename_i d hd
      split at hr
      · rename_i hl
        rw [if_pos hl]
        simp only [Option.bind_eq_some_iff] at hr ⊢
        obtain ⟨x, h1, h2⟩ := hr
        exact ⟨x, h _ _ h1, h2⟩
      · cases hr
    · cases hr
  · simp only [F] at hr ⊢
    split at hr
    · split at hr
      · rename_i hl
        rw [if_pos hl]
        simp only [Option.bind_eq_some_iff] at hr ⊢
        obtain ⟨x, h1, h2⟩ := hr
        refine ⟨x, h _ _ h1, ?_⟩
        split at h2
        · rename_i hx
          rw [if_pos hx]
          split at h2
          · simp only [Option.bind_eq_some_iff] at h2 ⊢
            obtain ⟨y, h3, h4⟩ := h2
            exact ⟨y, h _ _ h3, h4⟩
          · cases h2
        · cases h2
      · cases hr
    · cases hr

theorem evn_le {n m : Nat} (hnm : n ≤ m) : ∀ j r, evn T n j = some r → evn T m j = some r := by
  induction n generalizing m with
  | zero => intro j r h; cases h
  | succ n ih =>
    obtain ⟨k, rfl⟩ : ∃ k, m = k + 1 := ⟨m - 1, by omega⟩
    exact F_mono (ih (by omega))

/-- What the evaluator comes to, however long it takes. -/
noncomputable def run (T : Nat → Option Entry) (j : Job) : Option Res :=
  open Classical in if h : ∃ r n, evn T n j = some r then some h.choose else none

theorem run_some {j : Job} {r : Res} : run T j = some r ↔ ∃ n, evn T n j = some r := by
  unfold run
  constructor
  · intro h
    split at h
    · rename_i hx
      obtain ⟨n, hn⟩ := hx.choose_spec
      injection h with h
      exact ⟨n, h ▸ hn⟩
    · cases h
  · rintro ⟨n, hn⟩
    have hx : ∃ r n, evn T n j = some r := ⟨r, n, hn⟩
    rw [dif_pos hx]
    obtain ⟨m, hm⟩ := hx.choose_spec
    have h1 := evn_le (Nat.le_max_left n m) _ _ hn
    have h2 := evn_le (Nat.le_max_right n m) _ _ hm
    rw [h1] at h2
    exact h2.symm

/-- Two runs end within one bound. -/
theorem run_two {a b : Job} {r s : Res} (h : run T a = some r) (k : run T b = some s) : ∃ n, evn T n a = some r ∧ evn T n b = some s := by
  obtain ⟨n, hn⟩ := run_some.1 h
  obtain ⟨m, hm⟩ := run_some.1 k
  exact ⟨max n m, evn_le (Nat.le_max_left _ _) _ _ hn, evn_le (Nat.le_max_right _ _) _ _ hm⟩

theorem callRes_cont {k : Nat} {as : List AV} {hps : List Blk} {r : AV × List Blk} (hr : callRes (run T) T k as hps = some r) : ∃ n, callRes (evn T n) T k as hps = some r := by
  unfold callRes at *
  split at hr
  · exact ⟨0, hr⟩
  · rw [Option.bind_eq_some_iff] at hr
    obtain ⟨x, h1, h2⟩ := hr
    obtain ⟨n, hn⟩ := run_some.1 h1
    exact ⟨n, Option.bind_eq_some_iff.2 ⟨x, hn, h2⟩⟩
  · cases hr

theorem callOp_cont {dr : Bool} {md : Md} {k : Nat} {vs : List AV} {d : Option Nat} {st : St} {r : Res} (hr : callOp (run T) T dr md k vs d st = some r) : ∃ n, callOp (evn T n) T dr md k vs d st = some r := by
  cases md <;> simp only [callOp, Option.bind_eq_some_iff, Option.map_eq_some_iff] at hr ⊢
  · obtain ⟨x, h3, y, h4, h5⟩ := hr; obtain ⟨n, hn⟩ := callRes_cont h4; exact ⟨n, x, h3, y, hn, h5⟩
  · obtain ⟨x, h3, y, h4, h5⟩ := hr; obtain ⟨n, hn⟩ := callRes_cont h4; exact ⟨n, x, h3, y, hn, h5⟩
  · obtain ⟨x, h3, y, h4, h5⟩ := hr; obtain ⟨n, hn⟩ := callRes_cont h4; exact ⟨n, x, h3, y, hn, h5⟩
  · obtain ⟨x, h3, h4⟩ := hr; obtain ⟨n, hn⟩ := run_some.1 h3; exact ⟨n, x, hn, h4⟩

theorem F_cont {j : Job} {r : Res} (hr : F T (run T) j = some r) : ∃ n, F T (evn T n) j = some r := by
  rcases j with ⟨s, st⟩ | ⟨d, l, st⟩ | ⟨d, o, st⟩ | ⟨k, as, hp⟩ | ⟨id, vs, hp⟩
  · cases s with
    | skip => exact ⟨0, hr⟩
    | ops d l => exact run_some.1 hr
    | opsC chk l =>
      simp only [F, Option.bind_eq_some_iff] at hr ⊢
      obtain ⟨x, h1, h2⟩ := hr
      obtain ⟨n, hn⟩ := run_some.1 h1
      exact ⟨n, x, hn, h2⟩
    | scope b => exact run_some.1 hr
    | seq a b =>
      simp only [F, Option.bind_eq_some_iff] at hr ⊢
      obtain ⟨x, h1, h2⟩ := hr
      split at h2
      · rename_i hx
        obtain ⟨n, h3, h4⟩ := run_two h1 h2
        exact ⟨n, x, h3, by rw [if_pos hx]; exact h4⟩
      · rename_i hx
        obtain ⟨n, hn⟩ := run_some.1 h1
        exact ⟨n, x, hn, by rw [if_neg hx]; exact h2⟩
    | cond x a b =>
      simp only [F] at hr ⊢
      split at hr
      · rename_i c hc
        cases c
        · exact run_some.1 hr
        · exact run_some.1 hr
      · rename_i e c hc
        cases e
        · simp only [Bool.false_eq_true, if_false] at hr ⊢
          cases c
          · exact run_some.1 hr
          · exact run_some.1 hr
        · simp only [if_true, agree_some] at hr ⊢
          exact run_two hr.1 hr.2
      · cases hr
    | block id b =>
      simp only [F, Option.map_eq_some_iff] at hr ⊢
      obtain ⟨x, h1, h2⟩ := hr
      obtain ⟨n, hn⟩ := run_some.1 h1
      exact ⟨n, x, hn, h2⟩
    | loop b =>
      simp only [F, Option.bind_eq_some_iff] at hr ⊢
      obtain ⟨x, h1, h2⟩ := hr
      split at h2
      · rename_i hx
        obtain ⟨n, h3, h4⟩ := run_two h1 h2
        exact ⟨n, x, h3, by rw [if_pos hx]; exact h4⟩
      · rename_i hx
        obtain ⟨n, hn⟩ := run_some.1 h1
        exact ⟨n, x, hn, by rw [if_neg hx]; exact h2⟩
    | exit id => exact ⟨0, hr⟩
    | ret => exact ⟨0, hr⟩
    | rangef x ps asg body =>
      simp only [F] at hr ⊢
      split at hr
      · simp only [Option.bind_eq_some_iff] at hr ⊢
        obtain ⟨x, h1, h2⟩ := hr
        obtain ⟨n, hn⟩ := run_some.1 h1
        exact ⟨n, x, hn, h2⟩
      · cases hr
    | ghost q b =>
      simp only [F, Option.bind_eq_some_iff] at hr ⊢
      obtain ⟨x, h1, h2⟩ := hr
      obtain ⟨n, hn⟩ := run_some.1 h2
      exact ⟨n, x, h1, hn⟩
    | after b q =>
      simp only [F, Option.bind_eq_some_iff] at hr ⊢
      obtain ⟨x, h1, h2⟩ := hr
      obtain ⟨n, hn⟩ := run_some.1 h1
      exact ⟨n, x, hn, h2⟩
  · cases l with
    | nil => exact ⟨0, hr⟩
    | cons o l =>
      simp only [F, Option.bind_eq_some_iff] at hr ⊢
      obtain ⟨x, h1, h2⟩ := hr
      obtain ⟨n, h3, h4⟩ := run_two h1 h2
      exact ⟨n, x, h3, h4⟩
  · simp only [F, Option.bind_eq_some_iff] at hr ⊢
    obtain ⟨go, h1, h2⟩ := hr
    cases go
    · exact ⟨0, false, h1, h2⟩
    · simp only [if_true] at h2
      split at h2
      · rename_i md k as hk
        obtain ⟨n, hn⟩ := callOp_cont h2
        exact ⟨n, true, h1, by simp only [if_true]; exact hn⟩
      · rename_i md x as hk
        split at h2
        · obtain ⟨n, hn⟩ := callOp_cont h2
          exact ⟨n, true, h1, by simp only [if_true]; exact hn⟩
        · split at h2
          · rename_i hm
            simp only [Option.map_eq_some_iff] at h2
            obtain ⟨y, h3, h4⟩ := h2
            obtain ⟨n, hn⟩ := run_some.1 h3
            exact ⟨n, true, h1, by simp only [if_true, if_pos hm, Option.map_eq_some_iff]; exact ⟨y, hn, h4⟩⟩
          · cases h2
        · cases h2
      · exact ⟨0, true, h1, by simp only [if_true]; exact h2⟩
  · simp only [F] at hr ⊢
    split at hr
    · rename_i d hd
      split at hr
      · rename_i hl
        simp only [Option.bind_eq_some_iff] at hr
        obtain ⟨x, h1, h2⟩ := hr
        obtain ⟨n, hn⟩ := run_some.1 h1
        exact ⟨n, by simp only [if_pos hl, Option.bind_eq_some_iff]; exact ⟨x, hn, h2⟩⟩
      · cases hr
    · cases hr
  · simp only [F] at hr ⊢
    split at hr
    · split at hr
      · rename_i hl
        simp only [Option.bind_eq_some_iff] at hr
        obtain ⟨x, h1, h2⟩ := hr
        split at h2
        · rename_i hx
          split at h2
          · rename_i env ps asg body j hb
            simp only [Option.bind_eq_some_iff] at h2
            obtain ⟨y, h3, h4⟩ := h2
            obtain ⟨n, h5, h6⟩ := run_two h1 h3
            refine ⟨n, ?_⟩
            simp only [if_pos hl, Option.bind_eq_some_iff]
            refine ⟨x, h5, ?_⟩
            rw [if_pos hx, hb]
            simp only [Option.bind_eq_some_iff]
            exact ⟨y, h6, h4⟩
          · cases h2
        · cases h2
      · cases hr
    · cases hr

theorem run_eq (j : Job) : run T j = F T (run T) j := by
  apply Option.ext
  intro r
  constructor
  · intro h
    obtain ⟨n, hn⟩ := run_some.1 h
    cases n with
    | zero => cases hn
    | succ n => exact F_mono (fun j r h => run_some.2 ⟨n, h⟩) _ _ hn
  · intro h
    obtain ⟨n, hn⟩ := F_cont h
    exact run_some.2 ⟨n + 1, hn⟩
end

/-- A call by itself: what it answers, and what its memory is then. -/
noncomputable def runP (T : Nat → Option Entry) (k : Nat) (as : List AV) (hps : List Blk) : Option (AV × List Blk) := callRes (run T) T k as hps

end Go.Proofs.Ytmeakgiojhoofaa
