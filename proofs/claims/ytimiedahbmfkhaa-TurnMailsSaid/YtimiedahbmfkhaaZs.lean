/- Layer 17: messages that are ordered are the same, each as often; combined they are as combined ahead. -/
import Derived.Test.YtimiedahbmfkhaaZr
import Derived.Test.YtimiedahbmfkhaaZp
namespace Go.Proofs.Ytimiedahbmfkhaa
set_option linter.unusedSimpArgs false
set_option linter.unusedVariables false
set_option maxHeartbeats 4000000
set_option maxRecDepth 100000
theorem tst_map {α β : Type} [Inhabited α] [Inhabited β] (g : α → β) {p : List Int} {l : List α} : ∀ {i : Nat}, i ≤ l.length → tst p (l.map g) i = ((tst p l i).1.map g, (tst p l i).2.map g)
  | 0, _ => rfl
  | i + 1, h => by
    have ih := @tst_map α β _ _ g p l i (by omega)
    have hl := (tst_len (p := p) (l := l) (i := i) (by omega)).1
    simp only [tst, ih, List.length_map]
    have hk := (tst_at (p := p) (i := i) (n := (tst p l i).1.length) (by omega)).1
    generalize (p.getD i 0 % ((tst p l i).1.length : Int)).toNat = k at *
    generalize (tst p l i).1 = a at *
    refine Prod.ext ?_ ?_
    · simp only [List.map_append, List.map_take, List.map_drop]
    · simp only [List.map_append, List.map_cons, List.map_nil]
      congr 2
      rw [List.getD_eq_getElem?_getD, List.getD_eq_getElem?_getD, List.getElem?_map, List.getElem?_eq_getElem hk]; rfl
theorem ordd_map {α β : Type} [Inhabited α] [Inhabited β] (g : α → β) (p : List Int) (l : List α) : ordd p (l.map g) = (ordd p l).map g := by
  unfold ordd
  rw [List.length_map, tst_map g (Nat.le_refl _)]
theorem ordd_nil {α : Type} [Inhabited α] (l : List α) : ordd [] l = l := by
  rw [ordd_min]; simp [tst]
theorem ordd_at (p : List Int) (l : List Ml) : ordd p l = (ordd p (upI l.length)).map fun x => l.getD x.toNat default := by
  rw [← ordd_map]
  congr 1
  apply List.ext_getElem (by simp [upI])
  intro i h1 h2
  simp [upI, List.getD_eq_getElem?_getD, List.getElem?_eq_getElem h1]
theorem lst_spec : ∀ {l : List Int}, l ≠ [] → lst l ∈ l ∧ ∀ y ∈ l, lst l ≤ y := by
  intro l
  refine snocIndK (p := fun l => l ≠ [] → lst l ∈ l ∧ ∀ y ∈ l, lst l ≤ y) (by simp) (fun l x ih _ => ?_) l
  by_cases h : l = []
  · subst h; simp [lst]
  · obtain ⟨h1, h2⟩ := ih h
    rw [lst_snoc h]
    split
    · refine ⟨by simp, fun y hy => ?_⟩
      rcases List.mem_append.1 hy with hy | hy
      · have := h2 y hy; omega
      · rw [List.mem_singleton] at hy; omega
    · refine ⟨by simp [h1], fun y hy => ?_⟩
      rcases List.mem_append.1 hy with hy | hy
      · exact h2 y hy
      · rw [List.mem_singleton] at hy; omega
theorem lst_perm {a b : List Int} (h : a.Perm b) : lst a = lst b := by
  by_cases ha : a = []
  · subst ha
    have := h.nil_eq
    rw [← this]
  · have hb : b ≠ [] := fun e => ha (by rw [e] at h; exact h.eq_nil)
    obtain ⟨a1, a2⟩ := lst_spec ha
    obtain ⟨b1, b2⟩ := lst_spec hb
    have := a2 _ (h.mem_iff.2 b1)
    have := b2 _ (h.mem_iff.1 a1)
    omega
theorem lD_perm {a b : List Ml} (h : a.Perm b) : lD a = lD b := by
  funext k
  exact lst_perm ((h.filter _).map _)
theorem kyL_perm {a b : List Ml} (h : a.Perm b) : (kyL a).Perm (kyL b) := by
  refine (List.perm_ext_iff_of_nodup (kyL_nodup a) (kyL_nodup b)).2 fun k => ?_
  rw [kyL_mem, kyL_mem]
  exact ⟨fun ⟨m, h1, h2⟩ => ⟨m, h.mem_iff.1 h1, h2⟩, fun ⟨m, h1, h2⟩ => ⟨m, h.mem_iff.2 h1, h2⟩⟩
def cmb (l : List Ml) : List Ml := (sorted ltT (kyL l)).map fun k => ⟨k.s, k.d, k.v, lD l k⟩
theorem cmb_perm {a b : List Ml} (h : a.Perm b) : cmb a = cmb b := by
  unfold cmb
  rw [lD_perm h, sorted_congrK ordrT (kyL_perm h)]
theorem cmb_cells (l : List Ml) : @mfs (ci l) (sorted ltT (kyL l)) = mls (cmb l) := by
  unfold cmb
  generalize sorted ltT (kyL l) = S
  induction S with
  | nil => rfl
  | cons k S ih => rw [@mfs_cons (ci l), List.map_cons, mls_cons, ih]; rfl
theorem cmb_len (l : List Ml) : (cmb l).length ≤ l.length := by
  unfold cmb; rw [List.length_map, sorted_len]; exact kyL_len l
theorem mls_inj {a b : List Ml} (h : mls a = mls b) : a = b := by
  induction a generalizing b with
  | nil => cases b with
    | nil => rfl
    | cons y b => simp [mls, mlC] at h
  | cons x a ih =>
    cases b with
    | nil => simp [mls, mlC] at h
    | cons y b =>
      simp only [mls_cons, List.cons.injEq, AV.int.injEq, true_and] at h
      obtain ⟨h1, h2, h3, h4, h5⟩ := h
      rw [ih h5]
      congr 1
      cases x; cases y; simp_all
def CmbQ (as : List AV) (hp : List Blk) (l : List Ml) : Prop := as = [.sl 4 (mls l)] ∧ hp = [] ∧ l.length ≤ 60000
open Classical in
noncomputable def gCombine (as : List AV) (hp : List Blk) : Option (AV × List Blk) :=
  if h : ∃ l : List Ml, CmbQ as hp l then some (.vec 4 (mls (cmb h.choose)), []) else none
theorem gCombine_eq {l : List Ml} (hl : l.length ≤ 60000) : gCombine [.sl 4 (mls l)] [] = some (.vec 4 (mls (cmb l)), []) := by
  have hx : ∃ l' : List Ml, CmbQ [.sl 4 (mls l)] [] l' := ⟨l, rfl, rfl, hl⟩
  unfold gCombine
  rw [dif_pos hx]
  have h2 := hx.choose_spec
  generalize hx.choose = q at h2
  obtain ⟨h3, _, _⟩ := h2
  simp only [List.cons.injEq, AV.sl.injEq, and_true, true_and] at h3
  rw [mls_inj h3]
noncomputable def tabM : Nat → Option Entry := fun k => if k = 1124 then some (.orc gCombine) else tab k
theorem m1124 : tabM 1124 = some (.orc gCombine) := rfl
theorem tabM_le : TLe tab tabM := by
  intro k e h
  unfold tabM
  split
  · rename_i hk; subst hk; rw [nd1124] at h; cases h
  · exact h
theorem up {k : Nat} {as : List AV} {hps : List Blk} {r : AV × List Blk} (h : runP tab k as hps = some r) : runP tabM k as hps = some r := runP_up tabM_le h
theorem cmb_run {l : List Ml} (hl : l.length ≤ 60000) : runP tabM 1124 [.sl 4 (mls l)] [] = some (.vec 4 (mls (cmb l)), []) := by
  rw [runP_orc m1124]; exact gCombine_eq hl
theorem goodN_of {P : Program} (G : Good P fid tab) (h1 : ∀ f, fid f = some 1124 → EntryOk P fid f (.fn d1124)) : Good P fid tabN := by
  intro f k e hf he
  unfold tabN at he
  split at he
  · rename_i hk; subst hk; injection he with he; subst he; exact h1 f hf
  · exact G f k e hf he
theorem goodM_of {P : Program} (G : Good P fid tab) (GN : Good P fid tabN) : Good P fid tabM := by
  intro f k e hf he
  unfold tabM at he
  split at he
  · rename_i hk; subst hk; injection he with he; subst he
    have hthere : FnThere P f := by
      obtain ⟨fn, c, q1, q2, q3, _⟩ := GN f 1124 _ hf u1124
      exact ⟨fn, q1, by rw [q2]; rfl, q3⟩
    refine ⟨hthere, fun as hps r h => ?_⟩
    unfold gCombine at h
    split at h
    · rename_i hx
      injection h with h; subst h
      have hsp := hx.choose_spec
      generalize hx.choose = q at hsp ⊢
      obtain ⟨b1, b2, b3⟩ := hsp
      rw [b1, b2]
      have hc := combine_fn GN b3
      rw [cmb_cells] at hc
      exact (C_ok hc hf).2
    · cases h
  · exact G f k e hf he
end Go.Proofs.Ytimiedahbmfkhaa
