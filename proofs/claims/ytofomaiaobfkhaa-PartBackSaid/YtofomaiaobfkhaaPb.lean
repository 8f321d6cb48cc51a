/- Layer 6: merged rows. -/
import Derived.Test.YtofomaiaobfkhaaPa
import Derived.Test.YtofomaiaobfkhaaHr
namespace Go.Proofs.Ytofomaiaobfkhaa
set_option linter.unusedSimpArgs false
set_option linter.unusedVariables false
set_option maxHeartbeats 4000000
set_option maxRecDepth 100000
theorem drain_l {l : List Int} (hs : l.length ≤ 1000000) : runP tab 1252 [.ifc 44 (.ref 0 0)] [.row false [.vec 1 (ints l)]] = some (.vec 1 (ints (sorted ltI l)), [.row false [.vec 1 []]]) := by
  have := drain_n (d := l.toArray) (by simpa using hs)
  simpa using this
theorem flat_snoc {l : List (List Int)} {i : Nat} (h : i < l.length) : (l.take (i + 1)).flatten = (l.take i).flatten ++ l.getD i [] := by
  rw [take_succ_getD h, List.flatten_append]
  have : (l.getD i default) = l.getD i [] := rfl
  rw [this]; simp
theorem flat_take_le (l : List (List Int)) (i : Nat) : (l.take i).flatten.length ≤ l.flatten.length := by
  conv => rhs; rw [← List.take_append_drop i l]
  rw [List.flatten_append, List.length_append]; omega
theorem row_le {l : List (List Int)} {i : Nat} (h : i < l.length) : (l.getD i []).length ≤ l.flatten.length := by
  have h1 := flat_take_le l (i + 1)
  rw [flat_snoc h, List.length_append] at h1; omega
theorem merge_run {l : List (List Int)} (hl : l.length ≤ 1000000) (hf : l.flatten.length ≤ 1000000) : runP tab 1246 [.sl 1 (owS l)] [] = some (.vec 1 (ints (sorted ltI l.flatten)), []) := by
  refine runP_fn t1246 rfl ?_
  have g := drain_l (l := l.flatten) hf
  simp (config := { maxSteps := 1000000 }) (disch := omega) only [go_sem, ↓reduceIte, Nat.reduceEqDiff, Nat.reduceAdd, Int.reduceToNat, reduceCtorEq, Nat.reduceLeDiff, Nat.reduceSub, Nat.reduceDiv, Nat.reduceMod, Nat.reduceMul, d1246]
  refine Ev_loop0 (fun i => ⟨[(3, .ref 1 0), (8, .sl 1 (owS l)), (9, .int .i64 (l.length : Int)), (10, .int .i64 (i : Int))], [.dead, .row false [.vec 1 (ints (l.take i).flatten)]], 0, [(0, 2, [3, 8, 9, 10], [(3, 1)])]⟩) l.length rfl (fun i hi => ?_) ?_
  · have h1 := flat_snoc hi
    have h2 := flat_take_le l i
    have h3 := row_le hi
    have e : ∀ a b : List Int, ints a ++ ints b = ints (a ++ b) := fun a b => by simp [ints]
    rw [h1]
    generalize (l.take i).flatten = X at *
    simp (config := { maxSteps := 1000000 }) (disch := omega) only [go_sem, ↓reduceIte, Nat.reduceEqDiff, Nat.reduceAdd, Int.reduceToNat, reduceCtorEq, Nat.reduceLeDiff, Nat.reduceSub, Nat.reduceDiv, Nat.reduceMod, Nat.reduceMul, d1246_b0, e]
  · rw [List.take_length]
    simp (config := { maxSteps := 1000000 }) (disch := omega) only [go_sem, ↓reduceIte, Nat.reduceEqDiff, Nat.reduceAdd, Int.reduceToNat, reduceCtorEq, Nat.reduceLeDiff, Nat.reduceSub, Nat.reduceDiv, Nat.reduceMod, Nat.reduceMul, d1246_b0, g]
def upb (o : List Int) (x : Int) : Nat := (o.takeWhile fun y => decide (y ≤ x)).length
theorem upb_le (o : List Int) (x : Int) : upb o x ≤ o.length := (List.takeWhile_prefix _).length_le
theorem upb_before : ∀ {o : List Int} {x : Int} {i : Nat}, i < upb o x → o.getD i 0 ≤ x
  | [], x, i, h => by simp [upb] at h
  | y :: o, x, i, h => by
    unfold upb at h
    rw [List.takeWhile_cons] at h
    by_cases hy : y ≤ x
    · rw [if_pos (by simpa using hy)] at h
      cases i with
      | zero => simpa using hy
      | succ i => simpa using upb_before (o := o) (x := x) (i := i) (by simpa [upb] using h)
    · rw [if_neg (by simpa using hy)] at h; simp at h
theorem upb_at : ∀ {o : List Int} {x : Int}, upb o x < o.length → x < o.getD (upb o x) 0
  | [], x, h => by simp [upb] at h
  | y :: o, x, h => by
    unfold upb at h ⊢
    rw [List.takeWhile_cons] at h ⊢
    by_cases hy : y ≤ x
    · rw [if_pos (by simpa using hy)] at h ⊢
      have := upb_at (o := o) (x := x) (by simpa [upb] using h)
      simpa [upb] using this
    · rw [if_neg (by simpa using hy)]; simp; omega
def insM (o : List Int) (x : Int) : List Int := o.take (upb o x) ++ x :: o.drop (upb o x)
theorem insM_perm (o : List Int) (x : Int) : (insM o x).Perm (o ++ [x]) := by
  unfold insM
  refine (List.perm_middle).trans ?_
  rw [List.take_append_drop]
  exact (List.perm_append_singleton x o).symm
theorem insM_srtd {o : List Int} (h : srtd ltI o) (x : Int) : srtd ltI (insM o x) := by
  unfold insM srtd
  rw [List.pairwise_append, List.pairwise_cons]
  have hle : ∀ a b, ltI b a = false ↔ a ≤ b := fun a b => by simp [ltI]
  have hbef : ∀ a ∈ o.take (upb o x), a ≤ x := by
    intro a ha
    obtain ⟨i, hi, rfl⟩ := List.getElem_of_mem ha
    rw [List.length_take] at hi
    have := upb_before (o := o) (x := x) (i := i) (by omega)
    rw [List.getD_eq_getElem?_getD, List.getElem?_eq_getElem (by omega)] at this
    simpa using this
  have haft : ∀ a ∈ o.drop (upb o x), x ≤ a := by
    intro a ha
    by_cases hu : upb o x < o.length
    · have h1 := upb_at hu
      have h2 : o.drop (upb o x) = o.getD (upb o x) 0 :: o.drop (upb o x + 1) := by
        rw [List.drop_eq_getElem_cons hu, List.getD_eq_getElem?_getD, List.getElem?_eq_getElem hu]; rfl
      have h3 : srtd ltI (o.drop (upb o x)) := List.Pairwise.sublist (List.drop_sublist _ _) h
      rw [h2] at ha h3
      rcases List.mem_cons.1 ha with rfl | ha
      · omega
      · have := (hle _ _).1 ((List.pairwise_cons.1 h3).1 a ha); omega
    · rw [List.drop_eq_nil_of_le (by omega)] at ha; cases ha
  refine ⟨List.Pairwise.sublist (List.take_sublist _ _) h, ⟨fun a ha => (hle _ _).2 (haft a ha), List.Pairwise.sublist (List.drop_sublist _ _) h⟩, fun a ha b hb => (hle _ _).2 ?_⟩
  have h1 := hbef a ha
  rcases List.mem_cons.1 hb with rfl | hb
  · exact h1
  · have := haft b hb; omega
def mrg (l : List Int) : List Int := l.foldl insM []
theorem mrg_snoc (l : List Int) (x : Int) : mrg (l ++ [x]) = insM (mrg l) x := by simp [mrg]
theorem mrg_gen : ∀ (l o : List Int), srtd ltI o → srtd ltI (l.foldl insM o) ∧ (l.foldl insM o).Perm (o ++ l)
  | [], o, h => ⟨h, by simp⟩
  | x :: l, o, h => by
    obtain ⟨h1, h2⟩ := mrg_gen l (insM o x) (insM_srtd h x)
    refine ⟨h1, h2.trans ?_⟩
    have := (insM_perm o x).append_right l
    simpa using this
theorem mrg_sorted (l : List Int) : mrg l = sorted ltI l := by
  obtain ⟨h1, h2⟩ := mrg_gen l [] List.Pairwise.nil
  exact srtd_uni ordrI h1 (sorted_srtd ordrI l) ((by simpa using h2 : (l.foldl insM []).Perm l).trans (sorted_perm l).symm)
theorem mrg_len (l : List Int) : (mrg l).length = l.length := by rw [mrg_sorted, sorted_len]
def rm0 (l : List (List Int)) (i : Nat) : St := ⟨[(0, .sl 1 (owS l)), (3, .own 1 0), (4, .int .i64 (i : Int))], [.row false (ints (mrg (l.take i).flatten))], 0, [(0, 1, [0, 3, 4], [(3, 0)])]⟩
def rm1 (l : List (List Int)) (i k : Nat) : St := ⟨[(0, .sl 1 (owS l)), (3, .own 1 0), (4, .int .i64 (i : Int)), (5, .int .i64 (k : Int))], [.row false (ints (mrg ((l.take i).flatten ++ (l.getD i []).take k)))], 0, [(1, 1, [0, 3, 4, 5], [(3, 0)]), (0, 1, [0, 3, 4], [(3, 0)])]⟩
def rm2 (l : List (List Int)) (o : List Int) (i k p : Nat) : St := ⟨[(0, .sl 1 (owS l)), (3, .own 1 0), (4, .int .i64 (i : Int)), (5, .int .i64 (k : Int)), (6, .int .i64 (p : Int))], [.row false (ints o)], 0, [(2, 1, [0, 3, 4, 5, 6], [(3, 0)]), (1, 1, [0, 3, 4, 5], [(3, 0)]), (0, 1, [0, 3, 4], [(3, 0)])]⟩
theorem rm2_loop {l : List (List Int)} {o : List Int} {i k : Nat} {Q : AX → St → Prop} (hl : l.length ≤ 1000000) (hi : i < l.length) (hr : (l.getD i []).length ≤ 1000000) (hk : k < (l.getD i []).length) (ho : o.length ≤ 1000000)
    (hq : Q (.exit 4) ⟨[(0, .sl 1 (owS l)), (3, .own 1 0), (4, .int .i64 (i : Int)), (5, .int .i64 (k : Int)), (6, .int .i64 (upb o ((l.getD i []).getD k 0) : Int)), (40, .bool false)], [.row false (ints o)], 0, [(2, 1, [0, 3, 4, 5, 6], [(3, 0)]), (1, 1, [0, 3, 4, 5], [(3, 0)]), (0, 1, [0, 3, 4], [(3, 0)])]⟩) : Ev tab (.loop d1247_b2) (rm2 l o i k 0) Q := by
  have hu := upb_le o ((l.getD i []).getD k 0)
  refine Ev_loop0 (rm2 l o i k) (upb o ((l.getD i []).getD k 0)) rfl (fun p hp => ?_) ?_
  · have h1 := upb_before hp
    simp only [rm2]
    simp (config := { maxSteps := 1000000 }) (disch := omega) only [go_sem, ↓reduceIte, Nat.reduceEqDiff, Nat.reduceAdd, Int.reduceToNat, reduceCtorEq, Nat.reduceLeDiff, Nat.reduceSub, Nat.reduceDiv, Nat.reduceMod, Nat.reduceMul, d1247_b2, h1]
  · simp only [rm2]
    by_cases h : upb o ((l.getD i []).getD k 0) < o.length
    · have h1 := upb_at h
      simp (config := { maxSteps := 1000000 }) (disch := omega) only [go_sem, ↓reduceIte, Nat.reduceEqDiff, Nat.reduceAdd, Int.reduceToNat, reduceCtorEq, Nat.reduceLeDiff, Nat.reduceSub, Nat.reduceDiv, Nat.reduceMod, Nat.reduceMul, d1247_b2]
      exact hq
    · simp (config := { maxSteps := 1000000 }) (disch := omega) only [go_sem, ↓reduceIte, Nat.reduceEqDiff, Nat.reduceAdd, Int.reduceToNat, reduceCtorEq, Nat.reduceLeDiff, Nat.reduceSub, Nat.reduceDiv, Nat.reduceMod, Nat.reduceMul, d1247_b2]
      exact hq
theorem rmerge_run {l : List (List Int)} (hl : l.length ≤ 1000000) (hf : l.flatten.length ≤ 100000) : runP tab 1247 [.sl 1 (owS l)] [] = some (.vec 1 (ints (sorted ltI l.flatten)), []) := by
  refine runP_fn t1247 rfl ?_
  rw [← mrg_sorted]
  simp (config := { maxSteps := 1000000 }) (disch := omega) only [go_sem, ↓reduceIte, Nat.reduceEqDiff, Nat.reduceAdd, Int.reduceToNat, reduceCtorEq, Nat.reduceLeDiff, Nat.reduceSub, Nat.reduceDiv, Nat.reduceMod, Nat.reduceMul, d1247]
  refine Ev_loop0 (rm0 l) l.length (by simp [rm0, mrg, ints_nil]) (fun i hi => ?_) ?_
  · have h3 := row_le hi
    have h2 := flat_take_le l (i + 1)
    have h1 := flat_snoc hi
    rw [h1, List.length_append] at h2
    simp only [rm0]
    simp (config := { maxSteps := 1000000 }) (disch := omega) only [go_sem, ↓reduceIte, Nat.reduceEqDiff, Nat.reduceAdd, Int.reduceToNat, reduceCtorEq, Nat.reduceLeDiff, Nat.reduceSub, Nat.reduceDiv, Nat.reduceMod, Nat.reduceMul, d1247_b0]
    refine Ev_loop0 (rm1 l i) (l.getD i []).length (by simp [rm1]) (fun k hk => ?_) ?_
    · have hlen : (mrg ((l.take i).flatten ++ (l.getD i []).take k)).length ≤ 100000 := by rw [mrg_len, List.length_append, List.length_take]; omega
      have hs : mrg ((l.take i).flatten ++ (l.getD i []).take (k + 1)) = insM (mrg ((l.take i).flatten ++ (l.getD i []).take k)) ((l.getD i []).getD k 0) := by
        rw [take_succ_getD hk, ← List.append_assoc, mrg_snoc]; rfl
      simp only [rm1]
      rw [hs]
      generalize mrg ((l.take i).flatten ++ (l.getD i []).take k) = o at *
      have hu := upb_le o ((l.getD i []).getD k 0)
      have e : ∀ a b : List Int, ints a ++ ints b = ints (a ++ b) := fun a b => by simp [ints]
      simp (config := { maxSteps := 1000000 }) (disch := omega) only [go_sem, ↓reduceIte, Nat.reduceEqDiff, Nat.reduceAdd, Int.reduceToNat, reduceCtorEq, Nat.reduceLeDiff, Nat.reduceSub, Nat.reduceDiv, Nat.reduceMod, Nat.reduceMul, d1247_b1]
      refine rm2_loop hl hi (by omega) hk (by omega) ?_
      unfold insM
      simp (config := { maxSteps := 1000000 }) (disch := omega) only [go_sem, ↓reduceIte, Nat.reduceEqDiff, Nat.reduceAdd, Int.reduceToNat, reduceCtorEq, Nat.reduceLeDiff, Nat.reduceSub, Nat.reduceDiv, Nat.reduceMod, Nat.reduceMul]
      rw [List.append_assoc]; rfl
    · simp only [rm1, h1, List.take_length]
      simp (config := { maxSteps := 1000000 }) (disch := omega) only [go_sem, ↓reduceIte, Nat.reduceEqDiff, Nat.reduceAdd, Int.reduceToNat, reduceCtorEq, Nat.reduceLeDiff, Nat.reduceSub, Nat.reduceDiv, Nat.reduceMod, Nat.reduceMul, d1247_b1]
  · simp only [rm0, List.take_length]
    simp (config := { maxSteps := 1000000 }) (disch := omega) only [go_sem, ↓reduceIte, Nat.reduceEqDiff, Nat.reduceAdd, Int.reduceToNat, reduceCtorEq, Nat.reduceLeDiff, Nat.reduceSub, Nat.reduceDiv, Nat.reduceMod, Nat.reduceMul, d1247_b0]
theorem parted_run : runP tab 1243 [] [] = some (.bool true, []) := by
  refine runP_fn t1243 rfl ?_
  have g1 := home_run (v := 0) (w := 4)
  have g2 := home_run (v := 1) (w := 4)
  have g3 := home_run (v := 2) (w := 4)
  have g4 := parts_run' (n := 3) (w := 2)
  have g5 := parts_run' (n := 201) (w := 2)
  rw [show hmR 0 4 = 1 by decide, show hmOk 0 4 = true by decide] at g1
  rw [show hmR 1 4 = 0 by decide, show hmOk 1 4 = true by decide] at g2
  rw [show hmR 2 4 = 3 by decide, show hmOk 2 4 = true by decide] at g3
  rw [show ptR 3 2 = [[1], [0, 2]] by decide, show ptE 3 2 = 0 by decide] at g4
  rw [show ptR 201 2 = [] by decide, show ptE 201 2 = 1 by decide] at g5
  have g6 := same06_run (a := [[1], [0, 2]]) (b := [[1], [0, 2]]) (by simp) (by simp) (fun i => by rcases i with _ | _ | i <;> simp) (fun i => by rcases i with _ | _ | i <;> simp)
  have g7 := merge_run (l := [[1], [0, 2]]) (by simp) (by simp)
  rw [← mrg_sorted, show mrg [[1], [0, 2]].flatten = [0, 1, 2] by decide] at g7
  have g8 := ints_run (a := [0, 1, 2]) (b := [0, 1, 2]) (by simp) (by simp)
  simp only [owS, owV, rwL, rwV, List.map_cons, List.map_nil, ints_cons, ints_nil, beq_self_eq_true] at g4 g5 g6 g7 g8
  simp (config := { maxSteps := 1000000 }) (disch := omega) only [go_sem, ↓reduceIte, Nat.reduceEqDiff, Nat.reduceAdd, Int.reduceToNat, reduceCtorEq, Nat.reduceLeDiff, Nat.reduceSub, Nat.reduceDiv, Nat.reduceMod, Nat.reduceMul, d1243, g1, g2, g3, g4, g5, g6, g7, g8]
theorem owV_cut {R : List (List Int)} {u : Nat} (h : u < R.length) : ((owV R).drop u).take 1 = [.vec 1 (ints (R.getD u []))] := by
  rw [owV, ← List.map_drop, List.drop_eq_getElem_cons h, List.getD_eq_getElem?_getD, List.getElem?_eq_getElem h]; rfl
theorem owV_pkset {n id : Nat} {hp : List Blk} (hn : n ≤ id) : ∀ {R : List (List Int)} {u : Nat} {r : List Int}, u < R.length → hp[id]? = some (.row false (ints r)) → pkL n hp ((owV R).set u (.own 1 id)) = some (owV (R.set u r), hp.set id .dead)
  | [], _, _, h, _ => by simp at h
  | x :: R, 0, r, _, hb => by
    show pkL n hp (.own 1 id :: owV R) = some (.vec 1 (ints r) :: owV R, _)
    have hnl : ¬ id < n := by omega
    simp only [pkL, pk, if_neg hnl, hb, ints_noid, if_true, Option.bind_some, owV_pk, Option.map_some]
  | x :: R, u + 1, r, h, hb => by
    have ih := owV_pkset hn (R := R) (u := u) (r := r) (by simpa using h) hb
    show pkL n hp (.vec 1 (ints x) :: (owV R).set u (.own 1 id)) = some (.vec 1 (ints x) :: owV (R.set u r), _)
    simp only [pkL, pk, Option.bind_some, ih, Option.map_some]
theorem allL_setno {p : AV → Bool} {x : AV} (hx : x.allv p = false) : ∀ {cs : List AV} {u : Nat}, u < cs.length → allL p (cs.set u x) = false
  | [], _, h => by simp at h
  | c :: cs, 0, _ => by simp [allL, hx]
  | c :: cs, u + 1, h => by simp [allL, allL_setno hx (cs := cs) (u := u) (by simpa using h)]
theorem Ev_stepL {T : Nat → Option Entry} {b : Stmt} {st : St} {Q : AX → St → Prop} (L : St → Prop) (hL : ∀ s, L s ↔ Ev T (.loop b) s Q) (h : Ev T b st (fun x s => x = .normal ∧ L s)) : Ev T (.loop b) st Q := by
  obtain ⟨⟨x, s⟩, h1, h2, h3⟩ := h
  exact Ev_step ⟨⟨x, s⟩, h1, h2, rfl⟩ ((hL s).1 h3)
theorem set_rdc {l : List AV} {u : Nat} {x : AV} (h : u < l.length) : rdc ((l.set u x).drop u) none = some x := by
  rw [rdc, List.drop_eq_getElem_cons (by simpa using h)]; simp
theorem set_cut1 {l : List AV} {u : Nat} {x : AV} (h : u < l.length) : ((l.set u x).drop u).take 1 = [x] := by
  rw [List.drop_eq_getElem_cons (by simpa using h)]; simp
end Go.Proofs.Ytofomaiaobfkhaa
