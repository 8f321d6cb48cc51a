/- Layer 5: postings are right, or not, and tell just these places of words. -/
import Derived.Test.YtmckpijdjoifoaaCr
namespace Go.Proofs.Ytmckpijdjoifoaa
set_option linter.unusedSimpArgs false
set_option linter.unusedVariables false
set_option maxHeartbeats 4000000
set_option maxRecDepth 100000
theorem neg7 {l : List Int} {i : Nat} (h : i < l.length) : (List.replicate i (-7) ++ l.drop i).set i (-7) = List.replicate (i + 1) (-7) ++ l.drop (i + 1) := by
  rw [List.drop_eq_getElem_cons h, List.set_append_right _ _ (by simp)]
  simp only [List.length_replicate, Nat.sub_self, List.set_cons_zero, List.replicate_succ', List.append_assoc, List.cons_append, List.nil_append]
theorem neg7_len {l : List Int} {i : Nat} (h : i ≤ l.length) : (List.replicate i (-7) ++ l.drop i).length = l.length := by simp; omega
theorem tl_end {P : List Po} (hP : okP P) (gp : runP tabM 1553 [] [] = some (.bool true, [])) (gs : runP tabM 1560 [.sl 2 (poS P), .sl 2 (poS P)] [] = some (.bool true, [])) (F A B C : List Int) (hF : F.length ≤ 1000) (hA : A.length ≤ 1000) : Ev tabM (.loop d1590_b0) ⟨[(0, .sl 2 (poS P)), (11, .own 2 0), (13, .own 1 1), (21, .own 1 5), (22, .bool true), (23, .int .i64 0)], [.row false (poV P), .row false (ints A), .row false (ints A), .row false (ints B), .row false (ints B), .row false (ints F), .row false (ints F), .row false (ints C), .row false (ints C)], 0, [(0, 9, [0, 11, 13, 21, 22, 23], [(11, 0), (13, 1), (21, 5)])]⟩ (fun x st => thn (unx 0 x) (Ev tabM (.ghost (.keep [0, 11, 13, 22]) (.seq (.seq (.ops false [⟨some 24, .move (.val (.int .i64 0)), none⟩]) (.block 2 (.ghost (.push 1 [0, 11, 13, 22, 24]) (.loop d1590_b1)))) (.ghost (.keep [0, 11, 22]) (.seq (.ops false [⟨some 138, .call .quiet 1553 [], none⟩, ⟨some 139, .move (.tmp 138), none⟩, ⟨some 140, .move (.tmp 22), some (139, true)⟩, ⟨some 141, .pick (.tmp 139) (.tmp 140) (.val (.bool false)), none⟩, ⟨some 142, .move (.tmp 141), none⟩, ⟨some 143, .move (.tmp 0), some (142, true)⟩, ⟨some 144, .move (.tmp 11), some (142, true)⟩, ⟨some 145, .call .quiet 1560 [.tmp 143, .tmp 144], some (142, true)⟩, ⟨some 146, .pick (.tmp 142) (.tmp 145) (.val (.bool false)), none⟩, ⟨some 10, .move (.tmp 146), none⟩]) .ret)))) st (finQ 0 [⟨.tmp 10, []⟩] (.bool true, []))) (finQ 0 [⟨.tmp 10, []⟩] (.bool true, []) (unx 0 x) st)) := by
  have LA := ints_length A
  have LF := ints_length F
  refine Ev_loop0 (fun i => ⟨[(0, .sl 2 (poS P)), (11, .own 2 0), (13, .own 1 1), (21, .own 1 5), (22, .bool true), (23, .int .i64 (i : Int))], [.row false (poV P), .row false (ints A), .row false (ints A), .row false (ints B), .row false (ints B), .row false (ints (List.replicate i (-7) ++ F.drop i)), .row false (ints F), .row false (ints C), .row false (ints C)], 0, [(0, 9, [0, 11, 13, 21, 22, 23], [(11, 0), (13, 1), (21, 5)])]⟩) F.length rfl (fun i hi => ?_) ?_
  · have e := neg7 hi
    have l1 := neg7_len (Nat.le_of_lt hi)
    have Lx := ints_length (List.replicate i (-7) ++ F.drop i)
    rw [← e]
    generalize List.replicate i (-7) ++ F.drop i = X at *
    simp (config := { maxSteps := 1000000 }) (disch := omega) only [go_sem, ↓reduceIte, Nat.reduceEqDiff, Nat.reduceAdd, reduceCtorEq, d1590_b0, Lx, l1]
  · have l1 := neg7_len (Nat.le_refl F.length)
    have Lx := ints_length (List.replicate F.length (-7) ++ F.drop F.length)
    generalize List.replicate F.length (-7) ++ F.drop F.length = X at *
    simp (config := { maxSteps := 1000000 }) (disch := omega) only [go_sem, ↓reduceIte, Nat.reduceEqDiff, Nat.reduceAdd, reduceCtorEq, d1590_b0, Lx, l1]
    refine Ev_loop0 (fun i => ⟨[(0, .sl 2 (poS P)), (11, .own 2 0), (13, .own 1 1), (22, .bool true), (24, .int .i64 (i : Int))], [.row false (poV P), .row false (ints (List.replicate i (-7) ++ A.drop i)), .row false (ints A), .row false (ints B), .row false (ints B), .row false (ints X), .row false (ints F), .row false (ints C), .row false (ints C)], 0, [(1, 9, [0, 11, 13, 22, 24], [(11, 0), (13, 1)]), (0, 9, [0, 11, 13, 21, 22, 23], [(11, 0), (13, 1), (21, 5)])]⟩) A.length rfl (fun i hi => ?_) ?_
    · have e := neg7 hi
      have l1 := neg7_len (Nat.le_of_lt hi)
      have Lx := ints_length (List.replicate i (-7) ++ A.drop i)
      rw [← e]
      generalize List.replicate i (-7) ++ A.drop i = Y at *
      simp (config := { maxSteps := 1000000 }) (disch := omega) only [go_sem, ↓reduceIte, Nat.reduceEqDiff, Nat.reduceAdd, reduceCtorEq, d1590_b1, Lx, l1]
    · have l1 := neg7_len (Nat.le_refl A.length)
      have Lx := ints_length (List.replicate A.length (-7) ++ A.drop A.length)
      generalize List.replicate A.length (-7) ++ A.drop A.length = Y at *
      simp (config := { maxSteps := 1000000 }) (disch := omega) only [go_sem, ↓reduceIte, Nat.reduceEqDiff, reduceCtorEq, d1590_b1, Lx, l1, gp, gs]
theorem tells5_law {P : List Po} {ws : List Txt} {n : Int} {a b : List Int} (nn : I64 n) (hn : P.length ≤ 9223372036854775807) (hw : ∀ p ∈ P, p.1.length ≤ 9223372036854775807) (hr : ∀ p ∈ P, p.2.length ≤ 9223372036854775807) (wn : ws.length ≤ 9223372036854775807) (ww : ∀ s ∈ ws, s.length ≤ 9223372036854775807) (an : a.length ≤ 9223372036854775807) (bn : b.length ≤ 9223372036854775807) : runP tabM 1590 [.sl 2 (poS P), .int .i64 n, .sl 1 (strs ws), .sl 1 (ints a), .sl 1 (ints b)] [] = some (.bool true, []) := by
  refine runP_fn (show tabM 1590 = _ from t1590) rfl ?_
  have L := strs_length ws
  have La := ints_length a
  have Lb := ints_length b
  have LP := poS_len P
  have gbig := up (bigP_run hn hw hr)
  have gfew := up (few_run wn ww)
  have gp := posted_run
  cases cb : bigP P with
  | true =>
    rw [cb] at gbig
    simp (config := { maxSteps := 1000000 }) (disch := omega) only [go_sem, ↓reduceIte, Nat.reduceEqDiff, Nat.reduceAdd, reduceCtorEq, d1590, gbig]
  | false =>
  rw [cb] at gbig
  cases cf : fewB ws with
  | false =>
    rw [cf] at gfew
    simp (config := { maxSteps := 1000000 }) (disch := omega) only [go_sem, ↓reduceIte, Nat.reduceEqDiff, Nat.reduceAdd, reduceCtorEq, d1590, gbig, gfew]
  | true =>
  rw [cf] at gfew
  by_cases c1 : a.length ≤ 60
  case neg => simp (config := { maxSteps := 1000000 }) (disch := omega) only [go_sem, ↓reduceIte, Nat.reduceEqDiff, Nat.reduceAdd, reduceCtorEq, d1590, La, gbig, gfew]
  by_cases c2 : b.length ≤ 60
  case neg => simp (config := { maxSteps := 1000000 }) (disch := omega) only [go_sem, ↓reduceIte, Nat.reduceEqDiff, Nat.reduceAdd, reduceCtorEq, d1590, La, Lb, gbig, gfew]
  obtain ⟨hl, hx⟩ := fewB_ok cf
  have hP := bigP_okP cb
  obtain ⟨p1, p2⟩ := bigP_ok cb
  have hp1 : ∀ p ∈ P, p.1.length ≤ 1000000 := fun p hp => by have := (p2 p hp).1; omega
  have go := up (pown_run hP)
  have ga := up (all05_run hP (ws := ws) (by omega))
  have gb := up (qall_run hP (ws := ws) (by omega))
  have gc := up (any05_run hP (ws := ws) (by omega))
  have gd := up (qany_run hP (ws := ws) (by omega))
  have l1 := allP_len hP ws
  have l2 := anyP_len hP ws
  have gf := fun w => up (pfind_run (P := P) (w := w) (by omega) (fun p hp => by have := (p2 p hp).2; omega))
  have gg := fun w => up (qfind_run (P := P) (w := w) (by omega) (fun p hp => by have := (p2 p hp).2; omega))
  have gk := up (pcheck_run nn hP.w hp1)
  have gl := up (qcheck_run nn hP hp1)
  have gm := up (pboth_run (a := a) (b := b) (by omega) (by omega))
  have gn := up (qboth_run (a := a) (b := b) (by omega) (by omega))
  have gs := up (psame_run hP.w hP.w)
  rw [decide_eq_true rfl] at gs
  have hself : ∀ l : List Int, l.length < 1000000 → runP tabM 1016 [.sl 1 (ints l), .sl 1 (ints l)] [] = some (.bool true, []) := fun l h => by
    have := up (ints_run (a := l) (b := l) h h)
    rw [beq_self_eq_true] at this
    exact this
  have i1 := hself (allP P ws) (by omega)
  have i2 := hself (anyP P ws) (by omega)
  have i3 := hself (bothL a b) (by have := bothL_len a b; omega)
  generalize (if ws = [] then (1 : Int) else 0) = e at *
  generalize allP P ws = A at *
  generalize anyP P ws = B at *
  generalize bothL a b = C at *
  generalize decide (okC n P) = d at *
  by_cases h0 : ws = []
  · subst h0
    have l3 := findP_len hP []
    have gf := gf []
    have gg := gg []
    have i4 := hself (findP P []) (by omega)
    generalize findP P [] = F at *
    simp (config := { maxSteps := 1000000 }) (disch := omega) only [go_sem, ↓reduceIte, Nat.reduceEqDiff, Nat.reduceAdd, reduceCtorEq, d1590, L, La, Lb, gbig, gfew, go, ga, gb, gc, gd, gf, gg, gk, gl, gm, gn, i1, i2, i3, i4]
    exact tl_end hP gp gs F A B C l3 l1
  · have hp : 0 < ws.length := List.length_pos_iff.2 h0
    have e1 := strs_rdc (l := ws) (i := 0) hp
    rw [List.drop_zero] at e1
    have l3 := findP_len hP (ws.getD 0 [])
    have gf := gf (ws.getD 0 [])
    have gg := gg (ws.getD 0 [])
    have i4 := hself (findP P (ws.getD 0 [])) (by omega)
    generalize findP P (ws.getD 0 []) = F at *
    simp (config := { maxSteps := 1000000 }) (disch := omega) only [go_sem, ↓reduceIte, Nat.reduceEqDiff, Nat.reduceAdd, Int.reduceToNat, reduceCtorEq, d1590, L, La, Lb, e1, gbig, gfew, go, ga, gb, gc, gd, gf, gg, gk, gl, gm, gn, i1, i2, i3, i4]
    exact tl_end hP gp gs F A B C l3 l1
end Go.Proofs.Ytmckpijdjoifoaa
