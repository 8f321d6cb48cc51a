/- The library's sort of keys: the whole. -/
import Derived.Test.YthpgaecloecflaaSt3
import Derived.Test.YthpgaecloecflaaSk
namespace Go.Proofs.Ythpgaecloecflaa
set_option linter.unusedSimpArgs false
set_option linter.unusedVariables false
set_option maxHeartbeats 4000000
set_option maxRecDepth 100000
open Go.Sort (insertionSort heapSort partition partitionEqual partialInsertionSort reverseRange size_swp PermIn SortedIn Below)
def tbpS (a L M i : Nat) (X : Int) (d : Array Ky) : St := ⟨[(0, .own 3 0), (1, .int .i64 (a : Int)), (8, .int .i64 (L : Int)), (9, .ref 1 0), (10, .int .u64 (M : Int)), (11, .int .i64 (i : Int))], [.row false (kys d.toList), .row false [.int .u64 X]], 1, [(0, 2, [0, 1, 8, 9, 10, 11], [(0, 0), (9, 1)])]⟩
theorem tbp_loop {a L m M : Nat} (hm : m = L / 4) (h8 : 8 ≤ L) (hM1 : 1 ≤ M) (hM2 : M ≤ 2 * L) : ∀ (r i : Nat) (X : Int) (d : Array Ky), i + r = a + m * 2 + 2 → a ≤ i → a + L ≤ d.size → d.size ≤ 60000 →
    ∃ d', PermIn a (a + L) d d' ∧ ∀ Q : AX → St → Prop, (∀ env X', Q (.exit 0) ⟨env, [.row false (kys d'.toList), .row false [.int .u64 X']], 1, [(0, 2, [0, 1, 8, 9, 10, 11], [(0, 0), (9, 1)])]⟩) → Ev tab (.loop d1064_b0) (tbpS a L M i X d) Q
  | 0, i, X, d, hi, ha, hb, hs => by
    refine ⟨d, Go.Sort.permIn_refl _ _ _, fun Q hq => Ev_stop ?_⟩
    have q2 : (L : Int).tdiv 4 = (m : Int) := by rw [hm]; rfl
    simp (config := { maxSteps := 1000000 }) (disch := omega) only [go_sem, ↓reduceIte, Nat.reduceEqDiff, Nat.reduceAdd, Int.reduceToNat, reduceCtorEq, Nat.reduceLeDiff, Nat.reduceSub, Nat.reduceDiv, Nat.reduceMod, Nat.reduceMul, at_t, swp_t, ordt_lt, gc_t, size_swp, arr_len, Int.add_sub_cancel, Int.natCast_mul, tn1, tnA, tnB, tnC, tnD, tnE, d1064_b0, tbpS, q2]
    exact hq _ _
  | r + 1, i, X, d, hi, ha, hb, hs => by
    obtain ⟨Y, y1, y2, gn⟩ := next_run (X := X)
    obtain ⟨O, o1, go⟩ := and_run (M := M) y1 y2 hM1 (by omega)
    have q2 : (L : Int).tdiv 4 = (m : Int) := by rw [hm]; rfl
    by_cases hO : L ≤ O
    · obtain ⟨o, rfl⟩ : ∃ o, O = L + o := ⟨O - L, by omega⟩
      have q3 : (L : Int) + (o : Int) - (L : Int) = (o : Int) := by omega
      obtain ⟨d', p1, p2⟩ := tbp_loop (a := a) hm h8 hM1 hM2 r (i + 1) Y (Go.Sort.swp d i (a + o)) (by omega) (by omega) (by rw [size_swp]; omega) (by rw [size_swp]; exact hs)
      refine ⟨d', Go.Sort.permIn_trans _ _ _ a (a + L) (Go.Sort.swp_permIn d a (a + L) i (a + o) ha (by omega) (by omega) (by omega) hb) p1, fun Q hq => Ev_step (st' := tbpS a L M (i + 1) Y (Go.Sort.swp d i (a + o))) ?_ (p2 Q hq)⟩
      simp (config := { maxSteps := 1000000 }) (disch := omega) only [go_sem, ↓reduceIte, Nat.reduceEqDiff, Nat.reduceAdd, Int.reduceToNat, reduceCtorEq, Nat.reduceLeDiff, Nat.reduceSub, Nat.reduceDiv, Nat.reduceMod, Nat.reduceMul, at_t, swp_t, ordt_lt, gc_t, size_swp, arr_len, Int.add_sub_cancel, Int.natCast_mul, tn1, tnA, tnB, tnC, tnD, tnE, d1064_b0, tbpS, q2, q3, gn, go, wrapu_id]
    · obtain ⟨d', p1, p2⟩ := tbp_loop (a := a) hm h8 hM1 hM2 r (i + 1) Y (Go.Sort.swp d i (a + O)) (by omega) (by omega) (by rw [size_swp]; omega) (by rw [size_swp]; exact hs)
      refine ⟨d', Go.Sort.permIn_trans _ _ _ a (a + L) (Go.Sort.swp_permIn d a (a + L) i (a + O) ha (by omega) (by omega) (by omega) hb) p1, fun Q hq => Ev_step (st' := tbpS a L M (i + 1) Y (Go.Sort.swp d i (a + O))) ?_ (p2 Q hq)⟩
      simp (config := { maxSteps := 1000000 }) (disch := omega) only [go_sem, ↓reduceIte, Nat.reduceEqDiff, Nat.reduceAdd, Int.reduceToNat, reduceCtorEq, Nat.reduceLeDiff, Nat.reduceSub, Nat.reduceDiv, Nat.reduceMod, Nat.reduceMul, at_t, swp_t, ordt_lt, gc_t, size_swp, arr_len, Int.add_sub_cancel, Int.natCast_mul, tn1, tnA, tnB, tnC, tnD, tnE, d1064_b0, tbpS, q2, gn, go, wrapu_id]
theorem tbrk_run {a b : Nat} {d : Array Ky} (hab : a ≤ b) (hb : b ≤ d.size) (hs : d.size ≤ 60000) : ∃ d', PermIn a b d d' ∧ runP tab 1064 [.own 3 0, .int .i64 (a : Int), .int .i64 (b : Int), .clo 1053 [] []] [.row false (kys d.toList)] = some (.tup [], [.row false (kys d'.toList)]) := by
  obtain ⟨L, rfl⟩ : ∃ L, b = a + L := ⟨b - a, by omega⟩
  have q1 : ((a : Int) + (L : Int)) - (a : Int) = (L : Int) := by omega
  by_cases h8 : 8 ≤ L
  · obtain ⟨M, m1, m2, gM⟩ := npow_run (n := L) (by omega) (by omega)
    obtain ⟨m, hm⟩ : ∃ m, m = L / 4 := ⟨_, rfl⟩
    have q2 : (L : Int).tdiv 4 = (m : Int) := by rw [hm]; rfl
    have q3 : (a : Int) + (m : Int) * 2 - 1 = ((a + m * 2 - 1 : Nat) : Int) := by omega
    obtain ⟨d', p1, p2⟩ := tbp_loop (a := a) hm h8 m1 m2 3 (a + m * 2 - 1) (L : Int) d (by omega) (by omega) hb hs
    refine ⟨d', p1, ?_⟩
    refine runP_fn t1064 rfl ?_
    simp (config := { maxSteps := 1000000 }) (disch := omega) only [go_sem, ↓reduceIte, Nat.reduceEqDiff, Nat.reduceAdd, Int.reduceToNat, reduceCtorEq, Nat.reduceLeDiff, Nat.reduceSub, Nat.reduceDiv, Nat.reduceMod, Nat.reduceMul, at_t, swp_t, ordt_lt, gc_t, size_swp, arr_len, Int.add_sub_cancel, Int.natCast_mul, tn1, tnA, tnB, tnC, tnD, tnE, d1064, q1, q2, q3, gM, wrapu_id]
    refine p2 _ (fun env X' => ?_)
    simp (config := { maxSteps := 1000000 }) (disch := omega) only [go_sem, ↓reduceIte, Nat.reduceEqDiff, Nat.reduceAdd, Int.reduceToNat, reduceCtorEq, Nat.reduceLeDiff, Nat.reduceSub, Nat.reduceDiv, Nat.reduceMod, Nat.reduceMul, at_t, swp_t, ordt_lt, gc_t, size_swp, arr_len, Int.add_sub_cancel, Int.natCast_mul, tn1, tnA, tnB, tnC, tnD, tnE]
  · refine ⟨d, Go.Sort.permIn_refl _ _ _, ?_⟩
    refine runP_fn t1064 rfl ?_
    simp (config := { maxSteps := 1000000 }) (disch := omega) only [go_sem, ↓reduceIte, Nat.reduceEqDiff, Nat.reduceAdd, Int.reduceToNat, reduceCtorEq, Nat.reduceLeDiff, Nat.reduceSub, Nat.reduceDiv, Nat.reduceMod, Nat.reduceMul, at_t, swp_t, ordt_lt, gc_t, size_swp, arr_len, Int.add_sub_cancel, Int.natCast_mul, tn1, tnA, tnB, tnC, tnD, tnE, d1064, q1]
def ts5D : Stmt := (.ghost (.keep [0, 1, 2, 3, 4, 10, 11, 12, 13]) (.seq (.seq (.ops true [⟨some 81, .move (.tmp 1), none⟩, ⟨some 82, .bin 0 .gtr (.tmp 81) (.val (.int .i64 0)), none⟩, ⟨some 83, .move (.tmp 82), none⟩, ⟨some 84, .move (.tmp 4), some (83, true)⟩, ⟨some 85, .move (.tmp 0), some (83, true)⟩, ⟨some 86, .move (.tmp 1), some (83, true)⟩, ⟨some 87, .bin 0 .sub (.tmp 86) (.val (.int .i64 1)), some (83, true)⟩, ⟨some 88, .indexAddr 3 (.tmp 85) (.tmp 87), some (83, true)⟩, ⟨some 89, .load false (some 3) (.tmp 88), some (83, true)⟩, ⟨some 90, .move (.tmp 0), some (83, true)⟩, ⟨some 91, .move (.tmp 13), some (83, true)⟩, ⟨some 92, .indexAddr 3 (.tmp 90) (.tmp 91), some (83, true)⟩, ⟨some 93, .load false (some 3) (.tmp 92), some (83, true)⟩, ⟨some 94, .callf .quiet (.tmp 84) [.tmp 89, .tmp 93], some (83, true)⟩, ⟨some 95, .bin 0 .lss (.tmp 94) (.val (.int .i64 0)), some (83, true)⟩, ⟨some 96, .un .not (.tmp 95), some (83, true)⟩, ⟨some 97, .pick (.tmp 83) (.tmp 96) (.val (.bool false)), none⟩]) (.ghost (.keep [0, 1, 2, 3, 4, 10, 11, 12, 13, 97]) (.cond (.tmp 97) (.seq (.ops false [⟨some 98, .move (.tmp 0), none⟩, ⟨some 99, .move (.tmp 1), none⟩, ⟨some 100, .move (.tmp 2), none⟩, ⟨some 101, .move (.tmp 13), none⟩, ⟨some 102, .move (.tmp 4), none⟩, ⟨some 103, .call .mem 1068 [.tmp 98, .tmp 99, .tmp 100, .tmp 101, .tmp 102], none⟩, ⟨some 15, .move (.tmp 103), none⟩]) (.ghost (.keep [0, 2, 3, 4, 10, 11, 15]) (.seq (.ops false [⟨some 104, .move (.tmp 15), none⟩, ⟨some 1, .move (.tmp 104), none⟩]) (.exit 1)))) .skip))) (.ghost (.keep [0, 1, 2, 3, 4, 12, 13]) (.seq (.ops false [⟨some 106, .move (.tmp 0), none⟩, ⟨some 107, .move (.tmp 1), none⟩, ⟨some 108, .move (.tmp 2), none⟩, ⟨some 109, .move (.tmp 13), none⟩, ⟨some 110, .move (.tmp 4), none⟩, ⟨some 111, .call .mem 1069 [.tmp 106, .tmp 107, .tmp 108, .tmp 109, .tmp 110], none⟩, ⟨some 105, .move (.tmp 111), none⟩, ⟨some 112, .extract 0 (.tmp 105), none⟩, ⟨some 113, .extract 1 (.tmp 105), none⟩, ⟨some 16, .move (.tmp 112), none⟩, ⟨some 17, .move (.tmp 113), none⟩]) (.ghost (.keep [0, 1, 2, 3, 4, 12, 16, 17]) (.seq (.ops false [⟨some 114, .move (.tmp 17), none⟩, ⟨some 11, .move (.tmp 114), none⟩]) (.seq (.ops false [⟨some 115, .move (.tmp 16), none⟩, ⟨some 116, .move (.tmp 1), none⟩, ⟨some 117, .bin 0 .sub (.tmp 115) (.tmp 116), none⟩, ⟨some 118, .move (.tmp 2), none⟩, ⟨some 119, .move (.tmp 16), none⟩, ⟨some 120, .bin 0 .sub (.tmp 118) (.tmp 119), none⟩, ⟨some 18, .move (.tmp 117), none⟩, ⟨some 19, .move (.tmp 120), none⟩]) (.ghost (.keep [0, 1, 2, 3, 4, 11, 12, 16, 18, 19]) (.seq (.ops false [⟨some 121, .move (.tmp 12), none⟩, ⟨some 122, .bin 0 .quo (.tmp 121) (.val (.int .i64 8)), none⟩, ⟨some 20, .move (.tmp 122), none⟩]) (.seq (.ops false [⟨some 123, .move (.tmp 18), none⟩, ⟨some 124, .move (.tmp 19), none⟩, ⟨some 125, .bin 0 .lss (.tmp 123) (.tmp 124), none⟩]) (.cond (.tmp 125) (.seq (.ops false [⟨some 126, .move (.tmp 18), none⟩, ⟨some 127, .move (.tmp 20), none⟩, ⟨some 128, .bin 0 .geq (.tmp 126) (.tmp 127), none⟩, ⟨some 10, .move (.tmp 128), none⟩]) (.seq (.ops false [⟨some 129, .move (.tmp 0), none⟩, ⟨some 130, .move (.tmp 1), none⟩, ⟨some 131, .move (.tmp 16), none⟩, ⟨some 132, .move (.tmp 3), none⟩, ⟨some 133, .move (.tmp 4), none⟩, ⟨some 134, .call .mem 1058 [.tmp 129, .tmp 130, .tmp 131, .tmp 132, .tmp 133], none⟩]) (.ghost (.keep [0, 2, 3, 4, 10, 11, 16]) (.ops false [⟨some 135, .move (.tmp 16), none⟩, ⟨some 136, .bin 0 .add (.tmp 135) (.val (.int .i64 1)), none⟩, ⟨some 1, .move (.tmp 136), none⟩])))) (.seq (.ops false [⟨some 137, .move (.tmp 19), none⟩, ⟨some 138, .move (.tmp 20), none⟩, ⟨some 139, .bin 0 .geq (.tmp 137) (.tmp 138), none⟩, ⟨some 10, .move (.tmp 139), none⟩]) (.seq (.ops false [⟨some 140, .move (.tmp 0), none⟩, ⟨some 141, .move (.tmp 16), none⟩, ⟨some 142, .bin 0 .add (.tmp 141) (.val (.int .i64 1)), none⟩, ⟨some 143, .move (.tmp 2), none⟩, ⟨some 144, .move (.tmp 3), none⟩, ⟨some 145, .move (.tmp 4), none⟩, ⟨some 146, .call .mem 1058 [.tmp 140, .tmp 142, .tmp 143, .tmp 144, .tmp 145], none⟩]) (.ghost (.keep [0, 1, 3, 4, 10, 11, 16]) (.ops false [⟨some 147, .move (.tmp 16), none⟩, ⟨some 2, .move (.tmp 147), none⟩])))))))))))))))
theorem tb0_eq : d1058_b0 = .after (.block 1 (.seq (.ops false [⟨some 21, .move (.tmp 2), none⟩, ⟨some 22, .move (.tmp 1), none⟩, ⟨some 23, .bin 0 .sub (.tmp 21) (.tmp 22), none⟩, ⟨some 12, .move (.tmp 23), none⟩]) (.seq (.seq (.ops false [⟨some 24, .move (.tmp 12), none⟩, ⟨some 25, .bin 0 .leq (.tmp 24) (.val (.int .i64 12)), none⟩]) (.cond (.tmp 25) (.seq (.ops false [⟨some 26, .move (.tmp 0), none⟩, ⟨some 27, .move (.tmp 1), none⟩, ⟨some 28, .move (.tmp 2), none⟩, ⟨some 29, .move (.tmp 4), none⟩, ⟨some 30, .call .mem 1062 [.tmp 26, .tmp 27, .tmp 28, .tmp 29], none⟩]) .ret) .skip)) (.ghost (.keep [0, 1, 2, 3, 4, 10, 11, 12]) (.seq (.seq (.ops false [⟨some 31, .move (.tmp 3), none⟩, ⟨some 32, .bin 0 .eql (.tmp 31) (.val (.int .i64 0)), none⟩]) (.cond (.tmp 32) (.seq (.ops false [⟨some 33, .move (.tmp 0), none⟩, ⟨some 34, .move (.tmp 1), none⟩, ⟨some 35, .move (.tmp 2), none⟩, ⟨some 36, .move (.tmp 4), none⟩, ⟨some 37, .call .mem 1063 [.tmp 33, .tmp 34, .tmp 35, .tmp 36], none⟩]) .ret) .skip)) (.ghost (.keep [0, 1, 2, 3, 4, 10, 11, 12]) (.seq (.seq (.ops false [⟨some 38, .move (.tmp 10), none⟩, ⟨some 39, .un .not (.tmp 38), none⟩]) (.cond (.tmp 39) (.seq (.ops false [⟨some 40, .move (.tmp 0), none⟩, ⟨some 41, .move (.tmp 1), none⟩, ⟨some 42, .move (.tmp 2), none⟩, ⟨some 43, .move (.tmp 4), none⟩, ⟨some 44, .call .mem 1064 [.tmp 40, .tmp 41, .tmp 42, .tmp 43], none⟩]) (.ops false [⟨some 45, .move (.tmp 3), none⟩, ⟨some 46, .bin 0 .sub (.tmp 45) (.val (.int .i64 1)), none⟩, ⟨some 3, .move (.tmp 46), none⟩])) .skip)) (.ghost (.keep [0, 1, 2, 3, 4, 10, 11, 12]) (.seq (.ops false [⟨some 48, .move (.tmp 0), none⟩, ⟨some 49, .move (.tmp 1), none⟩, ⟨some 50, .move (.tmp 2), none⟩, ⟨some 51, .move (.tmp 4), none⟩, ⟨some 52, .call .quiet 1065 [.tmp 48, .tmp 49, .tmp 50, .tmp 51], none⟩, ⟨some 47, .move (.tmp 52), none⟩, ⟨some 53, .extract 0 (.tmp 47), none⟩, ⟨some 54, .extract 1 (.tmp 47), none⟩, ⟨some 13, .move (.tmp 53), none⟩, ⟨some 14, .move (.tmp 54), none⟩]) (.ghost (.keep [0, 1, 2, 3, 4, 10, 11, 12, 13, 14]) (.seq (.seq (.ops false [⟨some 55, .move (.tmp 14), none⟩, ⟨some 56, .bin 0 .eql (.tmp 55) (.val (.int .i64 2)), none⟩]) (.cond (.tmp 56) (.seq (.ops false [⟨some 57, .move (.tmp 0), none⟩, ⟨some 58, .move (.tmp 1), none⟩, ⟨some 59, .move (.tmp 2), none⟩, ⟨some 60, .move (.tmp 4), none⟩, ⟨some 61, .call .mem 1066 [.tmp 57, .tmp 58, .tmp 59, .tmp 60], none⟩]) (.seq (.ops false [⟨some 62, .move (.tmp 2), none⟩, ⟨some 63, .bin 0 .sub (.tmp 62) (.val (.int .i64 1)), none⟩, ⟨some 64, .move (.tmp 13), none⟩, ⟨some 65, .move (.tmp 1), none⟩, ⟨some 66, .bin 0 .sub (.tmp 64) (.tmp 65), none⟩, ⟨some 67, .bin 0 .sub (.tmp 63) (.tmp 66), none⟩, ⟨some 13, .move (.tmp 67), none⟩]) (.ghost (.keep [0, 1, 2, 3, 4, 10, 11, 12, 13]) (.ops false [⟨some 14, .move (.val (.int .i64 1)), none⟩])))) .skip)) (.ghost (.keep [0, 1, 2, 3, 4, 10, 11, 12, 13, 14]) (.seq (.seq (.ops false [⟨some 68, .move (.tmp 10), none⟩, ⟨some 69, .move (.tmp 68), none⟩, ⟨some 70, .move (.tmp 11), some (69, true)⟩, ⟨some 71, .pick (.tmp 69) (.tmp 70) (.val (.bool false)), none⟩, ⟨some 72, .move (.tmp 71), none⟩, ⟨some 73, .move (.tmp 14), some (72, true)⟩, ⟨some 74, .bin 0 .eql (.tmp 73) (.val (.int .i64 1)), some (72, true)⟩, ⟨some 75, .pick (.tmp 72) (.tmp 74) (.val (.bool false)), none⟩]) (.ghost (.keep [0, 1, 2, 3, 4, 10, 11, 12, 13, 75]) (.cond (.tmp 75) (.seq (.ops false [⟨some 76, .move (.tmp 0), none⟩, ⟨some 77, .move (.tmp 1), none⟩, ⟨some 78, .move (.tmp 2), none⟩, ⟨some 79, .move (.tmp 4), none⟩, ⟨some 80, .call .mem 1067 [.tmp 76, .tmp 77, .tmp 78, .tmp 79], none⟩]) (.cond (.tmp 80) .ret .skip)) .skip))) ts5D))))))))))))) (.norm 0) := rfl
def tpqM : List Mark := [(0, 1, [0, 1, 2, 3, 4, 10, 11], [(0, 0)])]
def tqsS (a b limit : Nat) (wb wp : Bool) (d : Array Ky) : St := ⟨[(0, .own 3 0), (1, .int .i64 (a : Int)), (2, .int .i64 (b : Int)), (3, .int .i64 (limit : Int)), (4, .clo 1053 [] []), (10, .bool wb), (11, .bool wp)], [.row false (kys d.toList)], 1, tpqM⟩
def tIH (n : Nat) : Prop := ∀ (a b limit : Nat) (d : Array Ky), b - a ≤ n → a ≤ b → b ≤ d.size → d.size ≤ 60000 → limit ≤ 100 → Below ltT a b d → ∃ d', PermIn a b d d' ∧ SortedIn ltT a b d' ∧ runP tab 1058 [.own 3 0, .int .i64 (a : Int), .int .i64 (b : Int), .int .i64 (limit : Int), .clo 1053 [] []] [.row false (kys d.toList)] = some (.tup [], [.row false (kys d'.toList)])
theorem ts5 {n a b limit p : Nat} {wb wp : Bool} {d : Array Ky} {env : List (Nat × AV)} (IH : tIH n) (hn : b - a ≤ n + 1) (hab : a ≤ p) (hp : p < b) (hb : b ≤ d.size) (hs : d.size ≤ 60000) (hl : limit ≤ 100) (hB : Below ltT a b d)
    (e0 : lk env 0 = .own 3 0) (e1 : lk env 1 = .int .i64 (a : Int)) (e2 : lk env 2 = .int .i64 (b : Int)) (e3 : lk env 3 = .int .i64 (limit : Int)) (e4 : lk env 4 = .clo 1053 [] []) (e10 : lk env 10 = .bool wb) (e11 : lk env 11 = .bool wp) (e12 : lk env 12 = .int .i64 ((b : Int) - (a : Int))) (e13 : lk env 13 = .int .i64 (p : Int)) :
    ∃ a' b' wb' wp' d4, b' - a' ≤ n ∧ a' ≤ b' ∧ b' ≤ d4.size ∧ d4.size = d.size ∧ Below ltT a' b' d4 ∧ (∀ R, PermIn a' b' d4 R → SortedIn ltT a' b' R → PermIn a b d R ∧ SortedIn ltT a b R) ∧
      ∀ Q : AX → St → Prop, (∀ env x, (x = .exit 1 ∨ x = .normal) → lk env 0 = .own 3 0 → lk env 1 = .int .i64 ((a' : Nat) : Int) → lk env 2 = .int .i64 ((b' : Nat) : Int) → lk env 3 = .int .i64 (limit : Int) → lk env 4 = .clo 1053 [] [] → lk env 10 = .bool wb' → lk env 11 = .bool wp' → Q x ⟨env, [.row false (kys d4.toList)], 1, tpqM⟩) → Ev tab ts5D ⟨env, [.row false (kys d.toList)], 1, tpqM⟩ Q := by
  by_cases hc : a > 0 ∧ ltT d[a - 1]! d[p]! = false
  · obtain ⟨h0, h1⟩ := hc
    obtain ⟨k, rfl⟩ : ∃ k, a = k + 1 := ⟨a - 1, by omega⟩
    rw [Nat.add_sub_cancel] at h1
    have g := tpeq_run hab hp hb (by omega)
    obtain ⟨r1, r2, r3, r4, r5⟩ := Go.Sort.round_eq ordrT.swo (Go.Sort.partitionEqual_holds ltT) h0 hab hp hb hB (by rw [Nat.add_sub_cancel]; exact h1) (mid := (partitionEqual ltT d (k + 1) b p).1) (d4 := (partitionEqual ltT d (k + 1) b p).2) rfl
    generalize partitionEqual ltT d (k + 1) b p = r at *
    obtain ⟨mid, d4⟩ := r
    simp only at *
    refine ⟨mid, b, wb, wp, d4, by omega, by omega, by omega, r3, r4, r5, fun Q hq => ?_⟩
    rw [Int.natCast_add, Int.cast_ofNat_Int] at g
    simp (config := { maxSteps := 1000000 }) (disch := omega) only [go_sem, ↓reduceIte, Nat.reduceEqDiff, Nat.reduceAdd, Int.reduceToNat, reduceCtorEq, Nat.reduceLeDiff, Nat.reduceSub, Nat.reduceDiv, Nat.reduceMod, Nat.reduceMul, at_t, swp_t, ordt_lt, gc_t, size_swp, arr_len, Int.add_sub_cancel, Int.natCast_mul, tn1, tnA, tnB, tnC, tnD, tnE, ts5D, e0, e1, e2, e3, e4, e10, e11, e12, e13, h1, g]
    exact hq _ _ (.inl rfl) rfl rfl rfl rfl rfl rfl rfl
  · have g := tprt_run hab hp hb (by omega)
    obtain ⟨r1, r2, r3, r4, r5, r6, r7⟩ := Go.Sort.round_part ordrT.swo (Go.Sort.partition_holds ltT) hab hp hb hB (mid := (partition ltT d a b p).1) (ap := (partition ltT d a b p).2.1) (d4 := (partition ltT d a b p).2.2) rfl
    generalize partition ltT d a b p = r at *
    obtain ⟨mid, ap, d4⟩ := r
    simp only at *
    have q8 : ((b : Int) - (a : Int)).tdiv 8 = (((b - a) / 8 : Nat) : Int) := by rw [show (b : Int) - (a : Int) = ((b - a : Nat) : Int) by omega]; rfl
    by_cases hlr : (mid : Int) - (a : Int) < (b : Int) - (mid : Int)
    · obtain ⟨L, l1, l2, l3⟩ := IH a mid limit d4 (by omega) r1 (by omega) (by omega) hl r4
      obtain ⟨t1, t2⟩ := r6 L l1 l2
      have lsz := l1.1
      refine ⟨mid + 1, b, decide ((((b - a) / 8 : Nat) : Int) ≤ (mid : Int) - (a : Int)), ap, L, by omega, by omega, by omega, by omega, t1, t2, fun Q hq => ?_⟩
      by_cases ha : a > 0
      · have h1 : ltT d[a - 1]! d[p]! = true := by
          cases h : ltT d[a - 1]! d[p]! with
          | true => rfl
          | false => exact absurd ⟨ha, h⟩ hc
        obtain ⟨k, rfl⟩ : ∃ k, a = k + 1 := ⟨a - 1, by omega⟩
        rw [Nat.add_sub_cancel] at h1
        rw [Int.natCast_add, Int.cast_ofNat_Int] at g l3 q8
        simp (config := { maxSteps := 1000000 }) (disch := omega) only [go_sem, ↓reduceIte, Nat.reduceEqDiff, Nat.reduceAdd, Int.reduceToNat, reduceCtorEq, Nat.reduceLeDiff, Nat.reduceSub, Nat.reduceDiv, Nat.reduceMod, Nat.reduceMul, at_t, swp_t, ordt_lt, gc_t, size_swp, arr_len, Int.add_sub_cancel, Int.natCast_mul, tn1, tnA, tnB, tnC, tnD, tnE, ts5D, e0, e1, e2, e3, e4, e10, e11, e12, e13, h1, g, q8, l3]
        exact hq _ _ (.inr rfl) rfl rfl rfl rfl rfl rfl rfl
      · simp (config := { maxSteps := 1000000 }) (disch := omega) only [go_sem, ↓reduceIte, Nat.reduceEqDiff, Nat.reduceAdd, Int.reduceToNat, reduceCtorEq, Nat.reduceLeDiff, Nat.reduceSub, Nat.reduceDiv, Nat.reduceMod, Nat.reduceMul, at_t, swp_t, ordt_lt, gc_t, size_swp, arr_len, Int.add_sub_cancel, Int.natCast_mul, tn1, tnA, tnB, tnC, tnD, tnE, ts5D, e0, e1, e2, e3, e4, e10, e11, e12, e13, g, q8, l3]
        exact hq _ _ (.inr rfl) rfl rfl rfl rfl rfl rfl rfl
    · obtain ⟨L, l1, l2, l3⟩ := IH (mid + 1) b limit d4 (by omega) (by omega) (by omega) (by omega) hl r5
      obtain ⟨t1, t2⟩ := r7 L l1 l2
      have lsz := l1.1
      rw [Int.natCast_add, Int.cast_ofNat_Int] at l3
      refine ⟨a, mid, decide ((((b - a) / 8 : Nat) : Int) ≤ (b : Int) - (mid : Int)), ap, L, by omega, by omega, by omega, by omega, t1, t2, fun Q hq => ?_⟩
      by_cases ha : a > 0
      · have h1 : ltT d[a - 1]! d[p]! = true := by
          cases h : ltT d[a - 1]! d[p]! with
          | true => rfl
          | false => exact absurd ⟨ha, h⟩ hc
        obtain ⟨k, rfl⟩ : ∃ k, a = k + 1 := ⟨a - 1, by omega⟩
        rw [Nat.add_sub_cancel] at h1
        rw [Int.natCast_add, Int.cast_ofNat_Int] at g q8
        simp (config := { maxSteps := 1000000 }) (disch := omega) only [go_sem, ↓reduceIte, Nat.reduceEqDiff, Nat.reduceAdd, Int.reduceToNat, reduceCtorEq, Nat.reduceLeDiff, Nat.reduceSub, Nat.reduceDiv, Nat.reduceMod, Nat.reduceMul, at_t, swp_t, ordt_lt, gc_t, size_swp, arr_len, Int.add_sub_cancel, Int.natCast_mul, tn1, tnA, tnB, tnC, tnD, tnE, ts5D, e0, e1, e2, e3, e4, e10, e11, e12, e13, h1, g, q8, l3]
        exact hq _ _ (.inr rfl) rfl rfl rfl rfl rfl rfl rfl
      · simp (config := { maxSteps := 1000000 }) (disch := omega) only [go_sem, ↓reduceIte, Nat.reduceEqDiff, Nat.reduceAdd, Int.reduceToNat, reduceCtorEq, Nat.reduceLeDiff, Nat.reduceSub, Nat.reduceDiv, Nat.reduceMod, Nat.reduceMul, at_t, swp_t, ordt_lt, gc_t, size_swp, arr_len, Int.add_sub_cancel, Int.natCast_mul, tn1, tnA, tnB, tnC, tnD, tnE, ts5D, e0, e1, e2, e3, e4, e10, e11, e12, e13, g, q8, l3]
        exact hq _ _ (.inr rfl) rfl rfl rfl rfl rfl rfl rfl
theorem thead {a b limit : Nat} {wb wp : Bool} {d : Array Ky} (h12 : 12 < b - a) (h0 : limit ≠ 0) (hb : b ≤ d.size) (hs : d.size ≤ 60000) (hl : limit ≤ 100) (hB : Below ltT a b d) :
    ∃ d3, PermIn a b d d3 ∧ Below ltT a b d3 ∧
      ((SortedIn ltT a b d3 ∧ ∀ Q : AX → St → Prop, (∀ env, Q .ret ⟨env, [.row false (kys d3.toList)], 1, tpqM⟩) → Ev tab d1058_b0 (tqsS a b limit wb wp d) Q) ∨
       ∃ p l, a ≤ p ∧ p < b ∧ l ≤ 100 ∧ ∀ Q : AX → St → Prop, (∀ env, lk env 0 = .own 3 0 → lk env 1 = .int .i64 (a : Int) → lk env 2 = .int .i64 (b : Int) → lk env 3 = .int .i64 ((l : Nat) : Int) → lk env 4 = .clo 1053 [] [] → lk env 10 = .bool wb → lk env 11 = .bool wp → lk env 12 = .int .i64 ((b : Int) - (a : Int)) → lk env 13 = .int .i64 ((p : Nat) : Int) →
          Ev tab ts5D ⟨env, [.row false (kys d3.toList)], 1, tpqM⟩ (fun x st => thn (unx 1 x) (gst (ghost (.norm 0) st) (Q .normal)) (Q (unx 1 x) st))) → Ev tab d1058_b0 (tqsS a b limit wb wp d) Q) := by
  have swo := ordrT.swo
  cases wb with
  | true =>
    have s1 : PermIn a b d d := Go.Sort.permIn_refl _ _ _
    have B1 := hB
    have hb1 := hb
    have hs1 := hs
    obtain ⟨p, h, p1, p2, p3, gp⟩ := tpiv_run (d := d) (a := a) (b := b) (by omega) hb (by omega)
    by_cases hd : h = 2
    · subst hd
      have gr := trev_run (d := d) (a := a) (b := b) (by omega) hb1 (by omega)
      have s2 : PermIn a b d (reverseRange d a b) := Go.Sort.reverseRange_holds _ a b (by omega) hb1
      have B2 := B1.perm hb1 s2
      have hb2 : b ≤ (reverseRange d a b).size := by rw [s2.1]; exact hb1
      have hs2 : (reverseRange d a b).size ≤ 60000 := by rw [s2.1]; exact hs1
      have sp := Go.Sort.permIn_trans _ _ _ a b s1 s2
      obtain ⟨p', hp'⟩ : ∃ p' : Nat, ((b : Int) - 1) - ((p : Int) - (a : Int)) = (p' : Int) := ⟨(b - 1) - (p - a), by omega⟩
      generalize reverseRange d a b = d2 at *
      rw [Int.cast_ofNat_Int] at gp
      cases wp with
      | false =>
        refine ⟨d2, sp, B2, .inr ⟨p', limit, by omega, by omega, by omega, fun Q hq => ?_⟩⟩
        simp (config := { maxSteps := 1000000 }) (disch := omega) only [go_sem, ↓reduceIte, Nat.reduceEqDiff, Nat.reduceAdd, Int.reduceToNat, reduceCtorEq, Nat.reduceLeDiff, Nat.reduceSub, Nat.reduceDiv, Nat.reduceMod, Nat.reduceMul, at_t, swp_t, ordt_lt, gc_t, size_swp, arr_len, Int.add_sub_cancel, Int.natCast_mul, tn1, tnA, tnB, tnC, tnD, tnE, tb0_eq, tqsS, tpqM, gp, gr, hp']
        exact hq _ rfl rfl rfl rfl rfl rfl rfl rfl rfl
      | true =>
        have ga := tpar_run (d := d2) (a := a) (b := b) (by omega) hb2 (by omega)
        obtain ⟨s3, s3'⟩ := Go.Sort.partialInsertionSort_holds swo d2 a b (by omega) hb2 B2
        have B3 := B2.perm hb2 s3
        have sq := Go.Sort.permIn_trans _ _ _ a b sp s3
        generalize partialInsertionSort ltT d2 a b = r at *
        obtain ⟨d3, ok⟩ := r
        simp only at *
        cases ok with
        | true =>
          refine ⟨d3, sq, B3, .inl ⟨s3' rfl, fun Q hq => ?_⟩⟩
          simp (config := { maxSteps := 1000000 }) (disch := omega) only [go_sem, ↓reduceIte, Nat.reduceEqDiff, Nat.reduceAdd, Int.reduceToNat, reduceCtorEq, Nat.reduceLeDiff, Nat.reduceSub, Nat.reduceDiv, Nat.reduceMod, Nat.reduceMul, at_t, swp_t, ordt_lt, gc_t, size_swp, arr_len, Int.add_sub_cancel, Int.natCast_mul, tn1, tnA, tnB, tnC, tnD, tnE, tb0_eq, tqsS, tpqM, gp, gr, hp', ga]
          exact hq _
        | false =>
          refine ⟨d3, sq, B3, .inr ⟨p', limit, by omega, by omega, by omega, fun Q hq => ?_⟩⟩
          simp (config := { maxSteps := 1000000 }) (disch := omega) only [go_sem, ↓reduceIte, Nat.reduceEqDiff, Nat.reduceAdd, Int.reduceToNat, reduceCtorEq, Nat.reduceLeDiff, Nat.reduceSub, Nat.reduceDiv, Nat.reduceMod, Nat.reduceMul, at_t, swp_t, ordt_lt, gc_t, size_swp, arr_len, Int.add_sub_cancel, Int.natCast_mul, tn1, tnA, tnB, tnC, tnD, tnE, tb0_eq, tqsS, tpqM, gp, gr, hp', ga]
          exact hq _ rfl rfl rfl rfl rfl rfl rfl rfl rfl
    · have hb2 := hb1
      have hs2 := hs1
      have B2 := B1
      have sp := s1
      have hd' : ¬ ((h : Int) = 2) := by omega
      cases wp with
      | false =>
        refine ⟨d, sp, B2, .inr ⟨p, limit, by omega, by omega, by omega, fun Q hq => ?_⟩⟩
        simp (config := { maxSteps := 1000000 }) (disch := omega) only [go_sem, ↓reduceIte, Nat.reduceEqDiff, Nat.reduceAdd, Int.reduceToNat, reduceCtorEq, Nat.reduceLeDiff, Nat.reduceSub, Nat.reduceDiv, Nat.reduceMod, Nat.reduceMul, at_t, swp_t, ordt_lt, gc_t, size_swp, arr_len, Int.add_sub_cancel, Int.natCast_mul, tn1, tnA, tnB, tnC, tnD, tnE, tb0_eq, tqsS, tpqM, gp, hd']
        exact hq _ rfl rfl rfl rfl rfl rfl rfl rfl rfl
      | true =>
        by_cases h1 : h = 1
        · subst h1
          rw [Int.cast_ofNat_Int] at gp hd'
          have ga := tpar_run (d := d) (a := a) (b := b) (by omega) hb2 (by omega)
          obtain ⟨s3, s3'⟩ := Go.Sort.partialInsertionSort_holds swo d a b (by omega) hb2 B2
          have B3 := B2.perm hb2 s3
          have sq := Go.Sort.permIn_trans _ _ _ a b sp s3
          generalize partialInsertionSort ltT d a b = r at *
          obtain ⟨d3, ok⟩ := r
          simp only at *
          cases ok with
          | true =>
            refine ⟨d3, sq, B3, .inl ⟨s3' rfl, fun Q hq => ?_⟩⟩
            simp (config := { maxSteps := 1000000 }) (disch := omega) only [go_sem, ↓reduceIte, Nat.reduceEqDiff, Nat.reduceAdd, Int.reduceToNat, reduceCtorEq, Nat.reduceLeDiff, Nat.reduceSub, Nat.reduceDiv, Nat.reduceMod, Nat.reduceMul, at_t, swp_t, ordt_lt, gc_t, size_swp, arr_len, Int.add_sub_cancel, Int.natCast_mul, tn1, tnA, tnB, tnC, tnD, tnE, tb0_eq, tqsS, tpqM, gp, hd', ga]
            exact hq _
          | false =>
            refine ⟨d3, sq, B3, .inr ⟨p, limit, by omega, by omega, by omega, fun Q hq => ?_⟩⟩
            simp (config := { maxSteps := 1000000 }) (disch := omega) only [go_sem, ↓reduceIte, Nat.reduceEqDiff, Nat.reduceAdd, Int.reduceToNat, reduceCtorEq, Nat.reduceLeDiff, Nat.reduceSub, Nat.reduceDiv, Nat.reduceMod, Nat.reduceMul, at_t, swp_t, ordt_lt, gc_t, size_swp, arr_len, Int.add_sub_cancel, Int.natCast_mul, tn1, tnA, tnB, tnC, tnD, tnE, tb0_eq, tqsS, tpqM, gp, hd', ga]
            exact hq _ rfl rfl rfl rfl rfl rfl rfl rfl rfl
        · have h1' : ¬ ((h : Int) = 1) := by omega
          refine ⟨d, sp, B2, .inr ⟨p, limit, by omega, by omega, by omega, fun Q hq => ?_⟩⟩
          simp (config := { maxSteps := 1000000 }) (disch := omega) only [go_sem, ↓reduceIte, Nat.reduceEqDiff, Nat.reduceAdd, Int.reduceToNat, reduceCtorEq, Nat.reduceLeDiff, Nat.reduceSub, Nat.reduceDiv, Nat.reduceMod, Nat.reduceMul, at_t, swp_t, ordt_lt, gc_t, size_swp, arr_len, Int.add_sub_cancel, Int.natCast_mul, tn1, tnA, tnB, tnC, tnD, tnE, tb0_eq, tqsS, tpqM, gp, hd', h1']
          exact hq _ rfl rfl rfl rfl rfl rfl rfl rfl rfl
  | false =>
    obtain ⟨d1, s1, gb⟩ := tbrk_run (d := d) (a := a) (b := b) (by omega) hb hs
    have B1 := hB.perm hb s1
    have hb1 : b ≤ d1.size := by rw [s1.1]; exact hb
    have hs1 : d1.size ≤ 60000 := by rw [s1.1]; exact hs
    obtain ⟨p, h, p1, p2, p3, gp⟩ := tpiv_run (d := d1) (a := a) (b := b) (by omega) hb1 (by omega)
    obtain ⟨l, rfl⟩ : ∃ l, limit = l + 1 := ⟨limit - 1, by omega⟩
    by_cases hd : h = 2
    · subst hd
      have gr := trev_run (d := d1) (a := a) (b := b) (by omega) hb1 (by omega)
      have s2 : PermIn a b d1 (reverseRange d1 a b) := Go.Sort.reverseRange_holds _ a b (by omega) hb1
      have B2 := B1.perm hb1 s2
      have hb2 : b ≤ (reverseRange d1 a b).size := by rw [s2.1]; exact hb1
      have hs2 : (reverseRange d1 a b).size ≤ 60000 := by rw [s2.1]; exact hs1
      have sp := Go.Sort.permIn_trans _ _ _ a b s1 s2
      obtain ⟨p', hp'⟩ : ∃ p' : Nat, ((b : Int) - 1) - ((p : Int) - (a : Int)) = (p' : Int) := ⟨(b - 1) - (p - a), by omega⟩
      generalize reverseRange d1 a b = d2 at *
      rw [Int.cast_ofNat_Int] at gp
      refine ⟨d2, sp, B2, .inr ⟨p', l, by omega, by omega, by omega, fun Q hq => ?_⟩⟩
      simp (config := { maxSteps := 1000000 }) (disch := omega) only [go_sem, ↓reduceIte, Nat.reduceEqDiff, Nat.reduceAdd, Int.reduceToNat, reduceCtorEq, Nat.reduceLeDiff, Nat.reduceSub, Nat.reduceDiv, Nat.reduceMod, Nat.reduceMul, at_t, swp_t, ordt_lt, gc_t, size_swp, arr_len, Int.add_sub_cancel, Int.natCast_mul, tn1, tnA, tnB, tnC, tnD, tnE, tb0_eq, tqsS, tpqM, gb, gp, gr, hp']
      exact hq _ rfl rfl rfl rfl rfl rfl rfl rfl rfl
    · have hb2 := hb1
      have hs2 := hs1
      have B2 := B1
      have sp := s1
      have hd' : ¬ ((h : Int) = 2) := by omega
      refine ⟨d1, sp, B2, .inr ⟨p, l, by omega, by omega, by omega, fun Q hq => ?_⟩⟩
      simp (config := { maxSteps := 1000000 }) (disch := omega) only [go_sem, ↓reduceIte, Nat.reduceEqDiff, Nat.reduceAdd, Int.reduceToNat, reduceCtorEq, Nat.reduceLeDiff, Nat.reduceSub, Nat.reduceDiv, Nat.reduceMod, Nat.reduceMul, at_t, swp_t, ordt_lt, gc_t, size_swp, arr_len, Int.add_sub_cancel, Int.natCast_mul, tn1, tnA, tnB, tnC, tnD, tnE, tb0_eq, tqsS, tpqM, gb, gp, hd']
      exact hq _ rfl rfl rfl rfl rfl rfl rfl rfl rfl
theorem tqs_loop : ∀ (n a b limit : Nat) (wb wp : Bool) (d : Array Ky), b - a ≤ n → a ≤ b → b ≤ d.size → d.size ≤ 60000 → limit ≤ 100 → Below ltT a b d →
    ∃ d', PermIn a b d d' ∧ SortedIn ltT a b d' ∧ ∀ Q : AX → St → Prop, (∀ env, Q .ret ⟨env, [.row false (kys d'.toList)], 1, tpqM⟩) → Ev tab (.loop d1058_b0) (tqsS a b limit wb wp d) Q := by
  intro n
  induction n with
  | zero =>
    intro a b limit wb wp d hn hab hb hs hl hB
    obtain ⟨i1, i2⟩ := Go.Sort.insertionSort_holds ordrT.swo d a b hab hb
    have g := tins_run hab hb (by omega)
    refine ⟨_, i1, i2, fun Q hq => Ev_stop ?_⟩
    generalize insertionSort ltT d a b = d' at *
    simp (config := { maxSteps := 1000000 }) (disch := omega) only [go_sem, ↓reduceIte, Nat.reduceEqDiff, Nat.reduceAdd, Int.reduceToNat, reduceCtorEq, Nat.reduceLeDiff, Nat.reduceSub, Nat.reduceDiv, Nat.reduceMod, Nat.reduceMul, at_t, swp_t, ordt_lt, gc_t, size_swp, arr_len, Int.add_sub_cancel, Int.natCast_mul, tn1, tnA, tnB, tnC, tnD, tnE, tb0_eq, tqsS, tpqM, g]
    exact hq _
  | succ n ih =>
    intro a b limit wb wp d hn hab hb hs hl hB
    by_cases h12 : b - a ≤ 12
    · obtain ⟨i1, i2⟩ := Go.Sort.insertionSort_holds ordrT.swo d a b hab hb
      have g := tins_run hab hb (by omega)
      refine ⟨_, i1, i2, fun Q hq => Ev_stop ?_⟩
      generalize insertionSort ltT d a b = d' at *
      simp (config := { maxSteps := 1000000 }) (disch := omega) only [go_sem, ↓reduceIte, Nat.reduceEqDiff, Nat.reduceAdd, Int.reduceToNat, reduceCtorEq, Nat.reduceLeDiff, Nat.reduceSub, Nat.reduceDiv, Nat.reduceMod, Nat.reduceMul, at_t, swp_t, ordt_lt, gc_t, size_swp, arr_len, Int.add_sub_cancel, Int.natCast_mul, tn1, tnA, tnB, tnC, tnD, tnE, tb0_eq, tqsS, tpqM, g]
      exact hq _
    by_cases h0 : limit = 0
    · obtain ⟨i1, i2⟩ := Go.Sort.heapSort_holds ordrT.swo d a b hab hb
      have g := theap_run hab hb (by omega) (by omega)
      refine ⟨_, i1, i2, fun Q hq => Ev_stop ?_⟩
      generalize heapSort ltT d a b = d' at *
      subst h0
      simp (config := { maxSteps := 1000000 }) (disch := omega) only [go_sem, ↓reduceIte, Nat.reduceEqDiff, Nat.reduceAdd, Int.reduceToNat, reduceCtorEq, Nat.reduceLeDiff, Nat.reduceSub, Nat.reduceDiv, Nat.reduceMod, Nat.reduceMul, at_t, swp_t, ordt_lt, gc_t, size_swp, arr_len, Int.add_sub_cancel, Int.natCast_mul, tn1, tnA, tnB, tnC, tnD, tnE, tb0_eq, tqsS, tpqM, g]
      exact hq _
    have IH : tIH n := fun a b limit d h1 h2 h3 h4 h5 h6 => by
      obtain ⟨d', j1, j2, j3⟩ := ih a b limit true true d h1 h2 h3 h4 h5 h6
      refine ⟨d', j1, j2, runP_fn t1058 rfl ?_⟩
      simp (config := { maxSteps := 1000000 }) (disch := omega) only [go_sem, ↓reduceIte, Nat.reduceEqDiff, Nat.reduceAdd, Int.reduceToNat, reduceCtorEq, Nat.reduceLeDiff, Nat.reduceSub, Nat.reduceDiv, Nat.reduceMod, Nat.reduceMul, at_t, swp_t, ordt_lt, gc_t, size_swp, arr_len, Int.add_sub_cancel, Int.natCast_mul, tn1, tnA, tnB, tnC, tnD, tnE, d1058]
      refine j3 _ (fun env => ?_)
      simp (config := { maxSteps := 1000000 }) (disch := omega) only [go_sem, ↓reduceIte, Nat.reduceEqDiff, Nat.reduceAdd, Int.reduceToNat, reduceCtorEq, Nat.reduceLeDiff, Nat.reduceSub, Nat.reduceDiv, Nat.reduceMod, Nat.reduceMul, at_t, swp_t, ordt_lt, gc_t, size_swp, arr_len, Int.add_sub_cancel, Int.natCast_mul, tn1, tnA, tnB, tnC, tnD, tnE, tpqM]
    obtain ⟨d3, s1, B3, h⟩ := thead (wb := wb) (wp := wp) (by omega) h0 hb hs hl hB
    rcases h with ⟨h1, h2⟩ | ⟨p, l, p1, p2, p3, h2⟩
    · exact ⟨d3, s1, h1, fun Q hq => Ev_stop (h2 _ fun env => ⟨nofun, hq env⟩)⟩
    · have hb3 : b ≤ d3.size := by rw [s1.1]; exact hb
      have hs3 : d3.size ≤ 60000 := by rw [s1.1]; exact hs
      let env0 : List (Nat × AV) := [(0, .own 3 0), (1, .int .i64 (a : Int)), (2, .int .i64 (b : Int)), (3, .int .i64 (l : Int)), (4, .clo 1053 [] []), (10, .bool wb), (11, .bool wp), (12, .int .i64 ((b : Int) - (a : Int))), (13, .int .i64 (p : Int))]
      obtain ⟨a', b', wb', wp', d4, c1, c2, c3, c4, c5, c6, c7⟩ := ts5 (env := env0) IH hn p1 p2 hb3 hs3 p3 B3 rfl rfl rfl rfl rfl rfl rfl rfl rfl
      obtain ⟨d', j1, j2, j3⟩ := ih a' b' l wb' wp' d4 c1 c2 c3 (by omega) p3 c5
      obtain ⟨k1, k2⟩ := c6 d' j1 j2
      refine ⟨d', Go.Sort.permIn_trans _ _ _ a b s1 k1, k2, fun Q hq => Ev_step (st' := tqsS a' b' l wb' wp' d4) (h2 _ fun env e0 e1 e2 e3 e4 e10 e11 e12 e13 => ?_) (j3 Q hq)⟩
      have hk : ∀ Q', Ev tab ts5D ⟨env0, [.row false (kys d3.toList)], 1, tpqM⟩ Q' → Ev tab ts5D ⟨env, [.row false (kys d3.toList)], 1, tpqM⟩ Q' := fun Q' h => by
        unfold ts5D at h ⊢
        rw [Ev_ghost, ghost_keep] at h ⊢
        simp only [keepEnv_cons, keepEnv_nil, e0, e1, e2, e3, e4, e10, e11, e12, e13]
        exact h
      refine hk _ (c7 _ fun env x hx f0 f1 f2 f3 f4 f10 f11 => ?_)
      rcases hx with rfl | rfl <;> simp (config := { maxSteps := 1000000 }) (disch := omega) only [go_sem, ↓reduceIte, Nat.reduceEqDiff, Nat.reduceAdd, Int.reduceToNat, reduceCtorEq, Nat.reduceLeDiff, Nat.reduceSub, Nat.reduceDiv, Nat.reduceMod, Nat.reduceMul, at_t, swp_t, ordt_lt, gc_t, size_swp, arr_len, Int.add_sub_cancel, Int.natCast_mul, tn1, tnA, tnB, tnC, tnD, tnE, tqsS, tpqM, f0, f1, f2, f3, f4, f10, f11]
theorem tsf_run {l : List Ky} (hl : l.length ≤ 60000) : runP tab 1052 [.own 3 0, .clo 1053 [] []] [.row false (kys (l.toArray).toList)] = some (.tup [], [.row false (kys ((sorted ltT l).toArray).toList)]) := by
  refine runP_fn t1052 rfl ?_
  obtain ⟨k, k1, _, gk⟩ := len_run (n := l.toArray.size) (by simp; omega)
  obtain ⟨d', j1, j2, j3⟩ := tqs_loop _ 0 l.toArray.size k true true l.toArray (Nat.le_refl _) (Nat.zero_le _) (Nat.le_refl _) (by simpa using hl) (by omega) (.inl rfl)
  have e : d' = (sorted ltT l).toArray := by
    rw [← Array.toList_inj, sorted_uni ordrT j1 j2]
  subst e
  have gq : runP tab 1058 [.own 3 0, .int .i64 0, .int .i64 ((l.toArray.size : Nat) : Int), .int .i64 (k : Int), .clo 1053 [] []] [.row false (kys (l.toArray).toList)] = some (.tup [], [.row false (kys ((sorted ltT l).toArray).toList)]) := by
    refine runP_fn t1058 rfl ?_
    rw [show (0 : Int) = ((0 : Nat) : Int) from rfl]
    simp (config := { maxSteps := 1000000 }) (disch := omega) only [go_sem, ↓reduceIte, Nat.reduceEqDiff, Nat.reduceAdd, Int.reduceToNat, reduceCtorEq, Nat.reduceLeDiff, Nat.reduceSub, Nat.reduceDiv, Nat.reduceMod, Nat.reduceMul, at_t, swp_t, ordt_lt, gc_t, size_swp, arr_len, Int.add_sub_cancel, Int.natCast_mul, tn1, tnA, tnB, tnC, tnD, tnE, d1058]
    refine j3 _ (fun env => ?_)
    simp (config := { maxSteps := 1000000 }) (disch := omega) only [go_sem, ↓reduceIte, Nat.reduceEqDiff, Nat.reduceAdd, Int.reduceToNat, reduceCtorEq, Nat.reduceLeDiff, Nat.reduceSub, Nat.reduceDiv, Nat.reduceMod, Nat.reduceMul, at_t, swp_t, ordt_lt, gc_t, size_swp, arr_len, Int.add_sub_cancel, Int.natCast_mul, tn1, tnA, tnB, tnC, tnD, tnE, tpqM]
  have hsz : l.toArray.size ≤ 60000 := by simpa using hl
  generalize (sorted ltT l).toArray = d' at *
  generalize l.toArray = d at *
  simp (config := { maxSteps := 1000000 }) (disch := omega) only [go_sem, ↓reduceIte, Nat.reduceEqDiff, Nat.reduceAdd, Int.reduceToNat, reduceCtorEq, Nat.reduceLeDiff, Nat.reduceSub, Nat.reduceDiv, Nat.reduceMod, Nat.reduceMul, at_t, swp_t, ordt_lt, gc_t, size_swp, arr_len, Int.add_sub_cancel, Int.natCast_mul, tn1, tnA, tnB, tnC, tnD, tnE, d1052, wrapu_id, gk, gq]
end Go.Proofs.Ythpgaecloecflaa
