/- The library's sort of numbers: the whole. -/
import Derived.Test.YtgjahkebhlphgaaSi3
import Derived.Test.YtgjahkebhlphgaaSk
namespace Go.Proofs.Ytgjahkebhlphgaa
set_option linter.unusedSimpArgs false
set_option linter.unusedVariables false
set_option maxHeartbeats 4000000
set_option maxRecDepth 100000
open Go.Sort (insertionSort heapSort partition partitionEqual partialInsertionSort reverseRange size_swp PermIn SortedIn Below)
def ibpS (a L M i : Nat) (X : Int) (d : Array Int) : St := ⟨[(0, .own 1 0), (1, .int .i64 (a : Int)), (6, .int .i64 (L : Int)), (7, .ref 1 0), (8, .int .u64 (M : Int)), (9, .int .i64 (i : Int))], [.row false (ints d.toList), .row false [.int .u64 X]], 1, [(0, 2, [0, 1, 6, 7, 8, 9], [(0, 0), (7, 1)])]⟩
theorem ibp_loop {a L m M : Nat} (hm : m = L / 4) (h8 : 8 ≤ L) (hM1 : 1 ≤ M) (hM2 : M ≤ 2 * L) : ∀ (r i : Nat) (X : Int) (d : Array Int), i + r = a + m * 2 + 2 → a ≤ i → a + L ≤ d.size → d.size ≤ 60000 →
    ∃ d', PermIn a (a + L) d d' ∧ ∀ Q : AX → St → Prop, (∀ env X', Q (.exit 0) ⟨env, [.row false (ints d'.toList), .row false [.int .u64 X']], 1, [(0, 2, [0, 1, 6, 7, 8, 9], [(0, 0), (7, 1)])]⟩) → Ev tab (.loop d1381_b0) (ibpS a L M i X d) Q
  | 0, i, X, d, hi, ha, hb, hs => by
    refine ⟨d, Go.Sort.permIn_refl _ _ _, fun Q hq => Ev_stop ?_⟩
    have q2 : (L : Int).tdiv 4 = (m : Int) := by rw [hm]; rfl
    simp (config := { maxSteps := 1000000 }) (disch := omega) only [go_sem, ↓reduceIte, Nat.reduceEqDiff, Nat.reduceAdd, Int.reduceToNat, reduceCtorEq, Nat.reduceLeDiff, Nat.reduceSub, Nat.reduceDiv, Nat.reduceMod, Nat.reduceMul, at_i, swp_i, gl_i, size_swp, arr_len, Int.add_sub_cancel, Int.natCast_mul, tn1, tnA, tnB, tnC, tnD, tnE, d1381_b0, ibpS, q2]
    exact hq _ _
  | r + 1, i, X, d, hi, ha, hb, hs => by
    obtain ⟨Y, y1, y2, gn⟩ := next_run (X := X)
    obtain ⟨O, o1, go⟩ := and_run (M := M) y1 y2 hM1 (by omega)
    have q2 : (L : Int).tdiv 4 = (m : Int) := by rw [hm]; rfl
    by_cases hO : L ≤ O
    · obtain ⟨o, rfl⟩ : ∃ o, O = L + o := ⟨O - L, by omega⟩
      have q3 : (L : Int) + (o : Int) - (L : Int) = (o : Int) := by omega
      obtain ⟨d', p1, p2⟩ := ibp_loop (a := a) hm h8 hM1 hM2 r (i + 1) Y (Go.Sort.swp d i (a + o)) (by omega) (by omega) (by rw [size_swp]; omega) (by rw [size_swp]; exact hs)
      refine ⟨d', Go.Sort.permIn_trans _ _ _ a (a + L) (Go.Sort.swp_permIn d a (a + L) i (a + o) ha (by omega) (by omega) (by omega) hb) p1, fun Q hq => Ev_step (st' := ibpS a L M (i + 1) Y (Go.Sort.swp d i (a + o))) ?_ (p2 Q hq)⟩
      simp (config := { maxSteps := 1000000 }) (disch := omega) only [go_sem, ↓reduceIte, Nat.reduceEqDiff, Nat.reduceAdd, Int.reduceToNat, reduceCtorEq, Nat.reduceLeDiff, Nat.reduceSub, Nat.reduceDiv, Nat.reduceMod, Nat.reduceMul, at_i, swp_i, gl_i, size_swp, arr_len, Int.add_sub_cancel, Int.natCast_mul, tn1, tnA, tnB, tnC, tnD, tnE, d1381_b0, ibpS, q2, q3, gn, go, wrapu_id]
    · obtain ⟨d', p1, p2⟩ := ibp_loop (a := a) hm h8 hM1 hM2 r (i + 1) Y (Go.Sort.swp d i (a + O)) (by omega) (by omega) (by rw [size_swp]; omega) (by rw [size_swp]; exact hs)
      refine ⟨d', Go.Sort.permIn_trans _ _ _ a (a + L) (Go.Sort.swp_permIn d a (a + L) i (a + O) ha (by omega) (by omega) (by omega) hb) p1, fun Q hq => Ev_step (st' := ibpS a L M (i + 1) Y (Go.Sort.swp d i (a + O))) ?_ (p2 Q hq)⟩
      simp (config := { maxSteps := 1000000 }) (disch := omega) only [go_sem, ↓reduceIte, Nat.reduceEqDiff, Nat.reduceAdd, Int.reduceToNat, reduceCtorEq, Nat.reduceLeDiff, Nat.reduceSub, Nat.reduceDiv, Nat.reduceMod, Nat.reduceMul, at_i, swp_i, gl_i, size_swp, arr_len, Int.add_sub_cancel, Int.natCast_mul, tn1, tnA, tnB, tnC, tnD, tnE, d1381_b0, ibpS, q2, gn, go, wrapu_id]
theorem ibrk_run {a b : Nat} {d : Array Int} (hab : a ≤ b) (hb : b ≤ d.size) (hs : d.size ≤ 60000) : ∃ d', PermIn a b d d' ∧ runP tab 1381 [.own 1 0, .int .i64 (a : Int), .int .i64 (b : Int)] [.row false (ints d.toList)] = some (.tup [], [.row false (ints d'.toList)]) := by
  obtain ⟨L, rfl⟩ : ∃ L, b = a + L := ⟨b - a, by omega⟩
  have q1 : ((a : Int) + (L : Int)) - (a : Int) = (L : Int) := by omega
  by_cases h8 : 8 ≤ L
  · obtain ⟨M, m1, m2, gM⟩ := npow_run (n := L) (by omega) (by omega)
    obtain ⟨m, hm⟩ : ∃ m, m = L / 4 := ⟨_, rfl⟩
    have q2 : (L : Int).tdiv 4 = (m : Int) := by rw [hm]; rfl
    have q3 : (a : Int) + (m : Int) * 2 - 1 = ((a + m * 2 - 1 : Nat) : Int) := by omega
    obtain ⟨d', p1, p2⟩ := ibp_loop (a := a) hm h8 m1 m2 3 (a + m * 2 - 1) (L : Int) d (by omega) (by omega) hb hs
    refine ⟨d', p1, ?_⟩
    refine runP_fn t1381 rfl ?_
    simp (config := { maxSteps := 1000000 }) (disch := omega) only [go_sem, ↓reduceIte, Nat.reduceEqDiff, Nat.reduceAdd, Int.reduceToNat, reduceCtorEq, Nat.reduceLeDiff, Nat.reduceSub, Nat.reduceDiv, Nat.reduceMod, Nat.reduceMul, at_i, swp_i, gl_i, size_swp, arr_len, Int.add_sub_cancel, Int.natCast_mul, tn1, tnA, tnB, tnC, tnD, tnE, d1381, q1, q2, q3, gM, wrapu_id]
    refine p2 _ (fun env X' => ?_)
    simp (config := { maxSteps := 1000000 }) (disch := omega) only [go_sem, ↓reduceIte, Nat.reduceEqDiff, Nat.reduceAdd, Int.reduceToNat, reduceCtorEq, Nat.reduceLeDiff, Nat.reduceSub, Nat.reduceDiv, Nat.reduceMod, Nat.reduceMul, at_i, swp_i, gl_i, size_swp, arr_len, Int.add_sub_cancel, Int.natCast_mul, tn1, tnA, tnB, tnC, tnD, tnE]
  · refine ⟨d, Go.Sort.permIn_refl _ _ _, ?_⟩
    refine runP_fn t1381 rfl ?_
    simp (config := { maxSteps := 1000000 }) (disch := omega) only [go_sem, ↓reduceIte, Nat.reduceEqDiff, Nat.reduceAdd, Int.reduceToNat, reduceCtorEq, Nat.reduceLeDiff, Nat.reduceSub, Nat.reduceDiv, Nat.reduceMod, Nat.reduceMul, at_i, swp_i, gl_i, size_swp, arr_len, Int.add_sub_cancel, Int.natCast_mul, tn1, tnA, tnB, tnC, tnD, tnE, d1381, q1]
def is5D : Stmt := (.ghost (.keep [0, 1, 2, 3, 8, 9, 10, 11]) (.seq (.seq (.ops true [⟨some 73, .move (.tmp 1), none⟩, ⟨some 74, .bin 0 .gtr (.tmp 73) (.val (.int .i64 0)), none⟩, ⟨some 75, .move (.tmp 74), none⟩, ⟨some 76, .move (.tmp 0), some (75, true)⟩, ⟨some 77, .move (.tmp 1), some (75, true)⟩, ⟨some 78, .bin 0 .sub (.tmp 77) (.val (.int .i64 1)), some (75, true)⟩, ⟨some 79, .indexAddr 1 (.tmp 76) (.tmp 78), some (75, true)⟩, ⟨some 80, .load false none (.tmp 79), some (75, true)⟩, ⟨some 81, .move (.tmp 0), some (75, true)⟩, ⟨some 82, .move (.tmp 11), some (75, true)⟩, ⟨some 83, .indexAddr 1 (.tmp 81) (.tmp 82), some (75, true)⟩, ⟨some 84, .load false none (.tmp 83), some (75, true)⟩, ⟨some 85, .call .quiet 1219 [.tmp 80, .tmp 84], some (75, true)⟩, ⟨some 86, .un .not (.tmp 85), some (75, true)⟩, ⟨some 87, .pick (.tmp 75) (.tmp 86) (.val (.bool false)), none⟩]) (.ghost (.keep [0, 1, 2, 3, 8, 9, 10, 11, 87]) (.cond (.tmp 87) (.seq (.ops false [⟨some 88, .move (.tmp 0), none⟩, ⟨some 89, .move (.tmp 1), none⟩, ⟨some 90, .move (.tmp 2), none⟩, ⟨some 91, .move (.tmp 11), none⟩, ⟨some 92, .call .mem 1385 [.tmp 88, .tmp 89, .tmp 90, .tmp 91], none⟩, ⟨some 13, .move (.tmp 92), none⟩]) (.ghost (.keep [0, 2, 3, 8, 9, 13]) (.seq (.ops false [⟨some 93, .move (.tmp 13), none⟩, ⟨some 1, .move (.tmp 93), none⟩]) (.exit 1)))) .skip))) (.ghost (.keep [0, 1, 2, 3, 10, 11]) (.seq (.ops false [⟨some 95, .move (.tmp 0), none⟩, ⟨some 96, .move (.tmp 1), none⟩, ⟨some 97, .move (.tmp 2), none⟩, ⟨some 98, .move (.tmp 11), none⟩, ⟨some 99, .call .mem 1386 [.tmp 95, .tmp 96, .tmp 97, .tmp 98], none⟩, ⟨some 94, .move (.tmp 99), none⟩, ⟨some 100, .extract 0 (.tmp 94), none⟩, ⟨some 101, .extract 1 (.tmp 94), none⟩, ⟨some 14, .move (.tmp 100), none⟩, ⟨some 15, .move (.tmp 101), none⟩]) (.ghost (.keep [0, 1, 2, 3, 10, 14, 15]) (.seq (.ops false [⟨some 102, .move (.tmp 15), none⟩, ⟨some 9, .move (.tmp 102), none⟩]) (.seq (.ops false [⟨some 103, .move (.tmp 14), none⟩, ⟨some 104, .move (.tmp 1), none⟩, ⟨some 105, .bin 0 .sub (.tmp 103) (.tmp 104), none⟩, ⟨some 106, .move (.tmp 2), none⟩, ⟨some 107, .move (.tmp 14), none⟩, ⟨some 108, .bin 0 .sub (.tmp 106) (.tmp 107), none⟩, ⟨some 16, .move (.tmp 105), none⟩, ⟨some 17, .move (.tmp 108), none⟩]) (.ghost (.keep [0, 1, 2, 3, 9, 10, 14, 16, 17]) (.seq (.ops false [⟨some 109, .move (.tmp 10), none⟩, ⟨some 110, .bin 0 .quo (.tmp 109) (.val (.int .i64 8)), none⟩, ⟨some 18, .move (.tmp 110), none⟩]) (.seq (.ops false [⟨some 111, .move (.tmp 16), none⟩, ⟨some 112, .move (.tmp 17), none⟩, ⟨some 113, .bin 0 .lss (.tmp 111) (.tmp 112), none⟩]) (.cond (.tmp 113) (.seq (.ops false [⟨some 114, .move (.tmp 16), none⟩, ⟨some 115, .move (.tmp 18), none⟩, ⟨some 116, .bin 0 .geq (.tmp 114) (.tmp 115), none⟩, ⟨some 8, .move (.tmp 116), none⟩]) (.seq (.ops false [⟨some 117, .move (.tmp 0), none⟩, ⟨some 118, .move (.tmp 1), none⟩, ⟨some 119, .move (.tmp 14), none⟩, ⟨some 120, .move (.tmp 3), none⟩, ⟨some 121, .call .mem 1372 [.tmp 117, .tmp 118, .tmp 119, .tmp 120], none⟩]) (.ops false [⟨some 122, .move (.tmp 14), none⟩, ⟨some 123, .bin 0 .add (.tmp 122) (.val (.int .i64 1)), none⟩, ⟨some 1, .move (.tmp 123), none⟩]))) (.seq (.ops false [⟨some 124, .move (.tmp 17), none⟩, ⟨some 125, .move (.tmp 18), none⟩, ⟨some 126, .bin 0 .geq (.tmp 124) (.tmp 125), none⟩, ⟨some 8, .move (.tmp 126), none⟩]) (.seq (.ops false [⟨some 127, .move (.tmp 0), none⟩, ⟨some 128, .move (.tmp 14), none⟩, ⟨some 129, .bin 0 .add (.tmp 128) (.val (.int .i64 1)), none⟩, ⟨some 130, .move (.tmp 2), none⟩, ⟨some 131, .move (.tmp 3), none⟩, ⟨some 132, .call .mem 1372 [.tmp 127, .tmp 129, .tmp 130, .tmp 131], none⟩]) (.ghost (.keep [0, 1, 3, 8, 9, 14]) (.ops false [⟨some 133, .move (.tmp 14), none⟩, ⟨some 2, .move (.tmp 133), none⟩])))))))))))))))
theorem ib0_eq : d1372_b0 = .after (.block 1 (.seq (.ops false [⟨some 19, .move (.tmp 2), none⟩, ⟨some 20, .move (.tmp 1), none⟩, ⟨some 21, .bin 0 .sub (.tmp 19) (.tmp 20), none⟩, ⟨some 10, .move (.tmp 21), none⟩]) (.seq (.seq (.ops false [⟨some 22, .move (.tmp 10), none⟩, ⟨some 23, .bin 0 .leq (.tmp 22) (.val (.int .i64 12)), none⟩]) (.cond (.tmp 23) (.seq (.ops false [⟨some 24, .move (.tmp 0), none⟩, ⟨some 25, .move (.tmp 1), none⟩, ⟨some 26, .move (.tmp 2), none⟩, ⟨some 27, .call .mem 1379 [.tmp 24, .tmp 25, .tmp 26], none⟩]) .ret) .skip)) (.ghost (.keep [0, 1, 2, 3, 8, 9, 10]) (.seq (.seq (.ops false [⟨some 28, .move (.tmp 3), none⟩, ⟨some 29, .bin 0 .eql (.tmp 28) (.val (.int .i64 0)), none⟩]) (.cond (.tmp 29) (.seq (.ops false [⟨some 30, .move (.tmp 0), none⟩, ⟨some 31, .move (.tmp 1), none⟩, ⟨some 32, .move (.tmp 2), none⟩, ⟨some 33, .call .mem 1380 [.tmp 30, .tmp 31, .tmp 32], none⟩]) .ret) .skip)) (.ghost (.keep [0, 1, 2, 3, 8, 9, 10]) (.seq (.seq (.ops false [⟨some 34, .move (.tmp 8), none⟩, ⟨some 35, .un .not (.tmp 34), none⟩]) (.cond (.tmp 35) (.seq (.ops false [⟨some 36, .move (.tmp 0), none⟩, ⟨some 37, .move (.tmp 1), none⟩, ⟨some 38, .move (.tmp 2), none⟩, ⟨some 39, .call .mem 1381 [.tmp 36, .tmp 37, .tmp 38], none⟩]) (.ops false [⟨some 40, .move (.tmp 3), none⟩, ⟨some 41, .bin 0 .sub (.tmp 40) (.val (.int .i64 1)), none⟩, ⟨some 3, .move (.tmp 41), none⟩])) .skip)) (.ghost (.keep [0, 1, 2, 3, 8, 9, 10]) (.seq (.ops false [⟨some 43, .move (.tmp 0), none⟩, ⟨some 44, .move (.tmp 1), none⟩, ⟨some 45, .move (.tmp 2), none⟩, ⟨some 46, .call .quiet 1382 [.tmp 43, .tmp 44, .tmp 45], none⟩, ⟨some 42, .move (.tmp 46), none⟩, ⟨some 47, .extract 0 (.tmp 42), none⟩, ⟨some 48, .extract 1 (.tmp 42), none⟩, ⟨some 11, .move (.tmp 47), none⟩, ⟨some 12, .move (.tmp 48), none⟩]) (.ghost (.keep [0, 1, 2, 3, 8, 9, 10, 11, 12]) (.seq (.seq (.ops false [⟨some 49, .move (.tmp 12), none⟩, ⟨some 50, .bin 0 .eql (.tmp 49) (.val (.int .i64 2)), none⟩]) (.cond (.tmp 50) (.seq (.ops false [⟨some 51, .move (.tmp 0), none⟩, ⟨some 52, .move (.tmp 1), none⟩, ⟨some 53, .move (.tmp 2), none⟩, ⟨some 54, .call .mem 1383 [.tmp 51, .tmp 52, .tmp 53], none⟩]) (.seq (.ops false [⟨some 55, .move (.tmp 2), none⟩, ⟨some 56, .bin 0 .sub (.tmp 55) (.val (.int .i64 1)), none⟩, ⟨some 57, .move (.tmp 11), none⟩, ⟨some 58, .move (.tmp 1), none⟩, ⟨some 59, .bin 0 .sub (.tmp 57) (.tmp 58), none⟩, ⟨some 60, .bin 0 .sub (.tmp 56) (.tmp 59), none⟩, ⟨some 11, .move (.tmp 60), none⟩]) (.ghost (.keep [0, 1, 2, 3, 8, 9, 10, 11]) (.ops false [⟨some 12, .move (.val (.int .i64 1)), none⟩])))) .skip)) (.ghost (.keep [0, 1, 2, 3, 8, 9, 10, 11, 12]) (.seq (.seq (.ops false [⟨some 61, .move (.tmp 8), none⟩, ⟨some 62, .move (.tmp 61), none⟩, ⟨some 63, .move (.tmp 9), some (62, true)⟩, ⟨some 64, .pick (.tmp 62) (.tmp 63) (.val (.bool false)), none⟩, ⟨some 65, .move (.tmp 64), none⟩, ⟨some 66, .move (.tmp 12), some (65, true)⟩, ⟨some 67, .bin 0 .eql (.tmp 66) (.val (.int .i64 1)), some (65, true)⟩, ⟨some 68, .pick (.tmp 65) (.tmp 67) (.val (.bool false)), none⟩]) (.ghost (.keep [0, 1, 2, 3, 8, 9, 10, 11, 68]) (.cond (.tmp 68) (.seq (.ops false [⟨some 69, .move (.tmp 0), none⟩, ⟨some 70, .move (.tmp 1), none⟩, ⟨some 71, .move (.tmp 2), none⟩, ⟨some 72, .call .mem 1384 [.tmp 69, .tmp 70, .tmp 71], none⟩]) (.cond (.tmp 72) .ret .skip)) .skip))) is5D))))))))))))) (.norm 0) := rfl
def ipqM : List Mark := [(0, 1, [0, 1, 2, 3, 8, 9], [(0, 0)])]
def iqsS (a b limit : Nat) (wb wp : Bool) (d : Array Int) : St := ⟨[(0, .own 1 0), (1, .int .i64 (a : Int)), (2, .int .i64 (b : Int)), (3, .int .i64 (limit : Int)), (8, .bool wb), (9, .bool wp)], [.row false (ints d.toList)], 1, ipqM⟩
def iIH (n : Nat) : Prop := ∀ (a b limit : Nat) (d : Array Int), b - a ≤ n → a ≤ b → b ≤ d.size → d.size ≤ 60000 → limit ≤ 100 → Below ltI a b d → ∃ d', PermIn a b d d' ∧ SortedIn ltI a b d' ∧ runP tab 1372 [.own 1 0, .int .i64 (a : Int), .int .i64 (b : Int), .int .i64 (limit : Int)] [.row false (ints d.toList)] = some (.tup [], [.row false (ints d'.toList)])
theorem is5 {n a b limit p : Nat} {wb wp : Bool} {d : Array Int} {env : List (Nat × AV)} (IH : iIH n) (hn : b - a ≤ n + 1) (hab : a ≤ p) (hp : p < b) (hb : b ≤ d.size) (hs : d.size ≤ 60000) (hl : limit ≤ 100) (hB : Below ltI a b d)
    (e0 : lk env 0 = .own 1 0) (e1 : lk env 1 = .int .i64 (a : Int)) (e2 : lk env 2 = .int .i64 (b : Int)) (e3 : lk env 3 = .int .i64 (limit : Int)) (e10 : lk env 8 = .bool wb) (e11 : lk env 9 = .bool wp) (e12 : lk env 10 = .int .i64 ((b : Int) - (a : Int))) (e13 : lk env 11 = .int .i64 (p : Int)) :
    ∃ a' b' wb' wp' d4, b' - a' ≤ n ∧ a' ≤ b' ∧ b' ≤ d4.size ∧ d4.size = d.size ∧ Below ltI a' b' d4 ∧ (∀ R, PermIn a' b' d4 R → SortedIn ltI a' b' R → PermIn a b d R ∧ SortedIn ltI a b R) ∧
      ∀ Q : AX → St → Prop, (∀ env x, (x = .exit 1 ∨ x = .normal) → lk env 0 = .own 1 0 → lk env 1 = .int .i64 ((a' : Nat) : Int) → lk env 2 = .int .i64 ((b' : Nat) : Int) → lk env 3 = .int .i64 (limit : Int) → lk env 8 = .bool wb' → lk env 9 = .bool wp' → Q x ⟨env, [.row false (ints d4.toList)], 1, ipqM⟩) → Ev tab is5D ⟨env, [.row false (ints d.toList)], 1, ipqM⟩ Q := by
  by_cases hc : a > 0 ∧ ltI d[a - 1]! d[p]! = false
  · obtain ⟨h0, h1⟩ := hc
    obtain ⟨k, rfl⟩ : ∃ k, a = k + 1 := ⟨a - 1, by omega⟩
    rw [Nat.add_sub_cancel] at h1
    have g := ipeq_run hab hp hb (by omega)
    obtain ⟨r1, r2, r3, r4, r5⟩ := Go.Sort.round_eq ordrI.swo (Go.Sort.partitionEqual_holds ltI) h0 hab hp hb hB (by rw [Nat.add_sub_cancel]; exact h1) (mid := (partitionEqual ltI d (k + 1) b p).1) (d4 := (partitionEqual ltI d (k + 1) b p).2) rfl
    generalize partitionEqual ltI d (k + 1) b p = r at *
    obtain ⟨mid, d4⟩ := r
    simp only at *
    refine ⟨mid, b, wb, wp, d4, by omega, by omega, by omega, r3, r4, r5, fun Q hq => ?_⟩
    rw [Int.natCast_add, Int.cast_ofNat_Int] at g
    simp (config := { maxSteps := 1000000 }) (disch := omega) only [go_sem, ↓reduceIte, Nat.reduceEqDiff, Nat.reduceAdd, Int.reduceToNat, reduceCtorEq, Nat.reduceLeDiff, Nat.reduceSub, Nat.reduceDiv, Nat.reduceMod, Nat.reduceMul, at_i, swp_i, gl_i, size_swp, arr_len, Int.add_sub_cancel, Int.natCast_mul, tn1, tnA, tnB, tnC, tnD, tnE, is5D, e0, e1, e2, e3, e10, e11, e12, e13, h1, g]
    exact hq _ _ (.inl rfl) rfl rfl rfl rfl rfl rfl
  · have g := iprt_run hab hp hb (by omega)
    obtain ⟨r1, r2, r3, r4, r5, r6, r7⟩ := Go.Sort.round_part ordrI.swo (Go.Sort.partition_holds ltI) hab hp hb hB (mid := (partition ltI d a b p).1) (ap := (partition ltI d a b p).2.1) (d4 := (partition ltI d a b p).2.2) rfl
    generalize partition ltI d a b p = r at *
    obtain ⟨mid, ap, d4⟩ := r
    simp only at *
    have q8 : ((b : Int) - (a : Int)).tdiv 8 = (((b - a) / 8 : Nat) : Int) := by rw [show (b : Int) - (a : Int) = ((b - a : Nat) : Int) by omega]; rfl
    by_cases hlr : (mid : Int) - (a : Int) < (b : Int) - (mid : Int)
    · obtain ⟨L, l1, l2, l3⟩ := IH a mid limit d4 (by omega) r1 (by omega) (by omega) hl r4
      obtain ⟨t1, t2⟩ := r6 L l1 l2
      have lsz := l1.1
      refine ⟨mid + 1, b, decide ((((b - a) / 8 : Nat) : Int) ≤ (mid : Int) - (a : Int)), ap, L, by omega, by omega, by omega, by omega, t1, t2, fun Q hq => ?_⟩
      by_cases ha : a > 0
      · have h1 : ltI d[a - 1]! d[p]! = true := by
          cases h : ltI d[a - 1]! d[p]! with
          | true => rfl
          | false => exact absurd ⟨ha, h⟩ hc
        obtain ⟨k, rfl⟩ : ∃ k, a = k + 1 := ⟨a - 1, by omega⟩
        rw [Nat.add_sub_cancel] at h1
        rw [Int.natCast_add, Int.cast_ofNat_Int] at g l3 q8
        simp (config := { maxSteps := 1000000 }) (disch := omega) only [go_sem, ↓reduceIte, Nat.reduceEqDiff, Nat.reduceAdd, Int.reduceToNat, reduceCtorEq, Nat.reduceLeDiff, Nat.reduceSub, Nat.reduceDiv, Nat.reduceMod, Nat.reduceMul, at_i, swp_i, gl_i, size_swp, arr_len, Int.add_sub_cancel, Int.natCast_mul, tn1, tnA, tnB, tnC, tnD, tnE, is5D, e0, e1, e2, e3, e10, e11, e12, e13, h1, g, q8, l3]
        exact hq _ _ (.inr rfl) rfl rfl rfl rfl rfl rfl
      · simp (config := { maxSteps := 1000000 }) (disch := omega) only [go_sem, ↓reduceIte, Nat.reduceEqDiff, Nat.reduceAdd, Int.reduceToNat, reduceCtorEq, Nat.reduceLeDiff, Nat.reduceSub, Nat.reduceDiv, Nat.reduceMod, Nat.reduceMul, at_i, swp_i, gl_i, size_swp, arr_len, Int.add_sub_cancel, Int.natCast_mul, tn1, tnA, tnB, tnC, tnD, tnE, is5D, e0, e1, e2, e3, e10, e11, e12, e13, g, q8, l3]
        exact hq _ _ (.inr rfl) rfl rfl rfl rfl rfl rfl
    · obtain ⟨L, l1, l2, l3⟩ := IH (mid + 1) b limit d4 (by omega) (by omega) (by omega) (by omega) hl r5
      obtain ⟨t1, t2⟩ := r7 L l1 l2
      have lsz := l1.1
      rw [Int.natCast_add, Int.cast_ofNat_Int] at l3
      refine ⟨a, mid, decide ((((b - a) / 8 : Nat) : Int) ≤ (b : Int) - (mid : Int)), ap, L, by omega, by omega, by omega, by omega, t1, t2, fun Q hq => ?_⟩
      by_cases ha : a > 0
      · have h1 : ltI d[a - 1]! d[p]! = true := by
          cases h : ltI d[a - 1]! d[p]! with
          | true => rfl
          | false => exact absurd ⟨ha, h⟩ hc
        obtain ⟨k, rfl⟩ : ∃ k, a = k + 1 := ⟨a - 1, by omega⟩
        rw [Nat.add_sub_cancel] at h1
        rw [Int.natCast_add, Int.cast_ofNat_Int] at g q8
        simp (config := { maxSteps := 1000000 }) (disch := omega) only [go_sem, ↓reduceIte, Nat.reduceEqDiff, Nat.reduceAdd, Int.reduceToNat, reduceCtorEq, Nat.reduceLeDiff, Nat.reduceSub, Nat.reduceDiv, Nat.reduceMod, Nat.reduceMul, at_i, swp_i, gl_i, size_swp, arr_len, Int.add_sub_cancel, Int.natCast_mul, tn1, tnA, tnB, tnC, tnD, tnE, is5D, e0, e1, e2, e3, e10, e11, e12, e13, h1, g, q8, l3]
        exact hq _ _ (.inr rfl) rfl rfl rfl rfl rfl rfl
      · simp (config := { maxSteps := 1000000 }) (disch := omega) only [go_sem, ↓reduceIte, Nat.reduceEqDiff, Nat.reduceAdd, Int.reduceToNat, reduceCtorEq, Nat.reduceLeDiff, Nat.reduceSub, Nat.reduceDiv, Nat.reduceMod, Nat.reduceMul, at_i, swp_i, gl_i, size_swp, arr_len, Int.add_sub_cancel, Int.natCast_mul, tn1, tnA, tnB, tnC, tnD, tnE, is5D, e0, e1, e2, e3, e10, e11, e12, e13, g, q8, l3]
        exact hq _ _ (.inr rfl) rfl rfl rfl rfl rfl rfl
theorem ihead {a b limit : Nat} {wb wp : Bool} {d : Array Int} (h12 : 12 < b - a) (h0 : limit ≠ 0) (hb : b ≤ d.size) (hs : d.size ≤ 60000) (hl : limit ≤ 100) (hB : Below ltI a b d) :
    ∃ d3, PermIn a b d d3 ∧ Below ltI a b d3 ∧
      ((SortedIn ltI a b d3 ∧ ∀ Q : AX → St → Prop, (∀ env, Q .ret ⟨env, [.row false (ints d3.toList)], 1, ipqM⟩) → Ev tab d1372_b0 (iqsS a b limit wb wp d) Q) ∨
       ∃ p l, a ≤ p ∧ p < b ∧ l ≤ 100 ∧ ∀ Q : AX → St → Prop, (∀ env, lk env 0 = .own 1 0 → lk env 1 = .int .i64 (a : Int) → lk env 2 = .int .i64 (b : Int) → lk env 3 = .int .i64 ((l : Nat) : Int) → lk env 8 = .bool wb → lk env 9 = .bool wp → lk env 10 = .int .i64 ((b : Int) - (a : Int)) → lk env 11 = .int .i64 ((p : Nat) : Int) →
          Ev tab is5D ⟨env, [.row false (ints d3.toList)], 1, ipqM⟩ (fun x st => thn (unx 1 x) (gst (ghost (.norm 0) st) (Q .normal)) (Q (unx 1 x) st))) → Ev tab d1372_b0 (iqsS a b limit wb wp d) Q) := by
  have swo := ordrI.swo
  cases wb with
  | true =>
    have s1 : PermIn a b d d := Go.Sort.permIn_refl _ _ _
    have B1 := hB
    have hb1 := hb
    have hs1 := hs
    obtain ⟨p, h, p1, p2, p3, gp⟩ := ipiv_run (d := d) (a := a) (b := b) (by omega) hb (by omega)
    by_cases hd : h = 2
    · subst hd
      have gr := irev_run (d := d) (a := a) (b := b) (by omega) hb1 (by omega)
      have s2 : PermIn a b d (reverseRange d a b) := Go.Sort.reverseRange_holds _ a b (by omega) hb1
      have B2 := B1.perm hb1 s2
      have hb2 : b ≤ (reverseRange d a b).size := by rw [s2.1]; exact hb1
      have hs2 : (reverseRange d a b).size ≤ 60000 := by rw [s2.1]; exact hs1
      have sp := Go.Sort.permIn_trans _ _ _ a b s1 s2
      obtain ⟨p', hp'⟩ : ∃ p' : Nat, ((b : Int) - 1) - ((p : Int) - (a : Int)) = (p' : Int) := ⟨(b - 1) - (p - a), by omega⟩
      generalize reverseRange d a b = d2 at *
      rw [Int.cast_ofNat_Int] at gp
      cases wp with
      | false =>
        refine ⟨d2, sp, B2, .inr ⟨p', limit, by omega, by omega, by omega, fun Q hq => ?_⟩⟩
        simp (config := { maxSteps := 1000000 }) (disch := omega) only [go_sem, ↓reduceIte, Nat.reduceEqDiff, Nat.reduceAdd, Int.reduceToNat, reduceCtorEq, Nat.reduceLeDiff, Nat.reduceSub, Nat.reduceDiv, Nat.reduceMod, Nat.reduceMul, at_i, swp_i, gl_i, size_swp, arr_len, Int.add_sub_cancel, Int.natCast_mul, tn1, tnA, tnB, tnC, tnD, tnE, ib0_eq, iqsS, ipqM, gp, gr, hp']
        exact hq _ rfl rfl rfl rfl rfl rfl rfl rfl
      | true =>
        have ga := ipar_run (d := d2) (a := a) (b := b) (by omega) hb2 (by omega)
        obtain ⟨s3, s3'⟩ := Go.Sort.partialInsertionSort_holds swo d2 a b (by omega) hb2 B2
        have B3 := B2.perm hb2 s3
        have sq := Go.Sort.permIn_trans _ _ _ a b sp s3
        generalize partialInsertionSort ltI d2 a b = r at *
        obtain ⟨d3, ok⟩ := r
        simp only at *
        cases ok with
        | true =>
          refine ⟨d3, sq, B3, .inl ⟨s3' rfl, fun Q hq => ?_⟩⟩
          simp (config := { maxSteps := 1000000 }) (disch := omega) only [go_sem, ↓reduceIte, Nat.reduceEqDiff, Nat.reduceAdd, Int.reduceToNat, reduceCtorEq, Nat.reduceLeDiff, Nat.reduceSub, Nat.reduceDiv, Nat.reduceMod, Nat.reduceMul, at_i, swp_i, gl_i, size_swp, arr_len, Int.add_sub_cancel, Int.natCast_mul, tn1, tnA, tnB, tnC, tnD, tnE, ib0_eq, iqsS, ipqM, gp, gr, hp', ga]
          exact hq _
        | false =>
          refine ⟨d3, sq, B3, .inr ⟨p', limit, by omega, by omega, by omega, fun Q hq => ?_⟩⟩
          simp (config := { maxSteps := 1000000 }) (disch := omega) only [go_sem, ↓reduceIte, Nat.reduceEqDiff, Nat.reduceAdd, Int.reduceToNat, reduceCtorEq, Nat.reduceLeDiff, Nat.reduceSub, Nat.reduceDiv, Nat.reduceMod, Nat.reduceMul, at_i, swp_i, gl_i, size_swp, arr_len, Int.add_sub_cancel, Int.natCast_mul, tn1, tnA, tnB, tnC, tnD, tnE, ib0_eq, iqsS, ipqM, gp, gr, hp', ga]
          exact hq _ rfl rfl rfl rfl rfl rfl rfl rfl
    · have hb2 := hb1
      have hs2 := hs1
      have B2 := B1
      have sp := s1
      have hd' : ¬ ((h : Int) = 2) := by omega
      cases wp with
      | false =>
        refine ⟨d, sp, B2, .inr ⟨p, limit, by omega, by omega, by omega, fun Q hq => ?_⟩⟩
        simp (config := { maxSteps := 1000000 }) (disch := omega) only [go_sem, ↓reduceIte, Nat.reduceEqDiff, Nat.reduceAdd, Int.reduceToNat, reduceCtorEq, Nat.reduceLeDiff, Nat.reduceSub, Nat.reduceDiv, Nat.reduceMod, Nat.reduceMul, at_i, swp_i, gl_i, size_swp, arr_len, Int.add_sub_cancel, Int.natCast_mul, tn1, tnA, tnB, tnC, tnD, tnE, ib0_eq, iqsS, ipqM, gp, hd']
        exact hq _ rfl rfl rfl rfl rfl rfl rfl rfl
      | true =>
        by_cases h1 : h = 1
        · subst h1
          rw [Int.cast_ofNat_Int] at gp hd'
          have ga := ipar_run (d := d) (a := a) (b := b) (by omega) hb2 (by omega)
          obtain ⟨s3, s3'⟩ := Go.Sort.partialInsertionSort_holds swo d a b (by omega) hb2 B2
          have B3 := B2.perm hb2 s3
          have sq := Go.Sort.permIn_trans _ _ _ a b sp s3
          generalize partialInsertionSort ltI d a b = r at *
          obtain ⟨d3, ok⟩ := r
          simp only at *
          cases ok with
          | true =>
            refine ⟨d3, sq, B3, .inl ⟨s3' rfl, fun Q hq => ?_⟩⟩
            simp (config := { maxSteps := 1000000 }) (disch := omega) only [go_sem, ↓reduceIte, Nat.reduceEqDiff, Nat.reduceAdd, Int.reduceToNat, reduceCtorEq, Nat.reduceLeDiff, Nat.reduceSub, Nat.reduceDiv, Nat.reduceMod, Nat.reduceMul, at_i, swp_i, gl_i, size_swp, arr_len, Int.add_sub_cancel, Int.natCast_mul, tn1, tnA, tnB, tnC, tnD, tnE, ib0_eq, iqsS, ipqM, gp, hd', ga]
            exact hq _
          | false =>
            refine ⟨d3, sq, B3, .inr ⟨p, limit, by omega, by omega, by omega, fun Q hq => ?_⟩⟩
            simp (config := { maxSteps := 1000000 }) (disch := omega) only [go_sem, ↓reduceIte, Nat.reduceEqDiff, Nat.reduceAdd, Int.reduceToNat, reduceCtorEq, Nat.reduceLeDiff, Nat.reduceSub, Nat.reduceDiv, Nat.reduceMod, Nat.reduceMul, at_i, swp_i, gl_i, size_swp, arr_len, Int.add_sub_cancel, Int.natCast_mul, tn1, tnA, tnB, tnC, tnD, tnE, ib0_eq, iqsS, ipqM, gp, hd', ga]
            exact hq _ rfl rfl rfl rfl rfl rfl rfl rfl
        · have h1' : ¬ ((h : Int) = 1) := by omega
          refine ⟨d, sp, B2, .inr ⟨p, limit, by omega, by omega, by omega, fun Q hq => ?_⟩⟩
          simp (config := { maxSteps := 1000000 }) (disch := omega) only [go_sem, ↓reduceIte, Nat.reduceEqDiff, Nat.reduceAdd, Int.reduceToNat, reduceCtorEq, Nat.reduceLeDiff, Nat.reduceSub, Nat.reduceDiv, Nat.reduceMod, Nat.reduceMul, at_i, swp_i, gl_i, size_swp, arr_len, Int.add_sub_cancel, Int.natCast_mul, tn1, tnA, tnB, tnC, tnD, tnE, ib0_eq, iqsS, ipqM, gp, hd', h1']
          exact hq _ rfl rfl rfl rfl rfl rfl rfl rfl
  | false =>
    obtain ⟨d1, s1, gb⟩ := ibrk_run (d := d) (a := a) (b := b) (by omega) hb hs
    have B1 := hB.perm hb s1
    have hb1 : b ≤ d1.size := by rw [s1.1]; exact hb
    have hs1 : d1.size ≤ 60000 := by rw [s1.1]; exact hs
    obtain ⟨p, h, p1, p2, p3, gp⟩ := ipiv_run (d := d1) (a := a) (b := b) (by omega) hb1 (by omega)
    obtain ⟨l, rfl⟩ : ∃ l, limit = l + 1 := ⟨limit - 1, by omega⟩
    by_cases hd : h = 2
    · subst hd
      have gr := irev_run (d := d1) (a := a) (b := b) (by omega) hb1 (by omega)
      have s2 : PermIn a b d1 (reverseRange d1 a b) := Go.Sort.reverseRange_holds _ a b (by omega) hb1
      have B2 := B1.perm hb1 s2
      have hb2 : b ≤ (reverseRange d1 a b).size := by rw [s2.1]; exact hb1
      have hs2 : (reverseRange d1 a b).size ≤ 60000 := by rw [s2.1]; exact hs1
      have sp := Go.Sort.permIn_trans _ _ _ a b s1 s2
      obtain ⟨p', hp'⟩ : ∃ p' : Nat, ((b : Int) - 1) - ((p : Int) - (a : Int)) = (p' : Int) := ⟨(b - 1) - (p - a), by omega⟩
      generalize reverseRange d1 a b = d2 at *
      rw [Int.cast_ofNat_Int] at gp
      refine ⟨d2, sp, B2, .inr ⟨p', l, by omega, by omega, by omega, fun Q hq => ?_⟩⟩
      simp (config := { maxSteps := 1000000 }) (disch := omega) only [go_sem, ↓reduceIte, Nat.reduceEqDiff, Nat.reduceAdd, Int.reduceToNat, reduceCtorEq, Nat.reduceLeDiff, Nat.reduceSub, Nat.reduceDiv, Nat.reduceMod, Nat.reduceMul, at_i, swp_i, gl_i, size_swp, arr_len, Int.add_sub_cancel, Int.natCast_mul, tn1, tnA, tnB, tnC, tnD, tnE, ib0_eq, iqsS, ipqM, gb, gp, gr, hp']
      exact hq _ rfl rfl rfl rfl rfl rfl rfl rfl
    · have hb2 := hb1
      have hs2 := hs1
      have B2 := B1
      have sp := s1
      have hd' : ¬ ((h : Int) = 2) := by omega
      refine ⟨d1, sp, B2, .inr ⟨p, l, by omega, by omega, by omega, fun Q hq => ?_⟩⟩
      simp (config := { maxSteps := 1000000 }) (disch := omega) only [go_sem, ↓reduceIte, Nat.reduceEqDiff, Nat.reduceAdd, Int.reduceToNat, reduceCtorEq, Nat.reduceLeDiff, Nat.reduceSub, Nat.reduceDiv, Nat.reduceMod, Nat.reduceMul, at_i, swp_i, gl_i, size_swp, arr_len, Int.add_sub_cancel, Int.natCast_mul, tn1, tnA, tnB, tnC, tnD, tnE, ib0_eq, iqsS, ipqM, gb, gp, hd']
      exact hq _ rfl rfl rfl rfl rfl rfl rfl rfl
theorem iqs_loop : ∀ (n a b limit : Nat) (wb wp : Bool) (d : Array Int), b - a ≤ n → a ≤ b → b ≤ d.size → d.size ≤ 60000 → limit ≤ 100 → Below ltI a b d →
    ∃ d', PermIn a b d d' ∧ SortedIn ltI a b d' ∧ ∀ Q : AX → St → Prop, (∀ env, Q .ret ⟨env, [.row false (ints d'.toList)], 1, ipqM⟩) → Ev tab (.loop d1372_b0) (iqsS a b limit wb wp d) Q := by
  intro n
  induction n with
  | zero =>
    intro a b limit wb wp d hn hab hb hs hl hB
    obtain ⟨i1, i2⟩ := Go.Sort.insertionSort_holds ordrI.swo d a b hab hb
    have g := iins_run hab hb (by omega)
    refine ⟨_, i1, i2, fun Q hq => Ev_stop ?_⟩
    generalize insertionSort ltI d a b = d' at *
    simp (config := { maxSteps := 1000000 }) (disch := omega) only [go_sem, ↓reduceIte, Nat.reduceEqDiff, Nat.reduceAdd, Int.reduceToNat, reduceCtorEq, Nat.reduceLeDiff, Nat.reduceSub, Nat.reduceDiv, Nat.reduceMod, Nat.reduceMul, at_i, swp_i, gl_i, size_swp, arr_len, Int.add_sub_cancel, Int.natCast_mul, tn1, tnA, tnB, tnC, tnD, tnE, ib0_eq, iqsS, ipqM, g]
    exact hq _
  | succ n ih =>
    intro a b limit wb wp d hn hab hb hs hl hB
    by_cases h12 : b - a ≤ 12
    · obtain ⟨i1, i2⟩ := Go.Sort.insertionSort_holds ordrI.swo d a b hab hb
      have g := iins_run hab hb (by omega)
      refine ⟨_, i1, i2, fun Q hq => Ev_stop ?_⟩
      generalize insertionSort ltI d a b = d' at *
      simp (config := { maxSteps := 1000000 }) (disch := omega) only [go_sem, ↓reduceIte, Nat.reduceEqDiff, Nat.reduceAdd, Int.reduceToNat, reduceCtorEq, Nat.reduceLeDiff, Nat.reduceSub, Nat.reduceDiv, Nat.reduceMod, Nat.reduceMul, at_i, swp_i, gl_i, size_swp, arr_len, Int.add_sub_cancel, Int.natCast_mul, tn1, tnA, tnB, tnC, tnD, tnE, ib0_eq, iqsS, ipqM, g]
      exact hq _
    by_cases h0 : limit = 0
    · obtain ⟨i1, i2⟩ := Go.Sort.heapSort_holds ordrI.swo d a b hab hb
      have g := iheap_run hab hb (by omega) (by omega)
      refine ⟨_, i1, i2, fun Q hq => Ev_stop ?_⟩
      generalize heapSort ltI d a b = d' at *
      subst h0
      simp (config := { maxSteps := 1000000 }) (disch := omega) only [go_sem, ↓reduceIte, Nat.reduceEqDiff, Nat.reduceAdd, Int.reduceToNat, reduceCtorEq, Nat.reduceLeDiff, Nat.reduceSub, Nat.reduceDiv, Nat.reduceMod, Nat.reduceMul, at_i, swp_i, gl_i, size_swp, arr_len, Int.add_sub_cancel, Int.natCast_mul, tn1, tnA, tnB, tnC, tnD, tnE, ib0_eq, iqsS, ipqM, g]
      exact hq _
    have IH : iIH n := fun a b limit d h1 h2 h3 h4 h5 h6 => by
      obtain ⟨d', j1, j2, j3⟩ := ih a b limit true true d h1 h2 h3 h4 h5 h6
      refine ⟨d', j1, j2, runP_fn t1372 rfl ?_⟩
      simp (config := { maxSteps := 1000000 }) (disch := omega) only [go_sem, ↓reduceIte, Nat.reduceEqDiff, Nat.reduceAdd, Int.reduceToNat, reduceCtorEq, Nat.reduceLeDiff, Nat.reduceSub, Nat.reduceDiv, Nat.reduceMod, Nat.reduceMul, at_i, swp_i, gl_i, size_swp, arr_len, Int.add_sub_cancel, Int.natCast_mul, tn1, tnA, tnB, tnC, tnD, tnE, d1372]
      refine j3 _ (fun env => ?_)
      simp (config := { maxSteps := 1000000 }) (disch := omega) only [go_sem, ↓reduceIte, Nat.reduceEqDiff, Nat.reduceAdd, Int.reduceToNat, reduceCtorEq, Nat.reduceLeDiff, Nat.reduceSub, Nat.reduceDiv, Nat.reduceMod, Nat.reduceMul, at_i, swp_i, gl_i, size_swp, arr_len, Int.add_sub_cancel, Int.natCast_mul, tn1, tnA, tnB, tnC, tnD, tnE, ipqM]
    obtain ⟨d3, s1, B3, h⟩ := ihead (wb := wb) (wp := wp) (by omega) h0 hb hs hl hB
    rcases h with ⟨h1, h2⟩ | ⟨p, l, p1, p2, p3, h2⟩
    · exact ⟨d3, s1, h1, fun Q hq => Ev_stop (h2 _ fun env => ⟨nofun, hq env⟩)⟩
    · have hb3 : b ≤ d3.size := by rw [s1.1]; exact hb
      have hs3 : d3.size ≤ 60000 := by rw [s1.1]; exact hs
      let env0 : List (Nat × AV) := [(0, .own 1 0), (1, .int .i64 (a : Int)), (2, .int .i64 (b : Int)), (3, .int .i64 (l : Int)), (8, .bool wb), (9, .bool wp), (10, .int .i64 ((b : Int) - (a : Int))), (11, .int .i64 (p : Int))]
      obtain ⟨a', b', wb', wp', d4, c1, c2, c3, c4, c5, c6, c7⟩ := is5 (env := env0) IH hn p1 p2 hb3 hs3 p3 B3 rfl rfl rfl rfl rfl rfl rfl rfl
      obtain ⟨d', j1, j2, j3⟩ := ih a' b' l wb' wp' d4 c1 c2 c3 (by omega) p3 c5
      obtain ⟨k1, k2⟩ := c6 d' j1 j2
      refine ⟨d', Go.Sort.permIn_trans _ _ _ a b s1 k1, k2, fun Q hq => Ev_step (st' := iqsS a' b' l wb' wp' d4) (h2 _ fun env e0 e1 e2 e3 e10 e11 e12 e13 => ?_) (j3 Q hq)⟩
      have hk : ∀ Q', Ev tab is5D ⟨env0, [.row false (ints d3.toList)], 1, ipqM⟩ Q' → Ev tab is5D ⟨env, [.row false (ints d3.toList)], 1, ipqM⟩ Q' := fun Q' h => by
        unfold is5D at h ⊢
        rw [Ev_ghost, ghost_keep] at h ⊢
        simp only [keepEnv_cons, keepEnv_nil, e0, e1, e2, e3, e10, e11, e12, e13]
        exact h
      refine hk _ (c7 _ fun env x hx f0 f1 f2 f3 f10 f11 => ?_)
      rcases hx with rfl | rfl <;> simp (config := { maxSteps := 1000000 }) (disch := omega) only [go_sem, ↓reduceIte, Nat.reduceEqDiff, Nat.reduceAdd, Int.reduceToNat, reduceCtorEq, Nat.reduceLeDiff, Nat.reduceSub, Nat.reduceDiv, Nat.reduceMod, Nat.reduceMul, at_i, swp_i, gl_i, size_swp, arr_len, Int.add_sub_cancel, Int.natCast_mul, tn1, tnA, tnB, tnC, tnD, tnE, iqsS, ipqM, f0, f1, f2, f3, f10, f11]
theorem isf_run {l : List Int} (hl : l.length ≤ 60000) : runP tab 1358 [.own 1 0] [.row false (ints (l.toArray).toList)] = some (.tup [], [.row false (ints ((sorted ltI l).toArray).toList)]) := by
  refine runP_fn t1358 rfl ?_
  obtain ⟨k, k1, _, gk⟩ := len_run (n := l.toArray.size) (by simp; omega)
  obtain ⟨d', j1, j2, j3⟩ := iqs_loop _ 0 l.toArray.size k true true l.toArray (Nat.le_refl _) (Nat.zero_le _) (Nat.le_refl _) (by simpa using hl) (by omega) (.inl rfl)
  have e : d' = (sorted ltI l).toArray := by
    rw [← Array.toList_inj, sorted_uni ordrI j1 j2]
  subst e
  have gq : runP tab 1372 [.own 1 0, .int .i64 0, .int .i64 ((l.toArray.size : Nat) : Int), .int .i64 (k : Int)] [.row false (ints (l.toArray).toList)] = some (.tup [], [.row false (ints ((sorted ltI l).toArray).toList)]) := by
    refine runP_fn t1372 rfl ?_
    rw [show (0 : Int) = ((0 : Nat) : Int) from rfl]
    simp (config := { maxSteps := 1000000 }) (disch := omega) only [go_sem, ↓reduceIte, Nat.reduceEqDiff, Nat.reduceAdd, Int.reduceToNat, reduceCtorEq, Nat.reduceLeDiff, Nat.reduceSub, Nat.reduceDiv, Nat.reduceMod, Nat.reduceMul, at_i, swp_i, gl_i, size_swp, arr_len, Int.add_sub_cancel, Int.natCast_mul, tn1, tnA, tnB, tnC, tnD, tnE, d1372]
    refine j3 _ (fun env => ?_)
    simp (config := { maxSteps := 1000000 }) (disch := omega) only [go_sem, ↓reduceIte, Nat.reduceEqDiff, Nat.reduceAdd, Int.reduceToNat, reduceCtorEq, Nat.reduceLeDiff, Nat.reduceSub, Nat.reduceDiv, Nat.reduceMod, Nat.reduceMul, at_i, swp_i, gl_i, size_swp, arr_len, Int.add_sub_cancel, Int.natCast_mul, tn1, tnA, tnB, tnC, tnD, tnE, ipqM]
  have hsz : l.toArray.size ≤ 60000 := by simpa using hl
  generalize (sorted ltI l).toArray = d' at *
  generalize l.toArray = d at *
  simp (config := { maxSteps := 1000000 }) (disch := omega) only [go_sem, ↓reduceIte, Nat.reduceEqDiff, Nat.reduceAdd, Int.reduceToNat, reduceCtorEq, Nat.reduceLeDiff, Nat.reduceSub, Nat.reduceDiv, Nat.reduceMod, Nat.reduceMul, at_i, swp_i, gl_i, size_swp, arr_len, Int.add_sub_cancel, Int.natCast_mul, tn1, tnA, tnB, tnC, tnD, tnE, d1358, wrapu_id, gk, gq]
end Go.Proofs.Ytgjahkebhlphgaa
