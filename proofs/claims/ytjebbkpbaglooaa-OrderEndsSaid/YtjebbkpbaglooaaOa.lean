/- Layer 11: a heap of pairs drained. -/
import Derived.Test.YtjebbkpbaglooaaHv
import Derived.Test.YtjebbkpbaglooaaIc
namespace Go.Proofs.Ytjebbkpbaglooaa
set_option linter.unusedSimpArgs false
set_option linter.unusedVariables false
set_option maxHeartbeats 4000000
set_option maxRecDepth 100000
open Go.Sort (size_swp)
def snds (l : List Ed) : List Int := l.map (·.2)
def hrS_p (n k : Nat) (d : Array Ed) (acc : List Int) : St := ⟨[(0, .ifc 56 (.ref 0 0)), (3, .own 1 1), (7, .int .i64 (n : Int)), (8, .int .i64 (k : Int))], [.row false [.vec 2 (prs d.toList)], .row false (ints acc)], 1, [(0, 2, [0, 3, 7, 8], [(3, 1)]), (7, 1, [0, 3, 7, 8], [])]⟩
theorem hdr_loop_p {n : Nat} {Q : AX → St → Prop} (hn : n ≤ 1000000) : ∀ (m k : Nat) (d : Array Ed) (acc : List Int), d.size = m → k + m = n → acc.length = k →
    (∀ d' : Array Ed, d'.size = 0 → Ev tab d1193_b0 (hrS_p n n d' (acc ++ snds (hpAll ltP m d))) (fun x st => x ≠ .normal ∧ Q x st)) → Ev tab (.loop d1193_b0) (hrS_p n k d acc) Q
  | 0, k, d, acc, hd, hk, ha, hq => by
    obtain rfl : k = n := by omega
    refine Ev_stop ?_
    have := hq d hd
    rwa [hpAll, show snds [] = [] from rfl, List.append_nil] at this
  | m + 1, k, d, acc, hd, hk, ha, hq => by
    refine Ev_step (st' := hrS_p n (k + 1) (hpPop ltP d) (acc ++ [d[0]!.2])) ?_ (hdr_loop_p hn m (k + 1) _ _ (by rw [hpPop_size]; omega) (by omega) (by simp [ha]) (fun d' h0 => ?_))
    · have g := hpopf_p (d := d) (by omega) (by omega)
      generalize hpPop ltP d = d' at *
      have e : ∀ x : Int, ints acc ++ [AV.int .i64 x] = ints (acc ++ [x]) := fun x => by simp [ints]
      have hl : (ints acc).length = k := by simp [ints, ha]
      simp (config := { maxSteps := 1000000 }) (disch := omega) only [go_sem, ↓reduceIte, Nat.reduceEqDiff, Nat.reduceAdd, Int.reduceToNat, reduceCtorEq, Nat.reduceLeDiff, Nat.reduceSub, Nat.reduceDiv, Nat.reduceMod, Nat.reduceMul, d1193_b0, hrS_p, g, e, ha]
    · have := hq d' h0
      rw [hpAll] at this
      simpa [snds] using this
theorem drain_p {d : Array Ed} (hs : d.size ≤ 1000000) : runP tab 1193 [.ifc 56 (.ref 0 0)] [.row false [.vec 2 (prs d.toList)]] = some (.vec 1 (ints (snds (sorted ltP d.toList))), [.row false [.vec 2 []]]) := by
  have hz : (hpInit ltP d.size (d.size / 2) d).size = d.size := hpInit_size _ _ _
  have hall := hpAll_sorted ordrP d
  have g := hinit_p hs
  refine runP_fn t1193 rfl ?_
  simp (config := { maxSteps := 1000000 }) (disch := omega) only [go_sem, ↓reduceIte, Nat.reduceEqDiff, Nat.reduceAdd, Int.reduceToNat, reduceCtorEq, Nat.reduceLeDiff, Nat.reduceSub, Nat.reduceDiv, Nat.reduceMod, Nat.reduceMul, d1193, g, hlen_p, arr_len, hz]
  refine hdr_loop_p (n := d.size) hs d.size 0 (hpInit ltP d.size (d.size / 2) d) [] hz (by omega) rfl (fun d' h0 => ?_)
  rw [List.nil_append, hall]
  have e0 : prs d'.toList = [] := by
    have : d'.toList = [] := by simpa using h0
    rw [this]; rfl
  simp (config := { maxSteps := 1000000 }) (disch := omega) only [go_sem, ↓reduceIte, Nat.reduceEqDiff, Nat.reduceAdd, Int.reduceToNat, reduceCtorEq, Nat.reduceLeDiff, Nat.reduceSub, Nat.reduceDiv, Nat.reduceMod, Nat.reduceMul, d1193_b0, hrS_p, e0]
end Go.Proofs.Ytjebbkpbaglooaa
