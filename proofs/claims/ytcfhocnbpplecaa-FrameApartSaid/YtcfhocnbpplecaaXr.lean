/- Requests are put: the program, the document. -/
import Derived.Test.YtcfhocnbpplecaaXq
namespace Go.Proofs.Ytcfhocnbpplecaa
set_option linter.unusedSimpArgs false
set_option linter.unusedVariables false
set_option maxHeartbeats 4000000
set_option maxRecDepth 100000
theorem encTs_snoc (l : List Txt) (t : Txt) : encTs (l ++ [t]) = encTs l ++ encT t := by simp [encTs]
theorem encTs_len {l : List Txt} (h : ∀ t ∈ l, wordB t = true) : (encTs l).length ≤ 20 * l.length := by
  induction l with
  | nil => simp [encTs]
  | cons t l ih =>
    have h1 := wordB_len (h t (by simp))
    have h2 := ih (fun y hy => h y (by simp [hy]))
    have h3 := encN_len (n := t.length) (by omega)
    simp only [encTs, encT, List.flatMap_cons, List.length_append, List.length_cons] at h2 ⊢
    omega
def putQA (r : Req) : List AV := if okQ r = true then [.str (encQ r), .int .i64 0] else [.str [], .int .i64 1]
def pqS (r : Req) (p : Txt) (i : Nat) : St := ⟨[(4, .ref 1 0), (5, .str (p ++ encTs (r.words.take i))), (44, .sl 1 (strs r.words)), (45, .int .i64 r.words.length), (46, .int .i64 (i : Int))], [.row false (reqS r), .row false (qryS r)], 0, [(0, 2, [4, 5, 44, 45, 46], [(4, 1)])]⟩
theorem pq_step {r : Req} {p : Txt} (hp : p.length ≤ 100) (hl : r.words.length ≤ 8) (hh : ∀ t ∈ r.words, wordB t = true) {i : Nat} (hi : i < r.words.length) : Ev tab d1631_b0 (pqS r p i) (fun x st => x = .normal ∧ st = pqS r p (i + 1)) := by
  have hb := wordB_len (hh _ (getD_mem (d := []) hi))
  have g := layt_run (t := r.words.getD i []) (by omega)
  have k0 := encT_len (t := r.words.getD i []) (by omega)
  have k1 := encTs_len (l := r.words.take i) (fun x hx => hh x (List.mem_of_mem_take hx))
  rw [List.length_take] at k1
  unfold pqS qryS reqS
  rw [take_snoc [] hi, encTs_snoc]
  simp (config := { maxSteps := 1000000 }) (disch := omega) only [go_sem, ↓reduceIte, Nat.reduceEqDiff, Nat.reduceAdd, Int.reduceToNat, reduceCtorEq, Nat.reduceLeDiff, Nat.reduceSub, Nat.reduceDiv, Nat.reduceMod, Nat.reduceMul, d1631_b0, strs_rdc, g, List.append_assoc]
theorem putQ_run {r : Req} (hw : okW r.words) : runP tab 1631 [.agg (reqS r)] [] = some (.tup (putQA r), []) := by
  refine runP_fn t1631 rfl ?_
  have gm := rqmay_run hw
  unfold putQA
  cases ho : okQ r with
  | false =>
    rw [ho] at gm
    simp only [reqS] at gm ⊢
    simp (config := { maxSteps := 1000000 }) (disch := omega) only [go_sem, ↓reduceIte, Nat.reduceEqDiff, Nat.reduceAdd, Int.reduceToNat, reduceCtorEq, Nat.reduceLeDiff, Nat.reduceSub, Nat.reduceDiv, Nat.reduceMod, Nat.reduceMul, d1631, gm, reduceCtorEq, if_false]
  | true =>
    rw [ho] at gm
    rw [if_pos rfl]
    have hk : ReqOk r := of_decide_eq_true ho
    obtain ⟨c0, hk⟩ := hk
    have hl := hw.1
    simp only [reqS] at gm ⊢
    obtain ⟨g1, _, k1⟩ := two_lay (a := r.id) (b := r.kind) c0 (by rcases hk with h | h | h <;> have := h.1 <;> omega)
    simp only [encQ]
    rcases hk with h | h | h
    · obtain ⟨q1, q2, q3, q4, q5, q6, q7⟩ := h
      obtain ⟨g2, _, k2⟩ := two_lay (a := r.frm) (b := r.to) (by omega) (by omega)
      rw [if_pos q1]
      rcases q1 with q1 | q1
      · simp (config := { maxSteps := 1000000 }) (disch := omega) only [go_sem, ↓reduceIte, Nat.reduceEqDiff, Nat.reduceAdd, Int.reduceToNat, reduceCtorEq, Nat.reduceLeDiff, Nat.reduceSub, Nat.reduceDiv, Nat.reduceMod, Nat.reduceMul, d1631, gm, g1, g2]
      · simp (config := { maxSteps := 1000000 }) (disch := omega) only [go_sem, ↓reduceIte, Nat.reduceEqDiff, Nat.reduceAdd, Int.reduceToNat, reduceCtorEq, Nat.reduceLeDiff, Nat.reduceSub, Nat.reduceDiv, Nat.reduceMod, Nat.reduceMul, d1631, gm, g1, g2]
    · obtain ⟨q1, q2, q3, q4, q5, q6, q7, q8⟩ := h
      obtain ⟨g2, _, k2⟩ := two_lay (a := r.frm) (b := r.words.length) (by omega) (by omega)
      obtain ⟨g3, _, k3⟩ := two_lay (a := r.radius) (b := r.most) (by omega) (by omega)
      rw [if_neg (by omega), if_pos q1]
      simp (config := { maxSteps := 1000000 }) (disch := omega) only [go_sem, ↓reduceIte, Nat.reduceEqDiff, Nat.reduceAdd, Int.reduceToNat, reduceCtorEq, Nat.reduceLeDiff, Nat.reduceSub, Nat.reduceDiv, Nat.reduceMod, Nat.reduceMul, d1631, gm, g1, g2, g3]
      refine Ev_loop0 (pqS r (encI [r.id, r.kind] ++ encI [r.frm, r.words.length])) r.words.length (by simp [pqS, encTs, reqS, qryS]) (fun i hi => pq_step (by rw [List.length_append]; omega) (by omega) q8 hi) ?_
      have k4 := encTs_len q8
      unfold pqS qryS reqS
      rw [List.take_length]
      simp (config := { maxSteps := 1000000 }) (disch := omega) only [go_sem, ↓reduceIte, Nat.reduceEqDiff, Nat.reduceAdd, Int.reduceToNat, reduceCtorEq, Nat.reduceLeDiff, Nat.reduceSub, Nat.reduceDiv, Nat.reduceMod, Nat.reduceMul, d1631_b0, g3, List.append_assoc]
    · obtain ⟨q1, q2, q3, q4, q5, q6, q7⟩ := h
      rw [if_neg (by omega), if_neg (by omega), List.append_nil]
      simp (config := { maxSteps := 1000000 }) (disch := omega) only [go_sem, ↓reduceIte, Nat.reduceEqDiff, Nat.reduceAdd, Int.reduceToNat, reduceCtorEq, Nat.reduceLeDiff, Nat.reduceSub, Nat.reduceDiv, Nat.reduceMod, Nat.reduceMul, d1631, gm, g1]
def rqS (r : Req) (p : Txt) (i : Nat) : St := ⟨[(4, .ref 1 0), (5, .str (p ++ encTs (r.words.take i))), (6, .int .i64 (i : Int))], [.row false (reqS r), .row false (qryS r)], 0, [(0, 2, [4, 5, 6], [(4, 1)])]⟩
theorem rq_step {r : Req} {p : Txt} (hp : p.length ≤ 100) (hl : r.words.length ≤ 8) (hh : ∀ t ∈ r.words, wordB t = true) {i : Nat} (hi : i < r.words.length) : Ev tab d1632_b0 (rqS r p i) (fun x st => x = .normal ∧ st = rqS r p (i + 1)) := by
  have hb := wordB_len (hh _ (getD_mem (d := []) hi))
  have g := rtext_run (t := r.words.getD i []) (by omega)
  have k0 := encT_len (t := r.words.getD i []) (by omega)
  have k1 := encTs_len (l := r.words.take i) (fun x hx => hh x (List.mem_of_mem_take hx))
  rw [List.length_take] at k1
  unfold rqS qryS reqS
  rw [take_snoc [] hi, encTs_snoc]
  simp (config := { maxSteps := 1000000 }) (disch := omega) only [go_sem, ↓reduceIte, Nat.reduceEqDiff, Nat.reduceAdd, Int.reduceToNat, reduceCtorEq, Nat.reduceLeDiff, Nat.reduceSub, Nat.reduceDiv, Nat.reduceMod, Nat.reduceMul, d1632_b0, strs_rdc, g, List.append_assoc]
theorem rputQ_run {r : Req} (hw : okW r.words) : runP tab 1632 [.agg (reqS r)] [] = some (.tup (putQA r), []) := by
  refine runP_fn t1632 rfl ?_
  have gm := rref_q hw
  unfold putQA
  cases ho : okQ r with
  | false =>
    rw [ho] at gm
    simp only [reqS] at gm ⊢
    simp (config := { maxSteps := 1000000 }) (disch := omega) only [go_sem, ↓reduceIte, Nat.reduceEqDiff, Nat.reduceAdd, Int.reduceToNat, reduceCtorEq, Nat.reduceLeDiff, Nat.reduceSub, Nat.reduceDiv, Nat.reduceMod, Nat.reduceMul, d1632, gm, reduceCtorEq, if_false]
  | true =>
    rw [ho] at gm
    rw [if_pos rfl]
    have hk : ReqOk r := of_decide_eq_true ho
    obtain ⟨c0, hk⟩ := hk
    have hl := hw.1
    simp only [reqS] at gm ⊢
    obtain ⟨_, g1, k1⟩ := two_lay (a := r.id) (b := r.kind) c0 (by rcases hk with h | h | h <;> have := h.1 <;> omega)
    simp only [encQ]
    rcases hk with h | h | h
    · obtain ⟨q1, q2, q3, q4, q5, q6, q7⟩ := h
      obtain ⟨_, g2, k2⟩ := two_lay (a := r.frm) (b := r.to) (by omega) (by omega)
      rw [if_pos q1]
      rcases q1 with q1 | q1
      · simp (config := { maxSteps := 1000000 }) (disch := omega) only [go_sem, ↓reduceIte, Nat.reduceEqDiff, Nat.reduceAdd, Int.reduceToNat, reduceCtorEq, Nat.reduceLeDiff, Nat.reduceSub, Nat.reduceDiv, Nat.reduceMod, Nat.reduceMul, d1632, gm, g1, g2]
      · simp (config := { maxSteps := 1000000 }) (disch := omega) only [go_sem, ↓reduceIte, Nat.reduceEqDiff, Nat.reduceAdd, Int.reduceToNat, reduceCtorEq, Nat.reduceLeDiff, Nat.reduceSub, Nat.reduceDiv, Nat.reduceMod, Nat.reduceMul, d1632, gm, g1, g2]
    · obtain ⟨q1, q2, q3, q4, q5, q6, q7, q8⟩ := h
      obtain ⟨_, g2, k2⟩ := two_lay (a := r.frm) (b := r.words.length) (by omega) (by omega)
      obtain ⟨_, g3, k3⟩ := two_lay (a := r.radius) (b := r.most) (by omega) (by omega)
      rw [if_neg (by omega), if_pos q1]
      simp (config := { maxSteps := 1000000 }) (disch := omega) only [go_sem, ↓reduceIte, Nat.reduceEqDiff, Nat.reduceAdd, Int.reduceToNat, reduceCtorEq, Nat.reduceLeDiff, Nat.reduceSub, Nat.reduceDiv, Nat.reduceMod, Nat.reduceMul, d1632, gm, g1, g2, g3]
      refine Ev_loop0 (rqS r (encI [r.id, r.kind] ++ encI [r.frm, r.words.length])) r.words.length (by simp [rqS, encTs, reqS, qryS]) (fun i hi => rq_step (by rw [List.length_append]; omega) (by omega) q8 hi) ?_
      have k4 := encTs_len q8
      unfold rqS qryS reqS
      rw [List.take_length]
      simp (config := { maxSteps := 1000000 }) (disch := omega) only [go_sem, ↓reduceIte, Nat.reduceEqDiff, Nat.reduceAdd, Int.reduceToNat, reduceCtorEq, Nat.reduceLeDiff, Nat.reduceSub, Nat.reduceDiv, Nat.reduceMod, Nat.reduceMul, d1632_b0, g3, List.append_assoc]
    · obtain ⟨q1, q2, q3, q4, q5, q6, q7⟩ := h
      rw [if_neg (by omega), if_neg (by omega), List.append_nil]
      simp (config := { maxSteps := 1000000 }) (disch := omega) only [go_sem, ↓reduceIte, Nat.reduceEqDiff, Nat.reduceAdd, Int.reduceToNat, reduceCtorEq, Nat.reduceLeDiff, Nat.reduceSub, Nat.reduceDiv, Nat.reduceMod, Nat.reduceMul, d1632, gm, g1]
end Go.Proofs.Ytcfhocnbpplecaa
