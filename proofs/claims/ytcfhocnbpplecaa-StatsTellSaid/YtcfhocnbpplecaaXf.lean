import Derived.Test.YtcfhocnbpplecaaXa
import Derived.Test.YtcfhocnbpplecaaYd
namespace Go.Proofs.Ytcfhocnbpplecaa
set_option maxHeartbeats 4000000
set_option maxRecDepth 100000
def letter (b : UInt8) : Bool := decide (97 ≤ b.toNat ∧ b.toNat ≤ 122)
def wordB (s : Txt) : Bool := decide (1 ≤ s.length ∧ s.length ≤ 12) && s.all letter
def Req1 (r : Req) : Prop := (r.kind = 1 ∨ r.kind = 2) ∧ r.qk = r.kind ∧ (0 ≤ r.frm ∧ r.frm < 200) ∧ (0 ≤ r.to ∧ r.to < 200) ∧ r.words.length = 0 ∧ r.radius = 0 ∧ r.most = 0
def Req3 (r : Req) : Prop := r.kind = 3 ∧ r.qk = 3 ∧ (0 ≤ r.frm ∧ r.frm < 200) ∧ r.to = 0 ∧ (0 ≤ r.radius ∧ r.radius ≤ 200) ∧ (1 ≤ r.most ∧ r.most ≤ 100) ∧ (1 ≤ r.words.length ∧ r.words.length ≤ 8) ∧ ∀ w ∈ r.words, wordB w = true
def Req4 (r : Req) : Prop := r.kind = 4 ∧ r.qk = 0 ∧ r.frm = 0 ∧ r.to = 0 ∧ r.words.length = 0 ∧ r.radius = 0 ∧ r.most = 0
def ReqOk (r : Req) : Prop := (0 ≤ r.id ∧ r.id ≤ 2147483647) ∧ (Req1 r ∨ Req3 r ∨ Req4 r)
instance : DecidablePred ReqOk := fun r => by unfold ReqOk Req1 Req3 Req4; infer_instance
end Go.Proofs.Ytcfhocnbpplecaa

namespace Go.Proofs.Ytcfhocnbpplecaa
set_option maxHeartbeats 4000000
set_option maxRecDepth 100000
theorem idmay_run (n : Int) : runP tab 1431 [.int .i64 n] [] = some (.bool (decide (0 ≤ n ∧ n ≤ 2147483647)), []) := by
  refine runP_fn t1431 rfl ?_
  by_cases h1 : 0 ≤ n <;> by_cases h2 : n ≤ 2147483647 <;> simp (disch := omega) only [go_sem, ↓reduceIte, Nat.reduceEqDiff, reduceCtorEq, d1431, h1, h2, and_self, and_true, true_and, and_false, decide_true, decide_false]
theorem rnumq_run (n : Int) : runP tab 1465 [.int .i64 n] [] = some (.bool (decide (0 ≤ n ∧ n ≤ 2147483647)), []) := by
  refine runP_fn t1465 rfl ?_
  by_cases h1 : 0 ≤ n <;> by_cases h2 : n ≤ 2147483647 <;> simp (disch := omega) only [go_sem, ↓reduceIte, Nat.reduceEqDiff, reduceCtorEq, d1465, h1, h2, and_self, and_true, true_and, and_false, decide_true, decide_false]
theorem hit_eq (x y : Hit) : aeqL [.int .i64 x.v, .int .i64 x.d] [.int .i64 y.v, .int .i64 y.d] = some (decide (x = y)) := by
  cases x; cases y
  rename_i a b c d
  by_cases h1 : a = c <;> by_cases h2 : b = d <;> simp [aeqL, aeq, h1, h2]
theorem hts_get {l : List Hit} {i : Nat} (h : i < l.length) : rdc (hts (l.drop i)) (some 2) = some (.agg [.int .i64 (l.getD i default).v, .int .i64 (l.getD i default).d]) := hts_at h
theorem hits_at : ∀ (a b : List Hit), a.length = b.length → ((∀ i, i < a.length → a.getD i default = b.getD i default) ∧ (a == b) = true) ∨ ∃ k, k < a.length ∧ (∀ i, i < k → a.getD i default = b.getD i default) ∧ ¬ (a.getD k default = b.getD k default) ∧ (a == b) = false
  | [], [], _ => .inl ⟨by simp, rfl⟩
  | [], _ :: _, h => by simp at h
  | _ :: _, [], h => by simp at h
  | x :: a, y :: b, h => by
    by_cases hxy : x = y
    · subst hxy
      rcases hits_at a b (by simpa using h) with ⟨h1, h2⟩ | ⟨k, h1, h2, h3, h4⟩
      · refine .inl ⟨fun i hi => ?_, by simpa using h2⟩
        cases i with | zero => rfl | succ i => simpa using h1 i (by simpa using hi)
      · refine .inr ⟨k + 1, by simpa using h1, fun i hi => ?_, by simpa using h3, by simpa using h4⟩
        cases i with | zero => rfl | succ i => simpa using h2 i (by omega)
    · exact .inr ⟨0, by simp, by omega, by simpa using hxy, by simp [hxy]⟩
theorem rsameh_run {a b : List Hit} (ha : a.length ≤ 1000000) (hb : b.length ≤ 1000000) : runP tab 1439 [.sl 2 (hts a), .sl 2 (hts b)] [] = some (.bool (a == b), []) := by
  refine runP_fn t1439 rfl ?_
  by_cases hl : a.length = b.length
  · simp (disch := omega) only [go_sem, ↓reduceIte, Nat.reduceEqDiff, reduceCtorEq, d1439]
    rcases hits_at a b hl with ⟨h1, h2⟩ | ⟨k, h0, h1, h2, h3⟩
    · rw [h2]
      refine Ev_loop0 (fun i => ⟨[(0, .sl 2 (hts a)), (1, .sl 2 (hts b)), (5, .int .i64 (i : Int))], [], 0, [(0, 0, [0, 1, 5], [])]⟩) a.length rfl (fun i hi => ?_) ?_
      · have h := h1 i hi
        have c := hit_eq (a.getD i default) (b.getD i default)
        rw [decide_eq_true h] at c
        simp (disch := omega) only [go_sem, ↓reduceIte, Nat.reduceEqDiff, Nat.reduceAdd, reduceCtorEq, Nat.reduceMul, d1439_b0, hts_get, c, encA, digA]
      · simp (disch := omega) only [go_sem, ↓reduceIte, Nat.reduceEqDiff, reduceCtorEq, d1439_b0]
    · rw [h3]
      refine Ev_loop0 (fun i => ⟨[(0, .sl 2 (hts a)), (1, .sl 2 (hts b)), (5, .int .i64 (i : Int))], [], 0, [(0, 0, [0, 1, 5], [])]⟩) k rfl (fun i hi => ?_) ?_
      · have h := h1 i hi
        have c := hit_eq (a.getD i default) (b.getD i default)
        rw [decide_eq_true h] at c
        simp (disch := omega) only [go_sem, ↓reduceIte, Nat.reduceEqDiff, Nat.reduceAdd, reduceCtorEq, Nat.reduceMul, d1439_b0, hts_get, c, encA, digA]
      · have c := hit_eq (a.getD k default) (b.getD k default)
        rw [decide_eq_false h2] at c
        simp (disch := omega) only [go_sem, ↓reduceIte, Nat.reduceEqDiff, Nat.reduceAdd, reduceCtorEq, Nat.reduceMul, d1439_b0, hts_get, c, encA, digA]
  · have h : (a == b) = false := by rw [← Bool.not_eq_true, beq_iff_eq]; rintro rfl; exact hl rfl
    simp (disch := omega) only [go_sem, ↓reduceIte, Nat.reduceEqDiff, reduceCtorEq, d1439, h]
def ansS (r : Rep) : List AV := [.bool r.found, .int .i64 r.d, .sl 2 (hts r.hits)]
def sameA (a b : Rep) : Bool := (a.found == b.found) && (decide (a.d = b.d) && (a.hits == b.hits))
theorem sameA_run {a b : Rep} (ha : a.hits.length ≤ 1000000) (hb : b.hits.length ≤ 1000000) : runP tab 1428 [.agg (ansS a), .agg (ansS b)] [] = some (.bool (sameA a b), []) := by
  refine runP_fn t1428 rfl ?_
  have g := rsameh_run ha hb
  unfold sameA
  obtain ⟨_, _, f, d, h⟩ := a
  obtain ⟨_, _, f', d', h'⟩ := b
  simp only at g ⊢
  generalize (h == h') = z at g ⊢
  cases e : (f == f')
  · simp (disch := omega) only [go_sem, ↓reduceIte, Nat.reduceEqDiff, Nat.reduceAdd, reduceCtorEq, d1428, ansS, e, Bool.false_and]
  · by_cases hd : d = d'
    · simp (disch := omega) only [go_sem, ↓reduceIte, Nat.reduceEqDiff, Nat.reduceAdd, reduceCtorEq, d1428, ansS, g, e, hd, decide_true, Bool.true_and]
    · simp (disch := omega) only [go_sem, ↓reduceIte, Nat.reduceEqDiff, Nat.reduceAdd, reduceCtorEq, d1428, ansS, e, hd, decide_false, Bool.false_and, Bool.true_and]
theorem sameA_nil_run {a : Rep} (ha : a.hits.length ≤ 1000000) : runP tab 1428 [.agg (ansS a), .agg [.bool false, .int .i64 0, .sl 1 []]] [] = some (.bool (decide (a.found = false ∧ a.d = 0 ∧ a.hits.length = 0)), []) := by
  refine runP_fn t1428 rfl ?_
  have g : ∀ s, runP tab 1439 [.sl 2 (hts a.hits), .sl s []] [] = some (.bool (decide (a.hits.length = 0)), []) := by
    intro s
    refine runP_fn t1439 rfl ?_
    by_cases h : a.hits.length = 0
    · have := List.length_eq_zero_iff.1 h
      rw [this]
      simp (disch := omega) only [go_sem, ↓reduceIte, Nat.reduceEqDiff, reduceCtorEq, d1439, hts_nil]
      refine Ev_loop0 (fun i => ⟨[(0, .sl 2 []), (1, .sl s []), (5, .int .i64 (i : Int))], [], 0, [(0, 0, [0, 1, 5], [])]⟩) 0 rfl (fun i hi => by omega) ?_
      simp (disch := omega) only [go_sem, ↓reduceIte, Nat.reduceEqDiff, reduceCtorEq, d1439_b0]
    · rw [decide_eq_false h]
      simp (disch := omega) only [go_sem, ↓reduceIte, Nat.reduceEqDiff, reduceCtorEq, d1439]
  have g1 := g 1
  obtain ⟨_, _, f, d, h⟩ := a
  simp only at g1 ⊢
  cases f
  · by_cases hd : d = 0
    · simp (disch := omega) only [go_sem, ↓reduceIte, Nat.reduceEqDiff, Nat.reduceAdd, reduceCtorEq, d1428, ansS, g1, hd, true_and, show (false == false) = true from rfl]
    · simp (disch := omega) only [go_sem, ↓reduceIte, Nat.reduceEqDiff, Nat.reduceAdd, reduceCtorEq, d1428, ansS, hd, decide_false, true_and, false_and, show (false == false) = true from rfl]
  · simp (disch := omega) only [go_sem, ↓reduceIte, Nat.reduceEqDiff, Nat.reduceAdd, reduceCtorEq, d1428, ansS, decide_false, false_and, reduceCtorEq, show (true == false) = false from rfl]
theorem samerep_run {a b : Rep} (ha : a.hits.length ≤ 1000000) (hb : b.hits.length ≤ 1000000) : runP tab 1415 [.agg (repS a), .agg (repS b)] [] = some (.bool (a == b), []) := by
  have e : (a == b) = (decide (a.id = b.id) && (decide (a.code = b.code) && sameA a b)) := by
    rw [Bool.eq_iff_iff]
    cases a; cases b
    simp only [sameA, Bool.and_eq_true, decide_eq_true_eq, beq_iff_eq, Rep.mk.injEq]
  rw [e]
  refine runP_fn t1415 rfl ?_
  have g := sameA_run ha hb
  simp only [ansS] at g
  generalize sameA a b = z at g ⊢
  by_cases h1 : a.id = b.id
  · by_cases h2 : a.code = b.code
    · simp (disch := omega) only [go_sem, ↓reduceIte, Nat.reduceEqDiff, Nat.reduceAdd, reduceCtorEq, d1415, repS, g, h1, h2, Bool.true_and, decide_true]
    · simp (disch := omega) only [go_sem, ↓reduceIte, Nat.reduceEqDiff, Nat.reduceAdd, reduceCtorEq, d1415, repS, h1, h2, Bool.false_and, Bool.true_and, decide_true, decide_false]
  · simp (disch := omega) only [go_sem, ↓reduceIte, Nat.reduceEqDiff, Nat.reduceAdd, reduceCtorEq, d1415, repS, h1, Bool.false_and, decide_false]
end Go.Proofs.Ytcfhocnbpplecaa

namespace Go.Proofs.Ytcfhocnbpplecaa
set_option maxHeartbeats 4000000
set_option maxRecDepth 100000
theorem hit_ix (l : List Hit) : ((∀ h ∈ l, okH h) ∧ ∀ i, i < l.length → okH (l.getD i default)) ∨ ∃ m, m < l.length ∧ (∀ i, i < m → okH (l.getD i default)) ∧ ¬ okH (l.getD m default) ∧ ¬ ∀ h ∈ l, okH h := by
  rcases first_ix (fun i => okH (l.getD i default)) l.length with h | ⟨m, h1, h2, h3⟩
  · refine .inl ⟨fun x hx => ?_, h⟩
    obtain ⟨i, hi, rfl⟩ := List.getElem_of_mem hx
    have := h i hi
    rwa [List.getD_eq_getElem?_getD, List.getElem?_eq_getElem hi] at this
  · refine .inr ⟨m, h1, h2, h3, fun h => h3 (h _ ?_)⟩
    rw [List.getD_eq_getElem?_getD, List.getElem?_eq_getElem h1]
    exact List.getElem_mem _
def rmS (l : List Hit) (a c d : Int) (f : Bool) (i : Nat) : St := ⟨[(73, .sl 2 (hts l)), (74, .int .i64 l.length), (75, .int .i64 (i : Int))], [.row false [.int .i64 a, .int .i64 c, .bool f, .int .i64 d, .sl 2 (hts l)], .row false [.bool f, .int .i64 d, .sl 2 (hts l)]], 0, [(0, 2, [73, 74, 75], [])]⟩
theorem rm_step {l : List Hit} (hl : l.length ≤ 1000000) {a c d : Int} {f : Bool} {i : Nat} (hi : i < l.length) (h : okH (l.getD i default)) : Ev tab d1420_b0 (rmS l a c d f i) (fun x st => x = .normal ∧ st = rmS l a c d f (i + 1)) := by
  obtain ⟨h1, h2, h3, h4⟩ := h
  have e := hts_get hi
  generalize l.getD i default = x at *
  unfold rmS
  simp (disch := omega) only [go_sem, ↓reduceIte, Nat.reduceEqDiff, Nat.reduceAdd, Nat.reduceLeDiff, d1420_b0, e]
theorem rmay_run {r : Rep} (hl : r.hits.length ≤ 1000000) : runP tab 1420 [.agg (repS r)] [] = some (.bool (okR r), []) := by
  obtain ⟨id, code, found, d, hits⟩ := r
  simp only at hl
  refine runP_fn t1420 rfl ?_
  have gi := idmay_run id
  by_cases c0 : 0 ≤ id ∧ id ≤ 2147483647
  case neg =>
    rw [decide_eq_false c0] at gi
    rw [okR_no (r := ⟨id, code, found, d, hits⟩) (fun h => c0 h.1)]
    simp (disch := omega) only [go_sem, ↓reduceIte, Nat.reduceEqDiff, Nat.reduceAdd, Nat.reduceLeDiff, d1420, repS, gi]
  rw [decide_eq_true c0] at gi
  by_cases c1 : 0 ≤ code
  case neg =>
    rw [okR_no (r := ⟨id, code, found, d, hits⟩) (fun h => c1 h.2.1.1)]
    simp (disch := omega) only [go_sem, ↓reduceIte, Nat.reduceEqDiff, Nat.reduceAdd, Nat.reduceLeDiff, d1420, repS, gi]
  by_cases c2 : code ≤ 1000
  case neg =>
    rw [okR_no (r := ⟨id, code, found, d, hits⟩) (fun h => c2 h.2.1.2)]
    simp (disch := omega) only [go_sem, ↓reduceIte, Nat.reduceEqDiff, Nat.reduceAdd, Nat.reduceLeDiff, d1420, repS, gi]
  by_cases c3 : 0 ≤ d
  case neg =>
    rw [okR_no (r := ⟨id, code, found, d, hits⟩) (fun h => c3 h.2.2.1.1)]
    simp (disch := omega) only [go_sem, ↓reduceIte, Nat.reduceEqDiff, Nat.reduceAdd, Nat.reduceLeDiff, d1420, repS, gi]
  by_cases c4 : d ≤ 400
  case neg =>
    rw [okR_no (r := ⟨id, code, found, d, hits⟩) (fun h => c4 h.2.2.1.2)]
    simp (disch := omega) only [go_sem, ↓reduceIte, Nat.reduceEqDiff, Nat.reduceAdd, Nat.reduceLeDiff, d1420, repS, gi]
  by_cases c5 : hits.length ≤ 100
  case neg =>
    rw [okR_no (r := ⟨id, code, found, d, hits⟩) (fun h => c5 h.2.2.2.1)]
    simp (disch := omega) only [go_sem, ↓reduceIte, Nat.reduceEqDiff, Nat.reduceAdd, Nat.reduceLeDiff, d1420, repS, gi]
  cases found
  · by_cases c6 : d = 0
    case neg =>
      rw [okR_no (r := ⟨id, code, false, d, hits⟩) (fun h => by have := h.2.2.2.2.2.1; simp only [reduceCtorEq, false_or] at this; exact c6 this.1)]
      by_cases c7 : code = 0 <;> simp (disch := omega) only [go_sem, ↓reduceIte, Nat.reduceEqDiff, Nat.reduceAdd, Nat.reduceLeDiff, d1420, repS, gi]
    by_cases c8 : hits.length = 0
    case neg =>
      rw [okR_no (r := ⟨id, code, false, d, hits⟩) (fun h => by have := h.2.2.2.2.2.1; simp only [reduceCtorEq, false_or] at this; exact c8 this.2)]
      by_cases c7 : code = 0 <;> simp (disch := omega) only [go_sem, ↓reduceIte, Nat.reduceEqDiff, Nat.reduceAdd, Nat.reduceLeDiff, d1420, repS, gi]
    have c9 := List.length_eq_zero_iff.1 c8
    subst c9; subst c6
    rw [okR_yes (r := ⟨id, code, false, 0, []⟩) ⟨c0, ⟨c1, c2⟩, by simp, by simp, .inr rfl, .inr ⟨rfl, rfl⟩, .inl rfl, by simp⟩]
    by_cases c7 : code = 0
    · simp (disch := omega) only [go_sem, ↓reduceIte, Nat.reduceEqDiff, Nat.reduceAdd, Nat.reduceLeDiff, d1420, repS, gi, hts_nil]
      refine Ev_loop0 (rmS [] _ _ _ _) 0 rfl (fun i hi => by omega) ?_
      simp (disch := omega) only [go_sem, ↓reduceIte, Nat.reduceEqDiff, reduceCtorEq, d1420_b0, rmS]
    · simp (disch := omega) only [go_sem, ↓reduceIte, Nat.reduceEqDiff, Nat.reduceAdd, Nat.reduceLeDiff, d1420, repS, gi, hts_nil]
      refine Ev_loop0 (rmS [] _ _ _ _) 0 rfl (fun i hi => by omega) ?_
      simp (disch := omega) only [go_sem, ↓reduceIte, Nat.reduceEqDiff, reduceCtorEq, d1420_b0, rmS]
  · by_cases c7 : code = 0
    case neg =>
      rw [okR_no (r := ⟨id, code, true, d, hits⟩) (fun h => by have := h.2.2.2.2.1; simp only [reduceCtorEq, or_false] at this; exact c7 this)]
      simp (disch := omega) only [go_sem, ↓reduceIte, Nat.reduceEqDiff, Nat.reduceAdd, Nat.reduceLeDiff, d1420, repS, gi]
    subst c7
    by_cases c6 : d = 0
    · subst c6
      simp (disch := omega) only [go_sem, ↓reduceIte, Nat.reduceEqDiff, Nat.reduceAdd, Nat.reduceLeDiff, d1420, repS, gi]
      rcases hit_ix hits with ⟨h1, h2⟩ | ⟨m, h1, h2, h3, h4⟩
      · rw [okR_yes (r := ⟨id, 0, true, 0, hits⟩) ⟨c0, ⟨c1, c2⟩, by simp, c5, .inl rfl, .inl rfl, .inl rfl, h1⟩]
        refine Ev_loop0 (rmS hits _ _ _ _) hits.length rfl (fun i hi => rm_step hl hi (h2 i hi)) ?_
        simp (disch := omega) only [go_sem, ↓reduceIte, Nat.reduceEqDiff, reduceCtorEq, d1420_b0, rmS]
      · rw [okR_no (r := ⟨id, 0, true, 0, hits⟩) (fun h => h4 h.2.2.2.2.2.2.2)]
        refine Ev_loop0 (rmS hits _ _ _ _) m rfl (fun i hi => rm_step hl (by omega) (h2 i hi)) ?_
        have e := hts_get h1
        unfold okH at h3
        generalize hits.getD m default = x at *
        unfold rmS
        by_cases k1 : 0 ≤ x.v
        · by_cases k2 : x.v < 200
          · by_cases k3 : 0 ≤ x.d
            · have k4 : ¬ x.d ≤ 200 := fun k4 => h3 ⟨k1, k2, k3, k4⟩
              simp (disch := omega) only [go_sem, ↓reduceIte, Nat.reduceEqDiff, Nat.reduceAdd, reduceCtorEq, d1420_b0, e]
            · simp (disch := omega) only [go_sem, ↓reduceIte, Nat.reduceEqDiff, Nat.reduceAdd, reduceCtorEq, d1420_b0, e]
          · simp (disch := omega) only [go_sem, ↓reduceIte, Nat.reduceEqDiff, Nat.reduceAdd, reduceCtorEq, d1420_b0, e]
        · simp (disch := omega) only [go_sem, ↓reduceIte, Nat.reduceEqDiff, Nat.reduceAdd, reduceCtorEq, d1420_b0, e]
    · by_cases c8 : hits.length = 0
      · have c9 := List.length_eq_zero_iff.1 c8
        subst c9
        rw [okR_yes (r := ⟨id, 0, true, d, []⟩) ⟨c0, ⟨c1, c2⟩, ⟨c3, c4⟩, by simp, .inl rfl, .inl rfl, .inr rfl, by simp⟩]
        simp (disch := omega) only [go_sem, ↓reduceIte, Nat.reduceEqDiff, Nat.reduceAdd, Nat.reduceLeDiff, d1420, repS, gi, hts_nil]
        refine Ev_loop0 (rmS [] _ _ _ _) 0 rfl (fun i hi => by omega) ?_
        simp (disch := omega) only [go_sem, ↓reduceIte, Nat.reduceEqDiff, reduceCtorEq, d1420_b0, rmS]
      · rw [okR_no (r := ⟨id, 0, true, d, hits⟩) (fun h => by have := h.2.2.2.2.2.2.1; simp only at this; omega)]
        simp (disch := omega) only [go_sem, ↓reduceIte, Nat.reduceEqDiff, Nat.reduceAdd, Nat.reduceLeDiff, d1420, repS, gi]
end Go.Proofs.Ytcfhocnbpplecaa

namespace Go.Proofs.Ytcfhocnbpplecaa
set_option maxHeartbeats 4000000
set_option maxRecDepth 100000
def rrS (l : List Hit) (a c d : Int) (f : Bool) (i : Nat) : St := ⟨[(3, .ref 1 0), (4, .int .i64 (i : Int))], [.row false [.int .i64 a, .int .i64 c, .bool f, .int .i64 d, .sl 2 (hts l)], .row false [.bool f, .int .i64 d, .sl 2 (hts l)]], 0, [(0, 2, [3, 4], [(3, 1)])]⟩
theorem rr_step {l : List Hit} (hl : l.length ≤ 1000000) {a c d : Int} {f : Bool} {i : Nat} (hi : i < l.length) (h : okH (l.getD i default)) : Ev tab d1456_b0 (rrS l a c d f i) (fun x st => x = .normal ∧ st = rrS l a c d f (i + 1)) := by
  obtain ⟨h1, h2, h3, h4⟩ := h
  have e := hts_get hi
  generalize l.getD i default = x at *
  unfold rrS
  simp (disch := omega) only [go_sem, ↓reduceIte, Nat.reduceEqDiff, Nat.reduceAdd, Nat.reduceLeDiff, d1456_b0, e]
theorem rref_run {r : Rep} (hl : r.hits.length ≤ 1000000) : runP tab 1456 [.agg (repS r)] [] = some (.bool (okR r), []) := by
  obtain ⟨id, code, found, d, hits⟩ := r
  simp only at hl
  refine runP_fn t1456 rfl ?_
  have gi := rnumq_run id
  have ga := sameA_nil_run (a := ⟨id, code, found, d, hits⟩) hl
  simp only [ansS] at ga
  by_cases c0 : 0 ≤ id ∧ id ≤ 2147483647
  case neg =>
    rw [decide_eq_false c0] at gi
    rw [okR_no (r := ⟨id, code, found, d, hits⟩) (fun h => c0 h.1)]
    simp (disch := omega) only [go_sem, ↓reduceIte, Nat.reduceEqDiff, Nat.reduceAdd, Nat.reduceLeDiff, d1456, repS, gi]
  rw [decide_eq_true c0] at gi
  by_cases c1 : 0 ≤ code
  case neg =>
    rw [okR_no (r := ⟨id, code, found, d, hits⟩) (fun h => c1 h.2.1.1)]
    simp (disch := omega) only [go_sem, ↓reduceIte, Nat.reduceEqDiff, Nat.reduceAdd, Nat.reduceLeDiff, d1456, repS, gi]
  by_cases c2 : code ≤ 1000
  case neg =>
    rw [okR_no (r := ⟨id, code, found, d, hits⟩) (fun h => c2 h.2.1.2)]
    simp (disch := omega) only [go_sem, ↓reduceIte, Nat.reduceEqDiff, Nat.reduceAdd, Nat.reduceLeDiff, d1456, repS, gi]
  by_cases c3 : 0 ≤ d
  case neg =>
    rw [okR_no (r := ⟨id, code, found, d, hits⟩) (fun h => c3 h.2.2.1.1)]
    simp (disch := omega) only [go_sem, ↓reduceIte, Nat.reduceEqDiff, Nat.reduceAdd, Nat.reduceLeDiff, d1456, repS, gi]
  by_cases c4 : d ≤ 400
  case neg =>
    rw [okR_no (r := ⟨id, code, found, d, hits⟩) (fun h => c4 h.2.2.1.2)]
    simp (disch := omega) only [go_sem, ↓reduceIte, Nat.reduceEqDiff, Nat.reduceAdd, Nat.reduceLeDiff, d1456, repS, gi]
  by_cases c5 : hits.length ≤ 100
  case neg =>
    rw [okR_no (r := ⟨id, code, found, d, hits⟩) (fun h => c5 h.2.2.2.1)]
    simp (disch := omega) only [go_sem, ↓reduceIte, Nat.reduceEqDiff, Nat.reduceAdd, Nat.reduceLeDiff, d1456, repS, gi]
  cases found
  · by_cases c6 : d = 0
    case neg =>
      rw [okR_no (r := ⟨id, code, false, d, hits⟩) (fun h => by have := h.2.2.2.2.2.1; simp only [reduceCtorEq, false_or] at this; exact c6 this.1)]
      rw [decide_eq_false (fun h => c6 h.2.1)] at ga
      by_cases c7 : code = 0 <;> simp (disch := omega) only [go_sem, ↓reduceIte, Nat.reduceEqDiff, Nat.reduceAdd, Nat.reduceLeDiff, d1456, repS, gi, ga]
    by_cases c8 : hits.length = 0
    case neg =>
      rw [okR_no (r := ⟨id, code, false, d, hits⟩) (fun h => by have := h.2.2.2.2.2.1; simp only [reduceCtorEq, false_or] at this; exact c8 this.2)]
      rw [decide_eq_false (fun h => c8 h.2.2)] at ga
      by_cases c7 : code = 0 <;> simp (disch := omega) only [go_sem, ↓reduceIte, Nat.reduceEqDiff, Nat.reduceAdd, Nat.reduceLeDiff, d1456, repS, gi, ga]
    have c9 := List.length_eq_zero_iff.1 c8
    subst c9; subst c6
    rw [okR_yes (r := ⟨id, code, false, 0, []⟩) ⟨c0, ⟨c1, c2⟩, by simp, by simp, .inr rfl, .inr ⟨rfl, rfl⟩, .inl rfl, by simp⟩]
    rw [decide_eq_true ⟨rfl, rfl, rfl⟩, hts_nil] at ga
    by_cases c7 : code = 0
    · simp (disch := omega) only [go_sem, ↓reduceIte, Nat.reduceEqDiff, Nat.reduceAdd, Nat.reduceLeDiff, d1456, repS, gi, hts_nil]
      refine Ev_loop0 (rrS [] _ _ _ _) 0 rfl (fun i hi => by omega) ?_
      simp (disch := omega) only [go_sem, ↓reduceIte, Nat.reduceEqDiff, Nat.reduceAdd, reduceCtorEq, d1456_b0, rrS]
    · simp (disch := omega) only [go_sem, ↓reduceIte, Nat.reduceEqDiff, Nat.reduceAdd, Nat.reduceLeDiff, d1456, repS, gi, ga, hts_nil]
      refine Ev_loop0 (rrS [] _ _ _ _) 0 rfl (fun i hi => by omega) ?_
      simp (disch := omega) only [go_sem, ↓reduceIte, Nat.reduceEqDiff, Nat.reduceAdd, reduceCtorEq, d1456_b0, rrS]
  · by_cases c7 : code = 0
    case neg =>
      rw [okR_no (r := ⟨id, code, true, d, hits⟩) (fun h => by have := h.2.2.2.2.1; simp only [reduceCtorEq, or_false] at this; exact c7 this)]
      rw [decide_eq_false (fun h => by cases h.1)] at ga
      simp (disch := omega) only [go_sem, ↓reduceIte, Nat.reduceEqDiff, Nat.reduceAdd, Nat.reduceLeDiff, d1456, repS, gi, ga]
    subst c7
    clear ga
    by_cases c6 : d = 0
    · subst c6
      by_cases c8 : hits.length = 0
      · have c9 := List.length_eq_zero_iff.1 c8
        subst c9
        rw [okR_yes (r := ⟨id, 0, true, 0, []⟩) ⟨c0, ⟨c1, c2⟩, by simp, by simp, .inl rfl, .inl rfl, .inl rfl, by simp⟩]
        simp (disch := omega) only [go_sem, ↓reduceIte, Nat.reduceEqDiff, Nat.reduceAdd, Nat.reduceLeDiff, d1456, repS, gi, hts_nil]
        refine Ev_loop0 (rrS [] _ _ _ _) 0 rfl (fun i hi => by omega) ?_
        simp (disch := omega) only [go_sem, ↓reduceIte, Nat.reduceEqDiff, Nat.reduceAdd, reduceCtorEq, d1456_b0, rrS]
      · simp (disch := omega) only [go_sem, ↓reduceIte, Nat.reduceEqDiff, Nat.reduceAdd, Nat.reduceLeDiff, d1456, repS, gi]
        rcases hit_ix hits with ⟨h1, h2⟩ | ⟨m, h1, h2, h3, h4⟩
        · rw [okR_yes (r := ⟨id, 0, true, 0, hits⟩) ⟨c0, ⟨c1, c2⟩, by simp, c5, .inl rfl, .inl rfl, .inl rfl, h1⟩]
          refine Ev_loop0 (rrS hits _ _ _ _) hits.length rfl (fun i hi => rr_step hl hi (h2 i hi)) ?_
          simp (disch := omega) only [go_sem, ↓reduceIte, Nat.reduceEqDiff, Nat.reduceAdd, reduceCtorEq, d1456_b0, rrS]
        · rw [okR_no (r := ⟨id, 0, true, 0, hits⟩) (fun h => h4 h.2.2.2.2.2.2.2)]
          refine Ev_loop0 (rrS hits _ _ _ _) m rfl (fun i hi => rr_step hl (by omega) (h2 i hi)) ?_
          have e := hts_get h1
          unfold okH at h3
          generalize hits.getD m default = x at *
          unfold rrS
          by_cases k1 : 0 ≤ x.v
          · by_cases k2 : x.v < 200
            · by_cases k3 : 0 ≤ x.d
              · have k4 : ¬ x.d ≤ 200 := fun k4 => h3 ⟨k1, k2, k3, k4⟩
                simp (disch := omega) only [go_sem, ↓reduceIte, Nat.reduceEqDiff, Nat.reduceAdd, reduceCtorEq, d1456_b0, e]
              · simp (disch := omega) only [go_sem, ↓reduceIte, Nat.reduceEqDiff, Nat.reduceAdd, reduceCtorEq, d1456_b0, e]
            · simp (disch := omega) only [go_sem, ↓reduceIte, Nat.reduceEqDiff, Nat.reduceAdd, reduceCtorEq, d1456_b0, e]
          · simp (disch := omega) only [go_sem, ↓reduceIte, Nat.reduceEqDiff, Nat.reduceAdd, reduceCtorEq, d1456_b0, e]
    · by_cases c8 : hits.length = 0
      · have c9 := List.length_eq_zero_iff.1 c8
        subst c9
        rw [okR_yes (r := ⟨id, 0, true, d, []⟩) ⟨c0, ⟨c1, c2⟩, ⟨c3, c4⟩, by simp, .inl rfl, .inl rfl, .inr rfl, by simp⟩]
        simp (disch := omega) only [go_sem, ↓reduceIte, Nat.reduceEqDiff, Nat.reduceAdd, Nat.reduceLeDiff, d1456, repS, gi, hts_nil]
        refine Ev_loop0 (rrS [] _ _ _ _) 0 rfl (fun i hi => by omega) ?_
        simp (disch := omega) only [go_sem, ↓reduceIte, Nat.reduceEqDiff, Nat.reduceAdd, reduceCtorEq, d1456_b0, rrS]
      · rw [okR_no (r := ⟨id, 0, true, d, hits⟩) (fun h => by have := h.2.2.2.2.2.2.1; simp only at this; omega)]
        simp (disch := omega) only [go_sem, ↓reduceIte, Nat.reduceEqDiff, Nat.reduceAdd, Nat.reduceLeDiff, d1456, repS, gi]
end Go.Proofs.Ytcfhocnbpplecaa
