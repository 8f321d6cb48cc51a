/-
  One operation after the other: a region in the order of its text.
-/
import Derived.Test.YtmeakgiojhoofaaKo
import Derived.OrdersIn
import Derived.RangeFuncIn
import Derived.RangeFuncLeaves
import Derived.RangeFuncCalls
namespace Go.Proofs.Ytmeakgiojhoofaa
open Go.RowKit

/-- Frames of whatever kind. -/
def FF (ro : Option Nat) : Fence := { Fence.wide with round := ro }

theorem callsFF {ro : Option Nat} {n : Nat} {P : Program} {f : FuncId} {args : Array Value} {w : World} {R : Ending → World → Prop} (h : CallsIn Fence.wide 0 P f args w R) : CallsIn (FF ro) n P f args w R :=
  ⟨trivial, fun cs _ => h.2 cs (room_wide _)⟩

/-- What a call comes to: which function, of what. -/
def SO.callee (ev : SX → AV) : SO → Option (Md × Nat × List AV)
  | .call md k as => some (md, k, as.map ev)
  | .callf md x as => match ev x with
    | .clo k fs cs => some (md, k, fs ++ as.map ev ++ cs)
    | _ => none
  | _ => none

/-- What a round of a loop comes to, where it is asked for. -/
def RoundOk (P : Program) (fid : FuncId → Option Nat) (id : Nat) (vs : List AV) (hp : List Blk) (v : AV) (hp' : List Blk) : Prop :=
  ∀ (fr : Nat → Prop) w0 m w (args : Array Value) e g, m.P = P → m.cd = fid → HInv fr w0 m hp w [] → CL m vs (fun i => args[i]?) → args.size = vs.length → m.bl[id]? = some e → e.b = some g →
    ∃ f tmps asg body, (Instr.yield g args).run P w = .ok (.round g f tmps asg body) w ∧
      RoundIn Fence.wide 0 P g f tmps asg body w fun e w' => ∃ u m', e = .returned u ∧ Ext fr m m' ∧ HInv fr w0 m' hp' w' [] ∧ C m' v u

inductive Step (P : Program) (fid : FuncId → Option Nat) (d : Bool) (o : SOp) (st : St) : AV → List Blk → Prop
  | skip (h : wanted st.env o.guard = some false) : Step P fid d o st (.tup []) st.hp
  | op {r} (h : wanted st.env o.guard = some true) (ha : astep st.hp st.ev o.op = some r) : Step P fid d o st r.1 r.2
  | call {md k vs v hp'} (h : wanted st.env o.guard = some true) (ho : o.op.callee st.ev = some (md, k, vs)) (hc : CStep P fid d k vs st.hp md v hp') : Step P fid d o st v hp'
  | round {x as id v hp'} (h : wanted st.env o.guard = some true) (ho : o.op = .callf .all x as) (hx : st.ev x = .yld id) (hr : RoundOk P fid id (as.map st.ev) st.hp v hp') : Step P fid d o st v hp'

inductive Trace (P : Program) (fid : FuncId → Option Nat) (d : Bool) : List SOp → St → St → Prop
  | nil {st} : Trace P fid d [] st st
  | cons {o l st v hp' st'} (h : Step P fid d o st v hp') (t : Trace P fid d l (st.put o.dst v hp') st') : Trace P fid d (o :: l) st st'

theorem csop_ok {P : Program} {fid : FuncId → Option Nat} {nt : Nat} {ops : Array Oper} {o : Oper} {so : SOp} (h : csop P fid nt ops o = some so.base) :
    cop P fid o.op = some so.op.base ∧ so.dst = o.dst ∧ (∀ d, o.dst = some d → d < nt) ∧ ((o.guard = none ∧ so.guard = none) ∨ ∃ j b t, o.guard = some (j, b) ∧ (ops[j]?).bind (·.dst) = some t ∧ so.guard = some (t, b)) := by
  simp only [csop, Option.bind_eq_some_iff, Option.map_eq_some_iff, SOp.base, SOp.mk.injEq] at h
  obtain ⟨op, h1, d, h2, g, h3, e1, e2, e3⟩ := h
  subst e1; subst e2; subst e3
  refine ⟨h1, ?_, ?_, ?_⟩
  · split at h2
    · rename_i hd; injection h2 with h2; rw [← h2]; exact hd.symm
    · rename_i d' hd
      split at h2
      · injection h2 with h2; rw [← h2]; exact hd.symm
      · cases h2
  · intro d' hd'
    rw [hd'] at h2
    simp only at h2
    split at h2
    · assumption
    · cases h2
  · split at h3
    · rename_i hg; injection h3 with h3; exact .inl ⟨hg, h3.symm⟩
    · rename_i j b hg
      simp only [Option.map_eq_some_iff] at h3
      obtain ⟨t, ht, h3⟩ := h3
      exact .inr ⟨j, b, t, hg, ht, h3.symm⟩

theorem cop_call {P : Program} {fid : FuncId → Option Nat} {op : Op} {k : Nat} {as : List SX} (h : cop P fid op = some (.call .plain k as)) :
    ∃ f args ats, op = .call { callee := .value (.func f), args, argTypes := ats } ∧ fid f = some k ∧ opds fid args.toList = some as := by
  cases op with
  | call c =>
    simp only [cop] at h
    obtain ⟨callee, args, ats⟩ := c
    unfold copCall at h
    split at h
    case h_7 f hcl =>
      simp only at hcl; subst hcl
      simp only [Option.bind_eq_some_iff, Option.map_eq_some_iff, SO.call.injEq] at h
      obtain ⟨k', hk', as', has', _, rfl, rfl⟩ := h
      exact ⟨f, args, ats, rfl, hk', has'⟩
    all_goals exfalso
    all_goals (repeat' (split at h))
    all_goals (try (simp [Option.bind_eq_some_iff, Option.map_eq_some_iff] at h; done))
    all_goals (try simp only [Option.bind_eq_some_iff, Option.map_eq_some_iff] at h)
    all_goals (repeat (obtain ⟨_, _, h⟩ := h))
    all_goals (repeat' (split at h))
    all_goals (try (simp [Option.bind_eq_some_iff, Option.map_eq_some_iff] at h; done))
    all_goals (trace_state; fail)
  | _ =>
    exfalso
    simp only [cop, reduceCtorEq] at h
    all_goals (repeat' (split at h))
    all_goals (try (simp [Option.bind_eq_some_iff, Option.map_eq_some_iff] at h; done))
    all_goals (try simp only [Option.bind_eq_some_iff, Option.map_eq_some_iff] at h)
    all_goals (repeat (obtain ⟨_, _, h⟩ := h))
    all_goals (repeat' (split at h))
    all_goals (try (simp [Option.bind_eq_some_iff, Option.map_eq_some_iff] at h; done))
    all_goals (first | contradiction | (simp_all; done))

theorem cop_callf {P : Program} {fid : FuncId → Option Nat} {op : Op} {x : SX} {as : List SX} (h : cop P fid op = some (.callf .plain x as)) :
    ∃ t args ats, op = .call { callee := .value (.tmp t), args, argTypes := ats } ∧ x = .tmp t ∧ opds fid args.toList = some as := by
  cases op with
  | call c =>
    simp only [cop] at h
    obtain ⟨callee, args, ats⟩ := c
    unfold copCall at h
    split at h
    case h_8 t hcl =>
      simp only at hcl; subst hcl
      simp only [Option.map_eq_some_iff, SO.callf.injEq] at h
      obtain ⟨as', has', _, rfl, rfl⟩ := h
      exact ⟨t, args, ats, rfl, rfl, has'⟩
    all_goals exfalso
    all_goals (repeat' (split at h))
    all_goals (try (simp [Option.bind_eq_some_iff, Option.map_eq_some_iff] at h; done))
    all_goals (try simp only [Option.bind_eq_some_iff, Option.map_eq_some_iff] at h)
    all_goals (repeat (obtain ⟨_, _, h⟩ := h))
    all_goals (repeat' (split at h))
    all_goals (try (simp [Option.bind_eq_some_iff, Option.map_eq_some_iff] at h; done))
    all_goals (trace_state; fail)
  | _ =>
    exfalso
    simp only [cop, reduceCtorEq] at h
    all_goals (repeat' (split at h))
    all_goals (try (simp [Option.bind_eq_some_iff, Option.map_eq_some_iff] at h; done))
    all_goals (try simp only [Option.bind_eq_some_iff, Option.map_eq_some_iff] at h)
    all_goals (repeat (obtain ⟨_, _, h⟩ := h))
    all_goals (repeat' (split at h))
    all_goals (try (simp [Option.bind_eq_some_iff, Option.map_eq_some_iff] at h; done))
    all_goals (first | contradiction | (simp_all; done))

section
variable {P : Program} {fid : FuncId → Option Nat} {fr0 fr : Nat → Prop} {w0 w : World} {nt : Nat} {m : Mem} {st st' : St} {a : Act} {ops : Array Oper} {Q : Exit → Act → World → Prop} {ro : Option Nat} {n : Nat}

theorem wanted_ok {o : Oper} {so : SOp} {b : Bool} (hg : (o.guard = none ∧ so.guard = none) ∨ ∃ j b t, o.guard = some (j, b) ∧ (ops[j]?).bind (·.dst) = some t ∧ so.guard = some (t, b)) (E : EnvOk m st.env a.tmps) (h : wanted st.env so.guard = some b) :
    Region.wanted o (yielded ops a.tmps) = b := by
  rcases hg with ⟨h1, h2⟩ | ⟨j, b', t, h1, h2, h3⟩
  · rw [h2] at h
    simp only [wanted] at h
    injection h with h
    simp [Region.wanted, h1, h]
  · rw [h3] at h
    simp only [wanted] at h
    have hE := E t
    simp only [Region.wanted, h1, yielded, h2, Option.bind_some]
    split at h
    · rename_i c hc
      rw [hc] at hE
      simp only [C] at hE
      injection h with h
      have : a.tmps[t]? = some (.bool c) := by
        rw [Array.getD_eq_getD_getElem?] at hE
        cases hq : a.tmps[t]? with
        | none => rw [hq] at hE; simp [undef] at hE
        | some x => rw [hq] at hE; simp at hE; rw [hE]
      rw [this]
      simp only
      rw [← h]
      cases c <;> cases b' <;> rfl
    · rename_i hc
      rw [hc] at hE
      simp only [C] at hE
      obtain ⟨vs, hv, _⟩ := hE
      injection h with h
      subst h
      rw [Array.getD_eq_getD_getElem?] at hv
      cases hq : a.tmps[t]? with
      | none => simp
      | some x => rw [hq] at hv; simp at hv; rw [hv]; simp
    · cases h

theorem exec_call (w : World) {o : Oper} {f : FuncId} {args : Array Operand} {ats : Array TypeId} (hop : o.op = .call { callee := .value (.func f), args, argTypes := ats }) (hf : FnThere P f) :
    (execOp a.eval o).run P w = .ok (.enter f (args.map a.eval)) w := by
  obtain ⟨fn, h1, h2, h3⟩ := hf
  have hn : ¬ fn.name = "runtime.NumGoroutine" := by simpa using h3
  have hb : ¬ fn.body = none := by intro h; rw [h] at h2; cases h2
  simp [execOp, hop, resolve, Act.eval, Deferred.ofValue, invoke, callFunc, h1, hn, hb]

theorem exec_clo (w : World) {o : Oper} {t : Tmp} {f : FuncId} {fs cs : Array Value} {args : Array Operand} {ats : Array TypeId} (hop : o.op = .call { callee := .value (.tmp t), args, argTypes := ats }) (hx : a.eval (.tmp t) = .func (.func f) fs cs) (hf : FnThere P f) :
    (execOp a.eval o).run P w = .ok (.enter f (fs ++ args.map a.eval ++ cs)) w := by
  obtain ⟨fn, h1, h2, h3⟩ := hf
  have hn : ¬ fn.name = "runtime.NumGoroutine" := by simpa using h3
  have hb : ¬ fn.body = none := by intro h; rw [h] at h2; cases h2
  simp [execOp, hop, resolve, hx, Deferred.ofValue, invoke, callFunc, h1, hn, hb]

theorem exec_yield (w : World) {o : Oper} {t : Tmp} {g : Nat} {args : Array Operand} {ats : Array TypeId} {nx : Next} (hop : o.op = .call { callee := .value (.tmp t), args, argTypes := ats }) (hx : a.eval (.tmp t) = .func (.yield g) #[] #[]) (hy : (Instr.yield g (args.map a.eval)).run P w = .ok nx w) :
    (execOp a.eval o).run P w = .ok nx w := by
  simp [execOp, hop, resolve, hx, Deferred.ofValue, invoke, hy]

theorem CL_append {m : Mem} {xs ys : List AV} {us vs : Array Value} (h1 : CL m xs (fun i => us[i]?)) (hs : us.size = xs.length) (h2 : CL m ys (fun i => vs[i]?)) : CL m (xs ++ ys) (fun i => (us ++ vs)[i]?) := by
  rw [CL_iff] at *
  intro i x hx
  rcases Nat.lt_or_ge i xs.length with h | h
  · rw [List.getElem?_append_left h] at hx
    obtain ⟨u, q1, q2⟩ := h1 i x hx
    exact ⟨u, by rw [Array.getElem?_append_left (by omega)]; exact q1, q2⟩
  · rw [List.getElem?_append_right h] at hx
    obtain ⟨u, q1, q2⟩ := h2 _ x hx
    exact ⟨u, by rw [Array.getElem?_append_right (by omega), hs]; exact q1, q2⟩

theorem step_ok {o : Oper} {so : SOp} {i : Nat} {d : Bool} {v : AV} {hp' : List Blk} {K : Act → World → Prop} (hP : m.P = P) (hcd : m.cd = fid) (hcs : csop P fid nt ops o = some so.base) (hi : ops[i]? = some o) (H : HInv fr w0 m st.hp w []) (E : EnvOk m st.env a.tmps)
    (h : Step P fid d so st v hp') (hK : ∀ m' u w', Ext fr m m' → C m' v u → HInv fr w0 m' hp' w' [] → K (a.put o.dst u) w') : wpOpIn (FF ro) n P ops Q i K a w := by
  obtain ⟨h1, h2, h3, h4⟩ := csop_ok hcs
  unfold wpOpIn
  rw [hi]
  simp only
  have hab : ∀ f, o.about P w a.eval = some f → (FF ro).fn f := fun _ _ => trivial
  have hdep : (FF ro).depth.isSome = true → 1 ≤ n := fun h => by simp [FF, Fence.wide] at h
  have hsem : ∀ so', cop P fid o.op = some so' → o.semAt (FF ro).round a.eval = execOp a.eval o := fun so' hq => Oper.semAt_eq _ _ _ (fun c hc => by rw [hc] at hq; simp [cop] at hq)
  cases h with
  | skip hw =>
    rw [wanted_ok h4 E hw, if_neg (by simp)]
    exact ⟨hab, hK m undef w (Ext.refl fr m) (by simp [C, undef, CL]) H⟩
  | op hw ha =>
    rw [wanted_ok h4 E hw, if_pos rfl]
    obtain ⟨nx, u, w', m', hr, hnx, hE, hC, HH⟩ := op_ok (P := P) (l0 := st.lo) (mk := st.mks) hcd h1 rfl ha H E
    refine ⟨hab, ?_⟩
    rw [hsem _ h1, hr]
    rcases hnx with rfl | ⟨rfl, rfl⟩
    · exact hK m' u w' hE hC HH
    · exact hK m' undef w' hE hC HH
  | @call md k vs v hp' hw ho hc =>
    rw [wanted_ok h4 E hw, if_pos rfl]
    refine ⟨hab, ?_⟩
    rw [hsem _ h1]
    have fin : ∀ (f : FuncId) (us : Array Value), fid f = some k → CL m vs (fun i => us[i]?) → us.size = vs.length → (FnThere P f → (execOp a.eval o).run P w = .ok (.enter f us) w) → o.uponIn (FF ro) n P a K Q ((execOp a.eval o).run P w) := by
      intro f us hf hC hs hx
      obtain ⟨t1, t2⟩ := shared_of hf hc
      rw [hx t1, Oper.uponIn_enter]
      refine ⟨hdep, (callsFF (t2 fr w0 m w us hP hcd H hC hs)).mono ?_⟩
      rintro e w' ⟨u, m', rfl, hE, HH, hC'⟩
      exact hK m' u w' hE hC' HH
    cases hop : so.op with
    | call md' k' as =>
      rw [hop] at ho h1
      simp only [SO.callee, Option.some.injEq, Prod.mk.injEq] at ho
      obtain ⟨rfl, rfl, rfl⟩ := ho
      obtain ⟨f, args, ats, hoo, hfk, has⟩ := cop_call h1
      obtain ⟨c1, c2⟩ := opds_ok (st := st) hcd args.toList as has E
      exact fin f (args.map a.eval) hfk (by simpa using c1) (by simp [c2]) (fun ht => exec_call w hoo ht)
    | callf md' x as =>
      rw [hop] at ho h1
      simp only [SO.callee] at ho
      split at ho
      · rename_i k' fs cs hx
        simp only [Option.some.injEq, Prod.mk.injEq] at ho
        obtain ⟨rfl, rfl, rfl⟩ := ho
        obtain ⟨t, args, ats, hoo, rfl, has⟩ := cop_callf h1
        obtain ⟨c1, c2⟩ := opds_ok (st := st) hcd args.toList as has E
        have hE := E t
        change st.ev (.tmp t) = _ at hx
        rw [show lk st.env t = .clo k' fs cs from hx] at hE
        simp only [C] at hE
        obtain ⟨fn, fs', cs', q1, q2, q3, q4, q5, q6⟩ := hE
        refine fin fn (fs' ++ args.map a.eval ++ cs') (by rw [← hcd]; exact q2) ?_ (by simp [q3, q4, c2]) (fun ht => exec_clo w hoo q1 ht)
        refine CL_append (CL_append q5 q3 (by simpa using c1)) (by simp [q3, c2]) q6
      · cases ho
    | _ => rw [hop] at ho; simp [SO.callee] at ho
  | @round x as id v hp' hw ho hx hr =>
    rw [wanted_ok h4 E hw, if_pos rfl]
    refine ⟨hab, ?_⟩
    rw [hsem _ h1]
    rw [ho] at h1
    obtain ⟨t, args, ats, hoo, rfl, has⟩ := cop_callf h1
    obtain ⟨c1, c2⟩ := opds_ok (st := st) hcd args.toList as has E
    have hE := E t
    rw [show lk st.env t = .yld id from hx] at hE
    simp only [C] at hE
    obtain ⟨e, he, g, hg, hv⟩ := hE
    obtain ⟨f, tmps, asg, body, hy, hR⟩ := hr fr w0 m w (args.map a.eval) e g hP hcd H (by simpa using c1) (by simp [c2]) he hg
    rw [exec_yield w hoo hv hy, Oper.uponIn_round]
    refine ⟨hdep, trivial, fun c cs _ => ?_⟩
    obtain ⟨e', w', ⟨u, m', rfl, hE', HH, hC'⟩, hs⟩ := hR.2 c cs (room_wide _)
    exact ⟨.returned u, w', hK m' u w' hE' hC' HH, hs⟩

/-- What is known between two statements. -/
structure SInv (P : Program) (fid : FuncId → Option Nat) (fr0 fr : Nat → Prop) (w0 : World) (nt : Nat) (m : Mem) (st : St) (a : Act) (w : World) : Prop where
  P : m.P = P
  cd : m.cd = fid
  h : HInv fr w0 m st.hp w []
  e : EnvOk m st.env a.tmps
  n : nt ≤ a.tmps.size
  d : (∀ g, fr0 g → fr g) ∧ ∃ M : List Nat, a.defers.map (·.target) = M.map Target.collected ∧ M.Nodup ∧ ∀ r ∈ M, fr r ∧ ¬ fr0 r ∧ w0.heap[r]? = some (.deferred (some []))
  l : st.lo ≤ st.hp.length

theorem ext_len {m m' : Mem} (h : Ext fr m m') : m.bl.length ≤ m'.bl.length := by
  rcases Nat.eq_zero_or_pos m.bl.length with h0 | h0
  · omega
  · have := h.le.bl (m.bl.length - 1) _ (List.getElem?_eq_getElem (by omega))
    have := (List.getElem?_eq_some_iff.1 this).1
    omega

theorem EnvOk.cons {m : Mem} {env : List (Nat × AV)} {ts : Array Value} (h : EnvOk m env ts) {s : Nat} {v : AV} (hv : C m v (ts.getD s undef)) : EnvOk m ((s, v) :: env) ts := by
  intro t
  simp only [lk]
  by_cases ht : s = t
  · subst ht; rw [if_pos rfl]; exact hv
  · rw [if_neg ht]; exact h t

theorem EnvOk.put {m : Mem} {env : List (Nat × AV)} {ts : Array Value} (h : EnvOk m env ts) {s : Nat} {v : AV} {u : Value} (hs : s < ts.size) (hv : C m v u) : EnvOk m ((s, v) :: env) (ts.setIfInBounds s u) := by
  intro t
  simp only [lk]
  rw [Array.getD_eq_getD_getElem?, Array.getElem?_setIfInBounds]
  by_cases ht : s = t
  · subst ht; rw [if_pos rfl, if_pos rfl, if_pos hs]; exact hv
  · rw [if_neg ht, if_neg ht, ← Array.getD_eq_getD_getElem?]; exact h t

theorem SInv.put (S : SInv P fid fr0 fr w0 nt m st a w) {m' : Mem} {w' : World} {hp' : List Blk} {d : Option Nat} {v : AV} {u : Value} (hE : Ext fr m m') (hC : C m' v u) (HH : HInv fr w0 m' hp' w' []) (hd : ∀ x, d = some x → x < nt) :
    SInv P fid fr0 fr w0 nt m' (st.put d v hp') (a.put d u) w' := by
  have hl : st.lo ≤ hp'.length := by
    have h1 := ext_len hE
    rw [S.h.len, HH.len] at h1
    exact Nat.le_trans S.l h1
  cases d with
  | none => exact ⟨hE.le.P.trans S.P, hE.le.cd.trans S.cd, HH, S.e.mono hE.le, S.n, S.d, hl⟩
  | some d =>
    refine ⟨hE.le.P.trans S.P, hE.le.cd.trans S.cd, HH, (S.e.mono hE.le).put (Nat.lt_of_lt_of_le (hd d rfl) S.n) hC, ?_, S.d, hl⟩
    simpa [Act.put] using S.n

/-- A region in the order of its text. -/
theorem text_ok {d : Bool} : ∀ (l : List SOp) (idx : List Nat) (st : St) (m : Mem) (a : Act) (w : World), Trace P fid d l st st' → idx.length = l.length →
    (∀ (k i : Nat) (so : SOp), idx[k]? = some i → l[k]? = some so → ∃ o, ops[i]? = some o ∧ csop P fid nt ops o = some so.base) →
    SInv P fid fr0 fr w0 nt m st a w → (∀ m' a' w', Fwd fr st.lo m m' → st'.lo = st.lo → SInv P fid fr0 fr w0 nt m' st' a' w' → Q .normal a' w') → wpOpsIn (FF ro) n P ops Q idx a w
  | [], idx, st, m, a, w, ht, hl, _, S, hQ => by
    have : idx = [] := List.eq_nil_of_length_eq_zero (by simpa using hl)
    subst this
    cases ht
    exact hQ m a w (Fwd.refl _ _ m) rfl S
  | so :: l, idx, st, m, a, w, ht, hl, hx, S, hQ => by
    cases idx with
    | nil => simp at hl
    | cons i idx =>
      cases ht with
      | @cons _ _ _ v hp' _ h t =>
        obtain ⟨o, ho, hcs⟩ := hx 0 i so (by simp) (by simp)
        rw [wpOpsIn_cons]
        obtain ⟨_, e2, e3, _⟩ := csop_ok hcs
        refine step_ok S.P S.cd hcs ho S.h S.e h ?_
        intro m' u w' hE hC HH
        rw [← e2]
        have S' := S.put hE hC HH (d := so.dst) (by rw [e2]; exact e3)
        have hlo : (st.put so.dst v hp').lo = st.lo := by unfold St.put; split <;> rfl
        refine text_ok l idx (st.put so.dst v hp') m' _ w' t (by simpa using hl) (fun k j so' h1 h2 => hx (k + 1) j so' (by simpa using h1) (by simpa using h2)) S' ?_
        intro m2 a2 w2 f2 e S2
        exact hQ m2 a2 w2 ((hE.fwd (by rw [S.h.len]; exact S.l)).trans (by rw [← hlo]; exact f2)) (e.trans hlo) S2
end
end Go.Proofs.Ytmeakgiojhoofaa
