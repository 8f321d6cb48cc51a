/-
  Each operation does what the evaluator says (4): what makes memory, and turns it.
-/
import Derived.Test.YtmeakgiojhoofaaKi
namespace Go.Proofs.Ytmeakgiojhoofaa
open Go.RowKit

section
variable {P : Program} {fid : FuncId → Option Nat} {fr : Nat → Prop} {w0 w : World} {m : Mem} {hp hp' : List Blk} {env : List (Nat × AV)} {a : Act} {o : Oper} {v : AV} {l0 : Nat} {mk : List Mark} {fl : List Nat}

theorem HInv.adopt0 {f : List Nat} (H : HInv fr w0 m hp w f) {b : Blk} {x : Ent} (hb : BlkOk m w b x f) : HInv fr w0 { m with bl := m.bl ++ [x], fp := fun k => if k = hp.length then f else m.fp k } (hp ++ [b]) w [] :=
  HInv.adopt (fl := []) (by simpa using H) hb

/-- A new row. -/
theorem HInv.newRow {f : List Nat} (H : HInv fr w0 m hp w f) {cur : Array Value} {t : TypeId} {cs : List AV} {cap n sz : Nat} (hR : RL m w cs (fun i => cur[i]?) f) (hok : cs.all AV.okc = true) (hs : cur.size = cap * sz) (hl : cs.length = n * sz) (h0 : cs = [] → n = 0) (hn : n ≤ cap) :
    HInv fr w0 { m with bl := m.bl ++ [⟨some ⟨w.heap.size, 0, none⟩, some w.heap.size, cap, n, sz⟩], fp := fun k => if k = hp.length then w.heap.size :: f else m.fp k } (hp ++ [.row false cs]) (w.alloc (.cells cur t)) [] := by
  have H1 := H.alloc0 (.cells cur t)
  refine HInv.adopt (fl := []) (f := w.heap.size :: f) (by simpa using H1) ⟨hok, hl, h0, hn, .inr ⟨w.heap.size, rfl, rfl, fun _ => ⟨cur, t, f, heap_alloc_new w _, hs, rfl, ?_⟩, fun h => by cases h⟩⟩
  refine RL_mono (Mem.le.refl m) (fun q hq => Below.heap_alloc w _ q (H.fown q hq).2.1) (fun _ _ h => h) hR

theorem fp_new {m : Mem} {hp : List Blk} (H : m.bl.length = hp.length) (e : Ent) : (m.bl ++ [e])[hp.length]? = some e := by rw [← H]; exact get_new

theorem cells_ok {m : Mem} {x : AV} {u : Value} (h : C m x u) (hx : x ≠ .unk) (ht : ∀ vs, x ≠ .tup vs) : CL m x.cells (fun i => u.cells[i]?) ∧ u.cells.size = x.cells.length := by
  by_cases hx' : ∃ cs, x = .agg cs
  · obtain ⟨cs, rfl⟩ := hx'
    simp only [C] at h
    obtain ⟨h1, vs, rfl, h2, h3⟩ := h
    exact ⟨h3, h2⟩
  · have e : x.cells = [x] := by cases x <;> first | rfl | exact absurd ⟨_, rfl⟩ hx'
    have hok : x.okc = true := by cases x <;> first | rfl | exact absurd rfl hx | exact absurd rfl (ht _) | exact absurd ⟨_, rfl⟩ hx'
    rw [e]
    have h1 := C_okc h hok
    have e2 : u.cells = #[u] := by cases u <;> first | rfl | simp [Value.oneCell'] at h1
    rw [e2]
    exact ⟨by simp [CL, h], rfl⟩

theorem pksL_cells {hp : List Blk} {x : AV} {r : List AV × List Blk} (h : pksL hp x.cells = some r) (hok : r.1.all AV.okc = true) : x ≠ .unk ∧ ∀ vs, x ≠ .tup vs := by
  constructor
  · rintro rfl; simp [AV.cells, pksL, pks] at h
  · rintro vs rfl
    simp only [AV.cells, pksL, pks, pk, Option.bind_eq_some_iff, Option.map_eq_some_iff] at h
    obtain ⟨q, ⟨q', _, rfl⟩, b, _, rfl⟩ := h
    simp [AV.okc] at hok
theorem pkL_cells {n : Nat} {hp : List Blk} {x : AV} {r : List AV × List Blk} (h : pkL n hp x.cells = some r) (hok : r.1.all AV.okc = true) : x ≠ .unk ∧ ∀ vs, x ≠ .tup vs := by
  constructor
  · rintro rfl; simp [AV.cells, pkL, pk] at h
  · rintro vs rfl
    simp only [AV.cells, pkL, pk, Option.bind_eq_some_iff, Option.map_eq_some_iff] at h
    obtain ⟨q, ⟨q', _, rfl⟩, b, _, rfl⟩ := h
    simp [AV.okc] at hok

theorem zeroOf_ok (hcd : m.cd = fid) {t : TypeId} {z : List AV} (h : zeroOf P fid t = some z) : ∃ i zv, P.info? t = some i ∧ i.zero = some zv ∧ CL m z (fun i => zv.cells[i]?) ∧ z.length = zv.cells.size ∧ z.all AV.okc = true := by
  simp only [zeroOf, Option.bind_eq_some_iff] at h
  obtain ⟨zv, ⟨i, hi, hz⟩, h⟩ := h
  obtain ⟨k1, k2, k3⟩ := absL_ok hcd _ _ h
  exact ⟨i, zv, hi, hz, by simpa using k1, by simpa using k2, k3⟩

theorem go_box (hcd : m.cd = fid) {t : TypeId} {n : Nat} {x : Operand} {x' : SX} (hop : o.op = .box t x) (h1 : opd fid x = some x') (hs : astep hp (St.ev ⟨env, hp, l0, mk⟩) (.box n x') = some (v, hp')) (H : HInv fr w0 m hp w []) (E : EnvOk m env a.tmps) :
    Goes P o a w fr w0 m v hp' := by
  have k1 := opd_ok (st := ⟨env, hp, l0, mk⟩) hcd h1 E
  simp only [astep, Option.bind_eq_some_iff] at hs
  obtain ⟨r, hr, hs⟩ := hs
  split at hs
  · rename_i hc
    simp only [Option.some.injEq, Prod.mk.injEq] at hs
    obtain ⟨rfl, rfl⟩ := hs
    obtain ⟨hne, hnt⟩ := pksL_cells hr hc.2
    obtain ⟨c1, c2⟩ := cells_ok k1 hne hnt
    obtain ⟨m1, f1, E1, i1, b1, H1, R1, l1, l2⟩ := pksL_ok (f0 := []) (f := []) _ hr H (RL_of_CL _ _ c1)
    have H2 := HInv.newRow (t := t) (cap := (a.eval x).cells.size) (n := (a.eval x).cells.size) (sz := 1) (by simpa using H1) R1 hc.2 (by simp) (by rw [l2, c2]; simp) (fun h => by rw [c2, ← l2, h]; rfl) (Nat.le_refl _)
    refine ⟨_, .pointer (some ⟨w.heap.size, 0, none⟩), _, _, ?_, .inl rfl, E1.trans (ext_app _ _), ?_, H2⟩
    · simp [execOp, hop, Instr.box, newVar, newRow, newObj, Sem.run]
    · simp only [C]
      exact ⟨_, fp_new H1.len _, w.heap.size, rfl, rfl⟩
  · cases hs

theorem go_alloc (hcd : m.cd = fid) {t : TypeId} {z : List AV} (hop : o.op = .alloc t) (h1 : zeroOf P fid t = some z) (hs : astep hp (St.ev ⟨env, hp, l0, mk⟩) (.alloc z) = some (v, hp')) (H : HInv fr w0 m hp w []) : Goes P o a w fr w0 m v hp' := by
  obtain ⟨i, zv, hi, hz, k1, k2, k3⟩ := zeroOf_ok hcd h1
  simp only [astep, Option.some.injEq, Prod.mk.injEq] at hs
  obtain ⟨rfl, rfl⟩ := hs
  have H2 := HInv.newRow (t := t) (cap := zv.cells.size) (n := zv.cells.size) (sz := 1) H (RL_of_CL _ _ k1) k3 (by simp) (by rw [k2]; simp) (fun h => by rw [← k2, h]; rfl) (Nat.le_refl _)
  refine ⟨_, .pointer (some ⟨w.heap.size, 0, none⟩), _, _, ?_, .inl rfl, ext_app _ _, ?_, H2⟩
  · simp [execOp, hop, Instr.alloc, zeroValue, typeInfo, hi, hz, newVar, newRow, newObj, Sem.run]
  · simp only [C]
    exact ⟨_, fp_new H.len _, w.heap.size, rfl, rfl⟩

theorem go_load (hcd : m.cd = fid) {u : Bool} {t : TypeId} {n : Option Nat} {x : Operand} {x' : SX} (hop : o.op = .load t x) (hn : ldk P t = some n) (h1 : opd fid x = some x') (hs : astep hp (St.ev ⟨env, hp, l0, mk⟩) (.load u n x') = some (v, hp')) (H : HInv fr w0 m hp w []) (E : EnvOk m env a.tmps) :
    Goes P o a w fr w0 m v hp' := by
  have k1 := opd_ok (st := ⟨env, hp, l0, mk⟩) hcd h1 E
  simp only [astep] at hs
  split at hs
  · rename_i cs hx
    rw [hx] at k1
    simp only [Option.map_eq_some_iff, Prod.mk.injEq] at hs
    obtain ⟨v', hv, rfl, rfl⟩ := hs
    simp only [C] at k1
    obtain ⟨hok, b, off, hu, hg⟩ := k1
    obtain ⟨uu, hr, hC⟩ := run_loadAt_ok (P := P) (w := w) (b := b) (o := off) hn hv hok hg (fun i v hv => H.im _ _ _ hv)
    exact goes_pure H (u := uu) (by simp [execOp, hop, hu, hr]) hC
  · rename_i id off hx
    rw [hx] at k1
    simp only [C] at k1
    obtain ⟨e, he, g, heg, hu⟩ := k1
    split at hs
    · rename_i fr' cs hb
      split at hs
      · -- what nobody else has is laid into blocks
        split at hs
        · rename_i hc
          obtain ⟨rfl, hlen⟩ := hc
          split at hs
          · rename_i hni
            simp only [Option.map_eq_some_iff, Prod.mk.injEq] at hs
            obtain ⟨v', hv, rfl, rfl⟩ := hs
            obtain ⟨hok, q2, q3, q4, q5⟩ := H.blk id _ e hb he
            rcases q5 with ⟨q, _⟩ | ⟨g', r1, r2, r3, _⟩
            · rw [heg] at q; cases q
            · rw [heg] at r1; injection r1 with r1; subst r1
              obtain ⟨cur, t', f', s1, s2, s3, s4⟩ := r3 rfl
              obtain ⟨fa, f2, rfl, ha, h2⟩ := CL_get s4 off
              have hto : (cs.take off).length = off := by simp; omega
              rw [hto] at h2
              obtain ⟨fb, fc, rfl, hbb, hcc⟩ := CL_get h2 (cnt n)
              have htu : ((cs.drop off).take (cnt n)).length = cnt n := by simp; omega
              rw [htu, List.drop_drop] at hcc
              have Hk := H.kill id
              rw [s3, List.append_nil] at Hk
              have Hk2 := Hk.perm (fl' := (g :: (fa ++ fc)) ++ fb) (by
                simp only [List.cons_append]
                refine List.Perm.cons g ?_
                rw [List.append_assoc]
                exact List.Perm.append_left fa List.perm_append_comm)
              obtain ⟨m2, f3, E2, i2, p2, H2, R2, l2, o2, lx, hlx⟩ := unpk_ok (f0 := g :: (fa ++ fc)) ((cs.drop off).take (cnt n)) Hk2 (RL_mono (le_fp _) (fun _ _ => rfl) (fun _ _ h => h) hbb)
              have hokr : (unpk (hp.set id .dead) ((cs.drop off).take (cnt n))).1.all AV.okc = true := o2 (all_take (all_drop hok _) _)
              obtain ⟨hCr, hf3⟩ := CL_of_RL _ _ _ hni R2
              subst hf3
              have hx2 : m2.bl[id]? = some e := E2.le.bl id e he
              have hlr : off + (unpk (hp.set id .dead) ((cs.drop off).take (cnt n))).1.length ≤ cs.length := by rw [l2, htu]; exact hlen
              have Efull : Ext fr m m2 := (ext_fp _).trans E2
              -- the block's cells, as they are now known
              have hR2 : RL m2 w (setAll cs off (unpk (hp.set id .dead) ((cs.drop off).take (cnt n))).1) (fun i => cur[i]?) (fa ++ fc) := by
                rw [setAll_eq _ _ _ hlr, List.append_assoc, RL_append]
                refine ⟨fa, fc, rfl, RL_mono Efull.le (fun _ _ => rfl) (fun _ _ h => h) ha, ?_⟩
                rw [RL_append]
                refine ⟨[], fc, rfl, ?_, ?_⟩
                · rw [hto]; exact R2
                · rw [hto, l2, htu]; exact RL_mono Efull.le (fun _ _ => rfl) (fun _ _ h => h) hcc
              have H3 := H2.turn (f := g :: (fa ++ fc)) (g := []) (i := id) (b := .row false (setAll cs off (unpk (hp.set id .dead) ((cs.drop off).take (cnt n))).1)) hx2 (fun q hq => .inr (by simpa using hq)) (by simpa using H2.fnd)
                ⟨setAll_okc _ _ _ hok hokr, by rw [setAll_length]; exact q2, fun h => q3 (List.eq_nil_of_length_eq_zero (by rw [← setAll_length _ cs off, h]; rfl)), q4, .inr ⟨g, heg, r2, fun _ => ⟨cur, t', fa ++ fc, s1, s2, rfl, hR2⟩, fun h => by cases h⟩⟩
              obtain ⟨uu, hr, hC⟩ := run_loadAt_ok (P := P) (w := w) (b := g) (o := off) hn hv hokr hCr (fun i v hv => by simp [World.cell?, s1]; exact hv)
              refine ⟨_, uu, w, _, ?_, .inl rfl, Efull.trans (ext_fp _), C_mono (le_fp _) _ _ hC, H3⟩
              simp [execOp, hop, hu, hr]
          · cases hs
        · cases hs
      · simp only [Option.bind_eq_some_iff] at hs
        obtain ⟨v', hv, hs⟩ := hs
        split at hs
        · rename_i hni
          simp only [Option.some.injEq, Prod.mk.injEq] at hs
          obtain ⟨rfl, rfl⟩ := hs
          obtain ⟨e', q, hb', he', q1, q2, q3, q4, q5⟩ := row_at H (cs := cs) (id := id) (by simp [rowc, hb, Blk.cells])
          rw [he] at he'; injection he' with he'; subst he'
          rcases q5 with ⟨r1, _⟩ | ⟨g', f, r1, r2, hR⟩
          · rw [heg] at r1; cases r1
          · rw [heg] at r1; injection r1 with r1; subst r1
            obtain ⟨fa, fb, rfl, _, hb2⟩ := CL_get hR off
            by_cases hoff : off ≤ cs.length
            · have hto : (cs.take off).length = off := by simp; omega
              rw [hto] at hb2
              -- the cells that are loaded
              have hk : ∃ k, rdc ((cs.drop off).take k) n = some v' ∧ allL pnoinl ((cs.drop off).take k) = true := by
                cases n with
                | none =>
                  refine ⟨1, ?_, ?_⟩
                  · simp only [rdc] at hv ⊢
                    rw [List.head?_take, if_neg (by omega)]; exact hv
                  · simp only [rdc] at hv
                    cases hq : cs.drop off with
                    | nil => rfl
                    | cons x xs =>
                      rw [hq] at hv
                      simp at hv; subst hv
                      simp only [List.take_succ_cons, List.take_zero, allL, Bool.and_true]
                      exact hni
                | some k =>
                  refine ⟨k, ?_, ?_⟩
                  · simp only [rdc] at hv ⊢
                    split at hv
                    · rename_i hk; rw [if_pos (by rw [List.length_take]; omega), List.take_take, Nat.min_self]; exact hv
                    · cases hv
                  · simp only [rdc] at hv
                    split at hv
                    · injection hv with hv; subst hv
                      simp only [noinl, AV.allv, Bool.and_eq_true] at hni
                      exact hni.2
                    · cases hv
              obtain ⟨k, hv2, hni2⟩ := hk
              obtain ⟨fc, fd, rfl, hc2, _⟩ := CL_get hb2 k
              obtain ⟨hCL, _⟩ := CL_of_RL _ _ _ hni2 hc2
              obtain ⟨uu, hr, hC⟩ := run_loadAt_ok (P := P) (w := w) (b := g) (o := off) hn hv2 (all_take (all_drop q1 _) _) hCL (fun i v hv => hv)
              exact goes_pure H (u := uu) (by simp [execOp, hop, hu, hr]) hC
            · rw [List.drop_eq_nil_of_le (by omega)] at hv
              obtain ⟨uu, hr, hC⟩ := run_loadAt_ok (P := P) (w := w) (b := g) (o := off) (cs := []) (g := fun _ => none) hn hv rfl (by simp [CL]) (fun i v hv => by cases hv)
              exact goes_pure H (u := uu) (by simp [execOp, hop, hu, hr]) hC
        · cases hs
    · cases hs
  · cases hs

theorem go_store (hcd : m.cd = fid) {mv : Bool} {t : TypeId} {n : Nat} {x y : Operand} {x' y' : SX} (hop : o.op = .store t x y) (hn : szOf P t = some n) (h1 : opd fid x = some x') (h2 : opd fid y = some y') (hs : astep hp (St.ev ⟨env, hp, l0, mk⟩) (.store mv n x' y') = some (v, hp'))
    (H : HInv fr w0 m hp w []) (E : EnvOk m env a.tmps) : Goes P o a w fr w0 m v hp' := by
  have k1 := opd_ok (st := ⟨env, hp, l0, mk⟩) hcd h1 E
  have k2 := opd_ok (st := ⟨env, hp, l0, mk⟩) hcd h2 E
  simp only [astep] at hs
  split at hs
  · rename_i id off hx
    rw [hx] at k1
    simp only [C] at k1
    obtain ⟨e, he, g, heg, hu⟩ := k1
    simp only [Option.bind_eq_some_iff] at hs
    obtain ⟨r, hr, hs⟩ := hs
    split at hs
    · rename_i cs hb
      split at hs
      · rename_i hc
        obtain ⟨hl, hle, hok2⟩ := hc
        simp only [Option.some.injEq, Prod.mk.injEq] at hs
        obtain ⟨rfl, rfl⟩ := hs
        have hcells : (St.ev ⟨env, hp, l0, mk⟩ y' ≠ .unk ∧ ∀ vs, St.ev ⟨env, hp, l0, mk⟩ y' ≠ .tup vs) ∧
            (CL m (St.ev ⟨env, hp, l0, mk⟩ y').cells (fun i => (a.eval y).cells[i]?) → ∃ m1 f1, Ext fr m m1 ∧ m1.bl = m.bl ∧ HInv fr w0 m1 r.2 w ([] ++ f1) ∧ RL m1 w r.1 (fun i => (a.eval y).cells[i]?) f1 ∧ r.1.length = (St.ev ⟨env, hp, l0, mk⟩ y').cells.length) := by
          cases mv
          · simp only [Bool.false_eq_true, if_false] at hr
            refine ⟨pksL_cells hr hok2, fun c1 => ?_⟩
            obtain ⟨m1, f1, E1, i1, b1, H1, R1, l1, l2⟩ := pksL_ok (f0 := []) (f := []) _ hr H (RL_of_CL _ _ c1)
            exact ⟨m1, f1, E1, b1, H1, R1, l2⟩
          · simp only [if_true] at hr
            refine ⟨pkL_cells hr hok2, fun c1 => ?_⟩
            obtain ⟨m1, f1, E1, i1, b1, H1, R1, l1, l2, _⟩ := pkL_ok (f0 := []) (f := []) _ hr H (RL_of_CL _ _ c1)
            exact ⟨m1, f1, E1, b1, H1, R1, l2⟩
        obtain ⟨⟨hne, hnt⟩, hcells⟩ := hcells
        obtain ⟨c1, c2⟩ := cells_ok k2 hne hnt
        obtain ⟨m1, f1, E1, b1, H1, R1, l2⟩ := hcells c1
        rw [List.nil_append] at H1
        have he1 : m1.bl[id]? = some e := by rw [b1]; exact he
        obtain ⟨hok, q2, q3, q4, q5⟩ := H1.blk id _ e hb he1
        rcases q5 with ⟨q, _⟩ | ⟨g', r1, r2, r3, _⟩
        · rw [heg] at q; cases q
        · rw [heg] at r1; injection r1 with r1; subst r1
          obtain ⟨cur, t', f', s1, s2, s3, s4⟩ := r3 rfl
          have hwl : (a.eval y).cells.toList.length = r.1.length := by rw [l2]; simpa using c2
          have hcl := RL_length s4
          have hone := vs_one (vs := (a.eval y).cells.toList) (by simpa using R1) hwl hok2
          have hst := run_storeCells_at P g off t' (a.eval y).cells.toList 0 cur w s1 (by omega) hone
          simp only [Nat.add_zero] at hst
          simp only [szOf, Option.map_eq_some_iff] at hn
          obtain ⟨i, hi, hin⟩ := hn
          have hsize : ¬ (a.eval y).cells.size ≠ i.size := by rw [c2, ← l2, hin, hl]; simp
          obtain ⟨fa, fb, fc, rfl, hR⟩ := RL_splice (o := off) (vs := cur.toList) (ws := (a.eval y).cells.toList) (by simpa using s4) (by simpa using hcl) (by simpa using R1) hwl (by omega)
          have hnd : ((g :: (fa ++ (fb ++ fc))) ++ f1).Nodup := by
            rw [← s3, List.nodup_append]
            exact ⟨H1.nd id, H1.fnd, fun a ha b hb e => H1.fdj id a ha (by rw [e]; exact hb)⟩
          have hgf : ∀ q ∈ fa ++ (f1 ++ fc), q ≠ g := by
            intro q hq e
            subst e
            rw [List.cons_append, List.nodup_cons] at hnd
            apply hnd.1
            simp at hq ⊢
            rcases hq with h | h | h <;> simp [h]
          have hsize2 : (cur.toList.take off ++ (a.eval y).cells.toList ++ cur.toList.drop (off + (a.eval y).cells.toList.length)).toArray.size = cur.size := by
            simp only [List.size_toArray, List.length_append, List.length_take, List.length_drop, Array.length_toList] at hwl ⊢
            omega
          refine ⟨.skip, undef, w.setRow g (cur.toList.take off ++ (a.eval y).cells.toList ++ cur.toList.drop (off + (a.eval y).cells.toList.length)).toArray, { m1 with fp := fun k => if k = id then g :: (fa ++ (f1 ++ fc)) else m1.fp k }, ?_, .inr ⟨rfl, rfl⟩, E1.trans (ext_fp _), by simp [C, undef, CL], ?_⟩
          · simp [execOp, hop, hu, Instr.storeAt, Instr.sureAddr, storeVar, sizeOf, typeInfo, hi, hst]
            simpa using hsize
          · refine H1.write (f := g :: (fa ++ (f1 ++ fc))) (g' := []) he1 (by rw [s3]; simp) (fun q hq => ?_) ?_ ⟨setAll_okc _ _ _ hok hok2, by rw [setAll_length]; exact q2, fun h => q3 (List.eq_nil_of_length_eq_zero (by rw [← setAll_length _ cs off, h]; rfl)), q4, .inr ⟨g, heg, r2, fun _ => ⟨_, t', fa ++ (f1 ++ fc), setRow_heap w g cur _ t' _ s1, by rw [hsize2, s2], rfl, ?_⟩, fun h => by cases h⟩⟩
            · rw [s3]
              simp at hq ⊢
              rcases hq with h | h | h | h <;> simp [h]
            · rw [List.append_nil, List.nodup_cons]
              refine ⟨fun h => hgf g h rfl, ?_⟩
              rw [List.cons_append, List.nodup_cons] at hnd
              have := hnd.2
              refine List.Nodup.sublist (l₂ := fa ++ (f1 ++ (fb ++ fc))) ?_ ?_
              · exact List.Sublist.append_left (List.Sublist.append_left (List.sublist_append_right fb fc) f1) fa
              · refine (List.Perm.nodup_iff ?_).1 this
                rw [List.append_assoc]
                exact List.Perm.append_left fa List.perm_append_comm
            · refine RL_mono (Mem.le.refl m1) (fun q hq => setRow_other w g q _ (hgf q hq)) (fun i u h => ?_) hR
              simpa using h
      · cases hs
    · cases hs
  · cases hs
end
end Go.Proofs.Ytmeakgiojhoofaa
