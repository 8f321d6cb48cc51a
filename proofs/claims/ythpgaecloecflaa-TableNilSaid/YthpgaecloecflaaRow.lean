/-
  Laws of my own for a row that the call owns and changes in place: an append within the row (the source may overlap), clear, copy into it, a store.
-/
import Derived.Test.YthpgaecloecflaaLib
import Derived.Deep.RegionLaw
import Derived.Laws.CopyOwn
namespace Go.Proofs.Ythpgaecloecflaa
open Go.RowKit

/-- Block g of w is just the cells cur. -/
def Row (w : World) (g : Nat) (e : TypeId) (cur : List Value) : Prop := w.heap[g]? = some (.cells cur.toArray e (0, 0))

section
variable {w w' : World} {g : Nat} {e : TypeId} {cur : List Value}
theorem Row.lt (h : Row w g e cur) : g < w.heap.size := lt_of_block h
theorem Row.cell (h : Row w g e cur) (i : Nat) : w.cell? ⟨g, i, none⟩ = cur[i]? := by
  rw [cell_of_row w g i cur.toArray e (0, 0) h]; simp
theorem Row.free (h : Row w g e cur) (i : Nat) : w.frozen? ⟨g, i, none⟩ = false := by
  unfold Row at h
  simp [World.frozen?, h]
theorem Row.grown {row : Option Nat} (h : Row w g e cur) (hg : w.grownBy w' row) (hne : some g ≠ row) : Row w' g e cur := (hg.block g h.lt hne).trans h
theorem Row.below {B : Nat} (h : Row w g e cur) (hb : Below B w w') (hg : g < B) : Row w' g e cur := (hb.block g hg).trans h
theorem Row.alloc (h : Row w g e cur) (o : Obj) : Row (w.alloc o) g e cur := (Below.heap_alloc w o g h.lt).trans h
theorem Row.new (w : World) (e : TypeId) (cs : Array Value) : Row (w.alloc (.cells cs e)) w.heap.size e cs.toList := by
  unfold Row
  simpa using heap_alloc_new w (.cells cs e)
theorem Row.own (h : Row w g e cur) {base size n cap : Nat} (hb : base ≤ g) (hn : n ≤ cap) (hm : cap ≤ maxLen) (hs : cur.length = cap * size) :
    w.ownsRow base e size (.slice (some ⟨g, 0, none⟩) n cap) n (cur.take (n * size)) := by
  refine ⟨?_, .inr ⟨g, cap, cur.toArray, rfl, hb, h, hn, hm, by simpa using hs, by simp⟩⟩
  rw [List.length_take, hs]
  exact Nat.min_eq_left (Nat.mul_le_mul_right _ hn)
theorem Row.of_own {base size n c : Nat} {xs : List Value} (h : w.ownsRow base e size (.slice (some ⟨g, 0, none⟩) n c) n xs) :
    ∃ cur, Row w g e cur ∧ base ≤ g ∧ n ≤ c ∧ c ≤ maxLen ∧ cur.length = c * size ∧ cur.take (n * size) = xs := by
  rcases h.2 with ⟨hv, _⟩ | ⟨g', cap, cur, hv, hb, hh, hn, hm, hs, ht⟩
  · cases hv
  · injection hv with h1 h2 h3
    injection h1 with h1
    injection h1 with h1
    subst h1 h3
    exact ⟨cur.toList, by unfold Row; simpa using hh, hb, hn, hm, by simpa using hs, ht⟩
theorem Row.setRow (h : Row w g e cur) (cs : List Value) : Row (w.setRow g cs.toArray) g e cs := setRow_heap w g _ _ e _ h
theorem grownBy_setRow (w : World) (g : Nat) (cs : Array Value) : w.grownBy (w.setRow g cs) (some g) :=
  ⟨rfl, rfl, rfl, by simp, fun k _ hk => setRow_other w g k cs (fun e => hk (by rw [e]))⟩
theorem grownBy_setCell (w : World) (g i : Nat) (u : Value) : w.grownBy (w.setCell ⟨g, i, none⟩ u) (some g) :=
  ⟨rfl, rfl, rfl, by simp [World.setCell], fun k _ hk => Below.heap_setCell w ⟨g, i, none⟩ u k (fun e => hk (by rw [e]))⟩
theorem Row.setCell (h : Row w g e cur) (i : Nat) (u : Value) : Row (w.setCell ⟨g, i, none⟩ u) g e (cur.set i u) := by
  unfold Row at h ⊢
  simp [World.setCell, Array.getElem?_modify, h]
end

section
variable {P : Program}

/-- append within the row: what is appended may lie in the same row. -/
theorem run_app_in (w : World) (t ty e : TypeId) (i : TypeInfo) (size : Nat) (ht : P.underlying t = some (.slice e)) (hi : P.info? e = some i) (hsize : i.size = size)
    (g n cap : Nat) (cur : List Value) (hg : Row w g e cur) (hc : cur.length = cap * size)
    (A : Option Addr) (m c : Nat) (news : List Value) (hl : news.length = m * size) (hr : At w A news) (h1 : ∀ u ∈ news, u.oneCell' = true) (hA : A = none → m = 0)
    (hroom : n + m ≤ cap) :
    (Builtin.append_ #[t, t] ty #[.slice (some ⟨g, 0, none⟩) n cap, .slice A m c]).run P w =
      .ok (.slice (some ⟨g, 0, none⟩) (n + m) cap) (w.setRow g (cur.take (n * size) ++ news ++ cur.drop (n * size + news.length)).toArray) := by
  have hfit : n * size + news.length ≤ cur.toArray.size := by
    rw [hl, ← Nat.add_mul, List.size_toArray, hc]
    exact Nat.mul_le_mul_right _ hroom
  rcases A with _ | a
  · obtain rfl := hA rfl
    have hn : news = [] := List.eq_nil_of_length_eq_zero (by simpa using hl)
    subst hn
    have hself : w.setRow g (cur.take (n * size) ++ [] ++ cur.drop (n * size + 0)).toArray = w := by
      simp only [List.append_nil, Nat.add_zero, List.take_append_drop]
      exact setRow_self w g _ e (0, 0) hg
    simp only [List.length_nil, hself]
    have hroom' : n ≤ cap := by omega
    simp [Builtin.append_, run_underlying ht, sizeOf, typeInfo, hi, Builtin.lenOf, Builtin.firstCells, hroom', storeCells]
  · have := run_append_room (P := P) w t ty e i ht hi g n cap cur.toArray hg a m c news (by rw [hsize]; exact hl) (hr.cells rfl) h1 hroom (by rw [hsize]; exact hfit)
    rw [this, hsize]

theorem step_app_in {ops : Array Oper} {o : Oper} {a : Act} {w : World} {K : Act → World → Prop} {Q : Exit → Act → World → Prop} {E : Prop}
    (hgd : o.guard = none) (s x : Operand) (t : TypeId) (hop : o.op = Op.call { callee := Callee.builtin Builtin.append, args := #[s, x], argTypes := #[t, t] })
    (e : TypeId) (z : Value) (size bytes : Nat) (ht : P.underlying t = some (.slice e)) (hi : (P.info? e).map (fun i => (i.zero, i.size, i.bytes)) = some (some z, size, bytes))
    (g n cap : Nat) (cur : List Value) (hg : Row w g e cur) (hc : cur.length = cap * size) (hs : a.eval s = .slice (some ⟨g, 0, none⟩) n cap)
    (A : Option Addr) (m c : Nat) (news : List Value) (hx : a.eval x = .slice A m c) (hl : news.length = m * size) (hr : At w A news) (h1 : ∀ u ∈ news, u.oneCell' = true) (hA : A = none → m = 0)
    (hroom : n + m ≤ cap)
    (hK : ∀ w1, Hid (Row w1 g e (cur.take (n * size) ++ news ++ cur.drop (n * size + news.length))) → w.grownBy w1 (some g) → K (a.put o.dst (.slice (some ⟨g, 0, none⟩) (n + m) cap)) w1) :
    if Region.wanted o (yielded ops a.tmps) = true then Oper.wp P o a w K Q else E := by
  have hw : Region.wanted o (yielded ops a.tmps) = true := by simp [Region.wanted, hgd]
  rw [if_pos hw]
  obtain ⟨i, hi1, _, hsize, _⟩ := info_parts hi
  have hrun := run_app_in (P := P) w t o.type e i size ht hi1 hsize g n cap cur hg hc A m c news hl hr h1 hA hroom
  unfold Oper.wp
  simp [execOp, hop, resolve, invoke, builtin, hs, hx, hrun, Result.andThen]
  have := hK _ (hg.setRow (cur.take (n * size) ++ news ++ cur.drop (n * size + news.length))) (grownBy_setRow w g _)
  simp only [List.append_assoc] at this ⊢
  exact this

/-- append onto a row of the call's own, as one step of a region that draws. -/
theorem step_app {ops : Array Oper} {o : Oper} {a : Act} {w : World} {K : Act → World → Prop} {Q : Exit → Act → World → Prop} {E : Prop} (hgd : o.guard = none) (s x : Operand) (t : TypeId)
    (ho : o.op = .call { callee := .builtin .append, args := #[s, x], argTypes := #[t, t] })
    (base : Nat) (e : TypeId) (z : Value) (size bytes : Nat) (ht : P.underlying t = some (.slice e)) (hi : (P.info? e).map (fun i => (i.zero, i.size, i.bytes)) = some (some z, size, bytes))
    (hzs : z.cells.size = size) (hsz : 0 < size)
    (v : Value) (n : Nat) (xs : List Value) (hs : a.eval s = v) (hown : w.ownsRow base e size v n xs)
    (A : Option Addr) (m c : Nat) (news : List Value) (hx : a.eval x = .slice A m c) (hl : news.length = m * size) (hr : At w A news) (h1 : ∀ u ∈ news, u.oneCell' = true)
    (h63 : n + m ≤ maxLen) (hbytes : (n + m) * bytes ≤ 140737488355328) (hbase : base ≤ w.heap.size)
    (hK : ∀ v' w', Hid (w'.ownsRow base e size v' (n + m) (xs ++ news)) → Hid (w.grownBy w' v.ownBlock) → Hid (v'.ownBlock = v.ownBlock ∨ v'.ownBlock = some w.heap.size) → K (a.put o.dst v') w') :
    if Region.wanted o (yielded ops a.tmps) = true then Oper.wp P o a w K Q else E := by
  have hw : Region.wanted o (yielded ops a.tmps) = true := by simp [Region.wanted, hgd]
  rw [if_pos hw]
  obtain ⟨i, hi1, hz, hsize, hby⟩ := info_parts hi
  obtain ⟨v', w', hrun, h2, h3, h4⟩ := run_app (P := P) w base t o.type e i z size bytes ht hi1 hz hsize hby hzs hsz v n xs hown A m c news hl hr h1 h63 hbytes hbase
  unfold Oper.wp execOp
  simp only [ho, resolve, invoke, builtin, Sem.run_bind, Sem.run_pure, Result.andThen_ok, List.map_toArray, List.map_cons, List.map_nil, hs, hx, hrun]
  exact hK v' w' h2 h3 h4

theorem length_zeroCells (z : Array Value) (n : Nat) : (Builtin.zeroCells z n).toList.length = n * z.size := by simp [Builtin.zeroCells]

theorem run_clear_row (w : World) (t e ty : TypeId) (z : Value) (ht : P.underlying t = some (.slice e)) (hv : ∀ w, (zeroValue e).run P w = .ok z w)
    (g off n c : Nat) (cur : List Value) (hg : Row w g e cur) (hn : 0 < n) (hone : ∀ u ∈ (Builtin.zeroCells z.cells n).toList, u.oneCell' = true) (hfit : off + n * z.cells.size ≤ cur.length) :
    (Builtin.clear_ #[t] ty #[.slice (some ⟨g, off, none⟩) n c]).run P w =
      .ok (.tuple #[]) (w.setRow g (cur.take off ++ (Builtin.zeroCells z.cells n).toList ++ cur.drop (off + n * z.cells.size)).toArray) := by
  have hst := run_storeCells_at P g off e (Builtin.zeroCells z.cells n).toList 0 cur.toArray w hg (by rw [length_zeroCells]; simpa using hfit) hone
  obtain ⟨k, rfl⟩ : ∃ k, n = k + 1 := ⟨n - 1, by omega⟩
  simp only [Nat.add_zero] at hst
  rw [length_zeroCells] at hst
  simp [Builtin.clear_, run_underlying ht, hv, hst]

theorem wpList_clear_row {w : World} {ops : Array Oper} {rest : List Oper} {o : Oper} {a : Act} {Q : Exit → Act → World → Prop} (hgd : o.guard = none) (x : Operand) (t : TypeId)
    (ho : o.op = .call { callee := .builtin .clear, args := #[x], argTypes := #[t] }) (e : TypeId) (z : Value) (ht : P.underlying t = some (.slice e)) (hv : ∀ w, (zeroValue e).run P w = .ok z w)
    (g off n c : Nat) (hx : a.eval x = .slice (some ⟨g, off, none⟩) n c) (cur : List Value) (hg : Row w g e cur) (hn : 0 < n) (hone : ∀ u ∈ (Builtin.zeroCells z.cells n).toList, u.oneCell' = true) (hfit : off + n * z.cells.size ≤ cur.length)
    (h : ∀ w1, Hid (Row w1 g e (cur.take off ++ (Builtin.zeroCells z.cells n).toList ++ cur.drop (off + n * z.cells.size))) → w.grownBy w1 (some g) → wpList P ops Q rest (a.put o.dst (.tuple #[])) w1) :
    wpList P ops Q (o :: rest) a w := by
  refine wpList_plain hgd fun _ hK => ?_
  have hrun := run_clear_row (P := P) w t e o.type z ht hv g off n c cur hg hn hone hfit
  unfold Oper.wp execOp
  simp only [ho, resolve, invoke, builtin, Sem.run_bind, Sem.run_pure, Result.andThen_ok, List.map_toArray, List.map_cons, List.map_nil, hx, hrun]
  exact hK _ _ (h _ (hg.setRow _) (grownBy_setRow w g _))
end

theorem zero_one (x : Value) (hx : x.cells = #[x]) (h1 : x.oneCell' = true) (n : Nat) : ∀ u ∈ (Builtin.zeroCells x.cells n).toList, u.oneCell' = true := by
  intro u hu
  rw [hx] at hu
  simp only [Builtin.zeroCells, Array.toList_map, List.mem_map] at hu
  obtain ⟨j, _, rfl⟩ := hu
  simp [Nat.mod_one, h1]

section
variable {P : Program}
/-- 'make([]T, n)': a new row of n zero values. -/
theorem wpList_mk {w : World} {ops : Array Oper} {rest : List Oper} {o : Oper} {a : Act} {Q : Exit → Act → World → Prop} (hgd : o.guard = none) (l c : Operand) (t : TypeId) (hop : o.op = Op.makeSlice t l c)
    (e : TypeId) (z : Value) (size bytes : Nat) (ht : P.underlying t = some (.slice e)) (hi : (P.info? e).map (fun i => (i.zero, i.size, i.bytes)) = some (some z, size, bytes))
    (n : Nat) (hl : a.eval l = .int .i64 n) (hc : a.eval c = .int .i64 n) (hb : bytes * n ≤ 281474976710656) (hm : n ≤ maxLen)
    (h : ∀ w1, Hid (Row w1 w.heap.size e (madeCells z.cells (n * size)).toList) → w.grownBy w1 none → Hid (w1.heap.size = w.heap.size + 1) → wpList P ops Q rest (a.put o.dst (.slice (some ⟨w.heap.size, 0, none⟩) n n)) w1) :
    wpList P ops Q (o :: rest) a w := by
  obtain ⟨i, hi1, hz, hsize, hby⟩ := info_parts hi
  refine wpList_plain hgd fun _ hK => ?_
  have h63' : (n : Int) ≤ 9223372036854775807 := by
    simp [maxLen] at hm
    omega
  have hb' : (i.bytes : Int) * (n : Int) ≤ 281474976710656 := by
    have h : ((i.bytes * n : Nat) : Int) ≤ 281474976710656 := by rw [hby]; omega
    rwa [Int.natCast_mul] at h
  have hr := run_make (P := P) w t e i z ht hi1 hz .i64 .i64 n n (by omega) (Int.le_refl _) hb' h63'
  simp only [Int.toNat_natCast, hsize] at hr
  unfold Oper.wp
  simp [execOp, hop, hl, hc, hr, Result.andThen]
  exact hK _ _ (h _ (Row.new w e _) (World.grownBy_alloc w _ none) (by show (w.alloc _).heap.size = _; simp))

/-- copy of a whole source into a row from its head on. -/
theorem wpList_cp {w : World} {ops : Array Oper} {rest : List Oper} {o : Oper} {a : Act} {Q : Exit → Act → World → Prop} (hgd : o.guard = none) (d s : Operand) (t : TypeId)
    (ho : o.op = .call { callee := .builtin .copy, args := #[d, s], argTypes := #[t, t] }) (e : TypeId) (z : Value) (size bytes : Nat) (ht : P.underlying t = some (.slice e)) (hi : (P.info? e).map (fun i => (i.zero, i.size, i.bytes)) = some (some z, size, bytes))
    (g n cap : Nat) (A : Option Addr) (m c : Nat) (hd : a.eval d = .slice (some ⟨g, 0, none⟩) n cap) (hs : a.eval s = .slice A m c) (cur news : List Value) (hg : Row w g e cur)
    (hr : At w A news) (hl : news.length = m * size) (hmn : m ≤ n) (hfit : news.length ≤ cur.length) (h1 : ∀ u ∈ news, u.oneCell' = true) (hA : A = none → m = 0)
    (h : ∀ w1, Hid (Row w1 g e (news ++ cur.drop news.length)) → w.grownBy w1 (some g) → Hid (w1.heap.size = w.heap.size) → wpList P ops Q rest (a.put o.dst (.int .i64 m)) w1) :
    wpList P ops Q (o :: rest) a w := by
  obtain ⟨i, hi1, hz, hsize, hby⟩ := info_parts hi
  refine wpList_plain hgd fun _ hK => ?_
  have hmin : Nat.min m n = m := Nat.min_eq_left hmn
  have hrun : (Builtin.copy_ #[t, t] o.type #[.slice (some ⟨g, 0, none⟩) n cap, .slice A m c]).run P w = .ok (.int .i64 m) (w.setRow g (news ++ cur.drop news.length).toArray) := by
    rcases A with _ | ad
    · obtain rfl := hA rfl
      have hn : news = [] := List.eq_nil_of_length_eq_zero (by simpa using hl)
      subst hn
      have hself : w.setRow g (([] : List Value) ++ cur.drop ([] : List Value).length).toArray = w := by
        simp only [List.length_nil, List.drop_zero, List.nil_append]
        exact setRow_self w g _ e (0, 0) hg
      rw [hself]
      simp [Builtin.copy_, run_underlying ht, Builtin.lenOf, Builtin.firstCells, sizeOf, typeInfo, hi1, storeCells, goInt]
    · have hload := run_loadCells_list (P := P) w ad news (hr.cells rfl)
      have hst := run_storeCells_at P g 0 e news 0 cur.toArray w hg (by simpa using hfit) h1
      simp only [Nat.zero_add, List.take_zero, List.nil_append] at hst
      rw [hl] at hload
      simp [Builtin.copy_, run_underlying ht, Builtin.lenOf, Builtin.firstCells, sizeOf, typeInfo, hi1, hsize, hmin, hload, hst, goInt]
  unfold Oper.wp execOp
  simp only [ho, resolve, invoke, builtin, Sem.run_bind, Sem.run_pure, Result.andThen_ok, List.map_toArray, List.map_cons, List.map_nil, hd, hs, hrun]
  exact hK _ _ (h _ (hg.setRow _) (grownBy_setRow w g _) (by show (w.setRow _ _).heap.size = _; simp))
end

/-- What slices.Delete leaves of a row of n elements of s cells, without its i-th element. -/
theorem del_row {cur xs : List Value} {cap n i s : Nat} (hc : cur.length = cap * s) (hx : xs.length = n * s) (hnc : n ≤ cap) (ht : cur.take (n * s) = xs) (hi : i < n) :
    (cur.take (i * s) ++ xs.drop ((i + 1) * s) ++ cur.drop (i * s + (xs.drop ((i + 1) * s)).length)).length = cap * s ∧
      (cur.take (i * s) ++ xs.drop ((i + 1) * s) ++ cur.drop (i * s + (xs.drop ((i + 1) * s)).length)).take ((n - 1) * s) = xs.take (i * s) ++ xs.drop ((i + 1) * s) := by
  have h1 : i * s ≤ n * s := Nat.mul_le_mul_right _ (by omega)
  have h2 : (i + 1) * s ≤ n * s := Nat.mul_le_mul_right _ (by omega)
  have h3 : n * s ≤ cap * s := Nat.mul_le_mul_right _ hnc
  have h4 : (i + 1) * s = i * s + s := by rw [Nat.add_mul, Nat.one_mul]
  have h5 : (n - 1) * s + s = n * s := by
    obtain ⟨m, rfl⟩ : ∃ m, n = m + 1 := ⟨n - 1, by omega⟩
    rw [Nat.add_sub_cancel, Nat.add_mul, Nat.one_mul]
  have hd : (xs.drop ((i + 1) * s)).length = n * s - (i + 1) * s := by rw [List.length_drop, hx]
  have ht' : cur.take (i * s) = xs.take (i * s) := by rw [← ht, List.take_take, Nat.min_eq_left h1]
  constructor
  · simp only [List.length_append, List.length_take, List.length_drop, hc, hx]
    omega
  · rw [List.take_append_of_le_length (by simp only [List.length_append, List.length_take, List.length_drop, hc, hx]; omega)]
    rw [List.take_of_length_le (by simp only [List.length_append, List.length_take, List.length_drop, hc, hx]; omega), ht']

end Go.Proofs.Ythpgaecloecflaa
