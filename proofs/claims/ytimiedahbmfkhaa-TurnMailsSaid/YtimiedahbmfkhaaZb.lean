/- Layer 17: numbers in order. -/
import Derived.Test.YtimiedahbmfkhaaZa
import Derived.Test.YtimiedahbmfkhaaHu
namespace Go.Proofs.Ytimiedahbmfkhaa
set_option linter.unusedSimpArgs false
set_option linter.unusedVariables false
set_option maxHeartbeats 4000000
set_option maxRecDepth 100000
def whH (lo : Nat) (s : Nat) (env : List (Nat × AV)) (mks : List Mark) (hp : List Blk) (sz id o n : Nat) : Option Blk → Option St
  | some (.row false cs) => if o = 0 ∧ n * sz ≤ cs.length then some ⟨(s, .own sz hp.length) :: env, hp.set id .dead ++ [.row false (cs.take (n * sz))], lo, mks⟩ else none
  | _ => none
def whA (lo : Nat) (s : Nat) (env : List (Nat × AV)) (mks : List Mark) (hp : List Blk) : AV → Option St
  | .osl sz id o n => whH lo s env mks hp sz id o n hp[id]?
  | _ => some ⟨env, hp, lo, mks⟩
theorem ghost_whole (s : Nat) (env : List (Nat × AV)) (hp : List Blk) (lo mks) : ghost (.whole s) ⟨env, hp, lo, mks⟩ = whA lo s env mks hp (lk env s) := by
  cases h : lk env s with
  | osl sz id o n =>
    simp only [ghost, h, whA, whH]
    cases h2 : hp[id]? with
    | none => rfl
    | some b => cases b with
      | row fr cs => cases fr <;> rfl
      | _ => rfl
  | _ => simp only [ghost, h, whA]
theorem whA_osl (lo s : Nat) (env : List (Nat × AV)) (mks : List Mark) (hp : List Blk) (sz id o n : Nat) : whA lo s env mks hp (.osl sz id o n) = whH lo s env mks hp sz id o n hp[id]? := rfl
theorem whH_row {lo : Nat} {s : Nat} {env : List (Nat × AV)} {mks : List Mark} {hp : List Blk} {sz id n : Nat} {cs : List AV} (h1 : n * sz ≤ cs.length) : whH lo s env mks hp sz id 0 n (some (.row false cs)) = some ⟨(s, .own sz hp.length) :: env, hp.set id .dead ++ [.row false (cs.take (n * sz))], lo, mks⟩ := by
  simp only [whH]
  rw [if_pos ⟨trivial, h1⟩]
def ordS (l p : List Int) (i : Nat) : St := ⟨[(1, .clo 1131 [] [.ref 1 0, .ref 2 0]), (5, .own 1 3), (6, .own 1 4)], [.row false (ints l), .row false [.int .i64 (i : Int)], .row false [.sl 1 (ints p)], .row false (ints (tst p l i).1), .row false (ints (tst p l i).2)], 3, [(0, 5, [1, 5, 6], [(5, 3), (6, 4)])]⟩
theorem ord_step {l p : List Int} (hl : l.length ≤ 1000) (hp : p.length ≤ 1000000) (hpi : ∀ x ∈ p, I64 x) {i : Nat} (hi : i < l.length) (hk : i < p.length) : Ev tab d1125_b0 (ordS l p i) (fun x st => x = .normal ∧ st = ordS l p (i + 1)) := by
  have h1 := (tst_len (p := p) (l := l) (i := i) (by omega)).1
  have h2 := (tst_len (p := p) (l := l) (i := i) (by omega)).2
  have hn : 0 < (tst p l i).1.length := by omega
  obtain ⟨h3, h4⟩ := tst_at (p := p) (i := i) hn
  have g1 := nxz_run hk hp
  have hpx : I64 (p.getD i 0) := hpi _ (getD_mem (d := 0) hk)
  have g2 := pick_run (n := ((tst p l i).1.length : Int)) (p := p.getD i 0) ⟨by omega, by omega⟩ hpx
  have e1 : pckI ((tst p l i).1.length : Int) (p.getD i 0) = (((p.getD i 0 % ((tst p l i).1.length : Int)).toNat : Nat) : Int) := by rw [pckI, if_neg (by omega), h4]
  rw [e1] at g2
  have g3 := deli_run h3 (by omega)
  have h5 := delN_len h3
  have h6 := delN_take h3
  simp only [ordS, tst]
  generalize (p.getD i 0 % ((tst p l i).1.length : Int)).toNat = k at *
  generalize (tst p l i).1 = a at *
  generalize (tst p l i).2 = b at *
  have c1 : (if ([1] : List Nat).contains 2 = true then [1] else [2, 1]).reverse = [1, 2] := rfl
  have w1 : (a.length - 1) * 1 ≤ (ints (delN a k)).length := by rw [ints_length, h5]; omega
  have e4 : a.getD k default = a.getD k 0 := rfl
  rw [e4]
  simp (disch := first | exact w1 | omega) only [go_sem, ↓reduceIte, Nat.reduceEqDiff, Nat.reduceAdd, Int.reduceToNat, reduceCtorEq, Nat.reduceLeDiff, Nat.reduceSub, Nat.reduceDiv, Nat.reduceMod, Nat.reduceMul, d1125_b0, c1, g1, g2, g3, h5, h6, ghost_whole, whA_osl, whH_row]
end Go.Proofs.Ytimiedahbmfkhaa
