import Derived.Test.YtimiedahbmfkhaaT2
namespace Go.Proofs.Ytimiedahbmfkhaa
open Go.RowKit

theorem following_any (A : Option Addr) (n c : Nat) (w : World) :
    Calls Try.prog 25 #[.slice A n c] w fun e w' => ∃ gn gp, e = .returned (.func (.func 31) #[] #[.pointer (some ⟨gn, 0, none⟩), .pointer (some ⟨gp, 0, none⟩)]) ∧
      Row w' gn 3 [.int .i64 0] ∧ Row w' gp 22 [.slice A n c] ∧ Below w.heap.size w w' ∧ w.heap.size ≤ gn ∧ w.heap.size ≤ gp := by
  have hmf : ∀ (fn : Fn) (first cap : Array Value) (w : World), (Instr.makeFunc fn first cap).run Try.prog w = .ok (.func fn first cap) w := fun _ _ _ _ => rfl
  go_enter Try.func25, Try.ntmps25
  go_wp2
  go_ret
  refine ⟨w.heap.size + 1, w.heap.size, rfl, ?_, ?_, ((Below.refl _ _).alloc (Nat.le_refl _) _).alloc (by simp) _, by omega, Nat.le_refl _⟩
  · have := Row.new (w.alloc (Obj.cells #[.slice A n c] 22)) 3 #[.int .i64 0]
    simpa using this
  · exact (Row.new w 22 #[.slice A n c]).alloc _

def upto (n : Nat) : List Int := List.map (fun i : Nat => (i : Int)) (List.range n)

theorem upto_succ (n : Nat) : upto (n + 1) = upto n ++ [(n : Int)] := by simp [upto, List.range_succ]
theorem upto_length (n : Nat) : (upto n).length = n := by simp [upto]

set_option maxHeartbeats 1000000 in
theorem order_ok (n : Nat) (PA : Option Addr) (pc : Nat) (ps : List Int) (w : World) (hn : n ≤ 1000)
    (hp : At w PA (ints ps)) (hpl : ps.length ≤ 9223372036854775807) (hpw : ∀ p ∈ ps, i64 p) (hPA : ∀ a, PA = some a → 0 < ps.length → a.block < w.heap.size) :
    Calls Try.prog 12 #[.int .i64 n, .slice PA ps.length pc] w fun e w' =>
      ∃ v', e = .returned (.tuple #[v', .int .i64 0]) ∧ w'.ownsRow w.heap.size 3 1 v' n (ints (orderedL (upto n) ps)) ∧ Below w.heap.size w w' := by
  go_enter Try.func12, Try.ntmps12
  go_wp2
  go_loopw [6, 15] (fun v i wr => ∃ k : Nat, k ≤ n ∧ i = .int .i64 k ∧ wr.ownsRow w.heap.size 3 1 v k (ints (upto k)) ∧ Below w.heap.size w wr) (fun _ i _ => n - (intOf i).toNat)
  case atStart => exact ⟨0, Nat.zero_le _, rfl, World.ownsRow_nil _ _ _ _, Below.refl _ _⟩
  case round =>
    obtain ⟨k, hk, rfl, hown, hB⟩ := hrel
    have hsz := hB.size
    by_cases hlt : k < n
    · go_wp2_with (at_builtin; (refine wpList_app _ rfl (.tmp 18) (.tmp 20) 22 rfl w.heap.size 3 (.int .i64 0) 1 8 Try.underlying22 info_int rfl (by decide) u6 k (ints (upto k)) rfl (hown.alloc _) (some ⟨wr.heap.size, 0, none⟩) 1 1 [.int .i64 k] rfl rfl (At.one _ _ _) (by simp [Value.oneCell']) (by simp only [maxLen]; omega) (by omega) (by simp; omega) ?_); intro v5 w5 hown5 hg5 hv5)
      go_roundw
      case rel => exact ⟨k + 1, by omega, by go_num, by rw [upto_succ, ints_append]; simpa [ints] using hown5, (hB.alloc (by omega) _).grown hg5 (by simp; omega) (by intro g hg; exact (hown.lt g hg).1)⟩
      case measure => simp [intOf]; omega
    · have hkn : k = n := by omega
      subst hkn
      obtain ⟨A, c, rfl⟩ := own_shape hown
      go_wp2_with fail
      refine (following_any PA ps.length pc wr).mono ?_
      rintro e w3 ⟨gn, gp, rfl, hn3, hp3, hB3, hgn, hgp⟩
      have hs3 := hB3.size
      have ha3 := (At.of_own hown).below hB3
      have hpp := (hp.under (by simpa using hPA) hB).below hB3
      have Hl := Lib.hid (upto_length k)
      go_wp2_with fail
      refine (show Calls Try.prog 24 #[.slice A k c, _] w3 _ from by
        have := ordered_int A c (upto k) PA pc ps gn gp w.heap.size w3 ha3 (by rw [Hl.out]; omega) hpp hpl hpw hn3 hp3 hPA (by omega) (by omega)
        rw [Hl.out] at this
        exact this).mono ?_
      rintro e w4 ⟨v', rfl, hown4, hB4⟩
      go_wp2
      go_ret2
      exact ⟨_, rfl, own_mono hown4 (by omega), (hB.trans (hB3.mono (by omega))).trans hB4⟩

set_option maxHeartbeats 400000 in
theorem order_bad (n : Int) (v : Value) (w : World) (hn : n < 0 ∨ 1000 < n) :
    Calls Try.prog 12 #[.int .i64 n, v] w fun e w' => e = .returned (.tuple #[.slice none 0 0, .int .i64 1]) ∧ w = w' := by
  by_cases h : n < 0
  · go_enter Try.func12, Try.ntmps12
    go_wp2
    go_ret2
    exact ⟨rfl, rfl⟩
  · have h2 : 1000 < n := by omega
    have h3 : 0 ≤ n := by omega
    clear hn h
    go_enter Try.func12, Try.ntmps12
    go_wp2
    go_ret2
    exact ⟨rfl, rfl⟩

end Go.Proofs.Ytimiedahbmfkhaa
