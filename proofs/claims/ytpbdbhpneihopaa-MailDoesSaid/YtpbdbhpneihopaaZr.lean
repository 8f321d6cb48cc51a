/- mail.Combine, in whatever order its map is read. -/
import Derived.Test.YtpbdbhpneihopaaZq
import Derived.Test.YtpbdbhpneihopaaNe
import Derived.Test.YtpbdbhpneihopaaKup
import Derived.Test.YtpbdbhpneihopaaSm4
namespace Go.Proofs.Ytpbdbhpneihopaa
set_option linter.unusedSimpArgs false
set_option linter.unusedVariables false
set_option maxHeartbeats 4000000
set_option maxRecDepth 100000
def cbS (l : List Ml) (i : Nat) : St := ⟨[(3, .mref 0), (12, .sl 4 (mls l)), (13, .int .i64 l.length), (14, .int .i64 (i : Int))], [.mp (kcs (kyL (l.take i))) (vcs (l.take i))], 0, [(0, 1, [3, 12, 13, 14], [(3, 0)])]⟩
theorem cb_step {l : List Ml} (hl : l.length ≤ 100000) {i : Nat} (hi : i < l.length) : Ev tab d1124_b0 (cbS l i) (fun x st => x = .normal ∧ st = cbS l (i + 1)) := by
  have L := mls_len l
  have Ld : l.length * 4 / 4 = l.length := by omega
  have e1 := mls_at hi
  have et : l.take (i + 1) = l.take i ++ [l.getD i default] := take_snoc default hi
  unfold cbS
  rw [et]
  generalize l.take i = ms at *
  generalize l.getD i default = m at *
  by_cases h : kyM m ∈ kyL ms
  · obtain ⟨j, hj, hk, hg⟩ := kget_kin (kyL_nodup ms) h
    have hv := vcs_at hk
    simp only [kyM] at hg
    by_cases hd : m.d < lD ms (kyM m)
    · have hi1 := vcs_idlt' 1 (ms ++ [m])
      rw [vcs_less h hk hd] at hi1
      rw [kyL_snoc, if_pos h, vcs_less h hk hd]
      simp (config := { maxSteps := 1000000 }) (disch := omega) only [go_sem, ↓reduceIte, Nat.reduceEqDiff, Nat.reduceAdd, Int.reduceToNat, reduceCtorEq, Nat.reduceLeDiff, Nat.reduceSub, Nat.reduceDiv, Nat.reduceMod, Nat.reduceMul, d1124_b0, L, Ld, e1, mlC, hg, hv, hd, hi1]
    · rw [kyL_snoc, if_pos h, vcs_keep h hd]
      simp (config := { maxSteps := 1000000 }) (disch := omega) only [go_sem, ↓reduceIte, Nat.reduceEqDiff, Nat.reduceAdd, Int.reduceToNat, reduceCtorEq, Nat.reduceLeDiff, Nat.reduceSub, Nat.reduceDiv, Nat.reduceMod, Nat.reduceMul, d1124_b0, L, Ld, e1, mlC, hg, hv, hd]
  · have hg := kget_kout h
    simp only [kyM] at hg
    rw [kyL_snoc, if_neg h, vcs_new h]
    simp (config := { maxSteps := 1000000 }) (disch := omega) only [go_sem, ↓reduceIte, Nat.reduceEqDiff, Nat.reduceAdd, Int.reduceToNat, reduceCtorEq, Nat.reduceLeDiff, Nat.reduceSub, Nat.reduceDiv, Nat.reduceMod, Nat.reduceMul, d1124_b0, L, Ld, e1, mlC, hg]
    rw [← kcs_snoc]
    rfl
def tabN : Nat → Option Entry := fun k => if k = 1124 then some (.fn d1124) else tab k
theorem u1124 : tabN 1124 = some (.fn d1124) := rfl
theorem tabN_le : TLe tab tabN := by
  intro k e h
  unfold tabN
  split
  · rename_i hk; subst hk; rw [nd1124] at h; cases h
  · exact h
theorem upN {k : Nat} {as : List AV} {hps : List Blk} {r : AV × List Blk} (h : runP tab k as hps = some r) : runP tabN k as hps = some r := runP_up tabN_le h
section
variable {P : Program}
def cbM : List Mark := [(1, 3, [8, 40], [(8, 2), (40, 1)]), (0, 1, [3, 12, 13, 14], [(3, 0)])]
abbrev ci (l : List Ml) : Coe Ky Int := ⟨lD l⟩
def cbR (l : List Ml) (seen : List Nat) : St := ⟨[(8, .own 4 2), (40, .ref 1 0)], [.mp (kcs (kyL l)) (vcs l), .it 0 (kyL l).length seen, .row false (@mfs (ci l) (seen.map fun i => (kyL l).getD i default))], 0, cbM⟩
theorem ex_gst {o : Option St} {R : St → Prop} (h : gst o R) : ∃ st2, o = some st2 ∧ R st2 := by
  cases o with
  | none => exact h.elim
  | some st => exact ⟨st, rfl, h⟩
theorem cb_loop (G : Good P fid tabN) {l : List Ml} (hl : l.length ≤ 60000) :
    SayS P fid (.loop d1124_b1) (cbR l []) (fun e st => e = .exit 2 ∧ ∃ seen, (seen.map fun i => (kyL l).getD i default).Perm (kyL l) ∧ ∃ env, lk env 8 = .own 4 2 ∧ st = ⟨env, (cbR l seen).hp, 0, cbM⟩) := by
  have hkl := kyL_len l
  refine S_loop (fun k st => ∃ seen : List Nat, seen.Nodup ∧ (∀ i ∈ seen, i < (kyL l).length) ∧ k = (kyL l).length - seen.length ∧ st = cbR l seen) ?_ ⟨[], List.nodup_nil, by simp, rfl, rfl⟩
  rintro k st ⟨seen, hnd, hin, rfl, rfl⟩
  have hsl : seen.length ≤ (kyL l).length := by simpa using hnd.length_le_of_subset (l₂ := List.range (kyL l).length) fun i hi => List.mem_range.2 (hin i hi)
  unfold d1124_b1 cbR
  refine S_after (S_seq (S_ops (O_cons (P_next (id := 1) (mid := 0) (n := (kyL l).length) (seen := seen) (ks := kcs (kyL l)) (vs := vcs l) rfl rfl rfl (kcs_len _) ?_ ?_))))
  · intro hall
    have hperm : (seen.map fun i => (kyL l).getD i default).Perm (kyL l) := by
      have h1 : seen.Perm (List.range (kyL l).length) := by
        refine (List.perm_ext_iff_of_nodup hnd List.nodup_range).2 fun i => ?_
        rw [List.mem_range]
        exact ⟨hin i, hall i⟩
      have h2 : (List.range (kyL l).length).map (fun i => (kyL l).getD i default) = kyL l := by
        apply List.ext_getElem (by simp)
        intro i h1 h2
        simp [List.getD_eq_getElem?_getD, List.getElem?_eq_getElem h2]
      exact (h1.map fun i => (kyL l).getD i default).trans (by rw [h2])
    refine O_det G ?_
    simp (config := { maxSteps := 1000000 }) (disch := omega) only [go_sem, ↓reduceIte, Nat.reduceEqDiff, Nat.reduceAdd, Int.reduceToNat, reduceCtorEq, Nat.reduceLeDiff, Nat.reduceSub, Nat.reduceDiv, Nat.reduceMod, Nat.reduceMul, St.put]
    refine S_det G ?_
    simp (config := { maxSteps := 1000000 }) (disch := omega) only [go_sem, ↓reduceIte, Nat.reduceEqDiff, Nat.reduceAdd, Int.reduceToNat, reduceCtorEq, Nat.reduceLeDiff, Nat.reduceSub, Nat.reduceDiv, Nat.reduceMod, Nat.reduceMul]
    exact ⟨seen, hperm, _, rfl, rfl⟩
  · intro i hi his
    refine O_det G ?_
    simp (config := { maxSteps := 1000000 }) (disch := omega) only [go_sem, ↓reduceIte, Nat.reduceEqDiff, Nat.reduceAdd, Int.reduceToNat, reduceCtorEq, Nat.reduceLeDiff, Nat.reduceSub, Nat.reduceDiv, Nat.reduceMod, Nat.reduceMul, St.put]
    have e3 : (kcs (kyL l))[i]? = some (.agg [.int .i64 ((kyL l).getD i default).s, .int .i64 ((kyL l).getD i default).d, .int .i64 ((kyL l).getD i default).v]) := by simp [kcs, List.getD_eq_getElem?_getD, List.getElem?_eq_getElem hi]
    have hy : (vcs l)[i]? = some (.int .i64 (lD l ((kyL l).getD i default))) := vcs_at (by rw [List.getD_eq_getElem?_getD, List.getElem?_eq_getElem hi]; rfl)
    have hlast : (seen ++ [i]).getLast? = some i := by simp
    have Lm := @mfs_len (ci l) (seen.map fun i => (kyL l).getD i default)
    have Lk : (seen.map fun i => (kyL l).getD i default).length = seen.length := by simp
    have em : @mfs (ci l) ((seen ++ [i]).map fun i => (kyL l).getD i default) = @mfs (ci l) (seen.map fun i => (kyL l).getD i default) ++ [.int .i64 ((kyL l).getD i default).s, .int .i64 ((kyL l).getD i default).d, .int .i64 ((kyL l).getD i default).v, .int .i64 (lD l ((kyL l).getD i default))] := by
      rw [List.map_append, List.map_cons, List.map_nil, ← @mfs_app (ci l)]; rfl
    have hnd2 : (seen ++ [i]).Nodup := by
      rw [List.nodup_append]
      exact ⟨hnd, by simp, fun a ha c hc e => his (by rw [List.mem_singleton] at hc; rw [← hc, ← e]; exact ha)⟩
    have hlt2 : ∀ j ∈ seen ++ [i], j < (kyL l).length := fun j hj => by
      rcases List.mem_append.1 hj with h | h
      · exact hin j h
      · rw [List.mem_singleton] at h; omega
    have hsl2 : (seen ++ [i]).length ≤ (kyL l).length := by simpa using hnd2.length_le_of_subset (l₂ := List.range (kyL l).length) fun j hj => List.mem_range.2 (hlt2 j hj)
    have hs1 : (seen ++ [i]).length = seen.length + 1 := by simp
    refine S_det G ?_
    simp (config := { maxSteps := 1000000 }) (disch := omega) only [go_sem, ↓reduceIte, Nat.reduceEqDiff, Nat.reduceAdd, Int.reduceToNat, reduceCtorEq, Nat.reduceLeDiff, Nat.reduceSub, Nat.reduceDiv, Nat.reduceMod, Nat.reduceMul, e3, hlast, hy, Lm, Lk, kcs_len]
    refine ex_gst ?_
    unfold cbM
    simp (config := { maxSteps := 1000000 }) (disch := omega) only [go_sem, ↓reduceIte, Nat.reduceEqDiff, Nat.reduceAdd, Int.reduceToNat, reduceCtorEq, Nat.reduceLeDiff, Nat.reduceSub, Nat.reduceDiv, Nat.reduceMod, Nat.reduceMul]
    refine ⟨(kyL l).length - (seen ++ [i]).length, by omega, seen ++ [i], hnd2, hlt2, rfl, ?_⟩
    rw [em]
theorem sorted_congrK {α : Type} {lt : α → α → Bool} (O : Ordr lt) {a b : List α} (h : a.Perm b) : sorted lt a = sorted lt b := by
  refine List.Perm.eq_of_pairwise (le := fun x y => lt y x = false) (fun x y _ _ h1 h2 => O.tri x y h2 h1) (sorted_srtd O a) (sorted_srtd O b) (((sorted_perm a).trans h).trans (sorted_perm b).symm)
theorem combine_fn (G : Good P fid tabN) {l : List Ml} (hl : l.length ≤ 60000) : SayC P fid 1124 [.sl 4 (mls l)] [] (fun v hp' => fin 0 hp' v = some (.vec 4 (@mfs (ci l) (sorted ltT (kyL l))), [])) := by
  have L := mls_len l
  have Ld : l.length * 4 / 4 = l.length := by omega
  have hkl := kyL_len l
  refine C_fn G u1124 ?_
  unfold d1124
  refine S_seq (SayS.mono (S_det G (Q := fun x st' => x = .normal ∧ st' = ⟨[(2, .nils), (0, .sl 4 (mls l))], [], 0, []⟩) ?_) ?_)
  · simp (config := { maxSteps := 1000000 }) (disch := omega) only [go_sem, ↓reduceIte, Nat.reduceEqDiff, Nat.reduceAdd, Int.reduceToNat, reduceCtorEq, Nat.reduceLeDiff, Nat.reduceSub, Nat.reduceDiv, Nat.reduceMod, Nat.reduceMul]
  rintro x st ⟨rfl, rfl⟩
  refine S_seq (SayS.mono (S_det G (Q := fun x st' => x = .normal ∧ st' = ⟨[(3, .mref 0), (11, .mref 0), (2, .nils), (0, .sl 4 (mls l))], [.mp [] []], 0, []⟩) ?_) ?_)
  · simp (config := { maxSteps := 1000000 }) (disch := omega) only [go_sem, ↓reduceIte, Nat.reduceEqDiff, Nat.reduceAdd, Int.reduceToNat, reduceCtorEq, Nat.reduceLeDiff, Nat.reduceSub, Nat.reduceDiv, Nat.reduceMod, Nat.reduceMul]
  rintro x st ⟨rfl, rfl⟩
  refine S_seq (SayS.mono (S_det G (Q := fun x st' => x = .normal ∧ lk st'.env 3 = .mref 0 ∧ st'.hp = [.mp (kcs (kyL l)) (vcs l)] ∧ st'.lo = 0 ∧ st'.mks = [(0, 1, [3, 12, 13, 14], [(3, 0)])]) ?_) ?_)
  · simp (config := { maxSteps := 1000000 }) (disch := omega) only [go_sem, ↓reduceIte, Nat.reduceEqDiff, Nat.reduceAdd, Int.reduceToNat, reduceCtorEq, Nat.reduceLeDiff, Nat.reduceSub, Nat.reduceDiv, Nat.reduceMod, Nat.reduceMul, L, Ld]
    refine Ev_loop0 (fun i => cbS l i) l.length rfl (fun i hi => ?_) ?_
    · obtain ⟨r, h1, h2⟩ := cb_step (by omega) hi
      exact ⟨r, run_up tabN_le h1, h2⟩
    · unfold cbS
      rw [List.take_length]
      simp (config := { maxSteps := 1000000 }) (disch := omega) only [go_sem, ↓reduceIte, Nat.reduceEqDiff, Nat.reduceAdd, Int.reduceToNat, reduceCtorEq, Nat.reduceLeDiff, Nat.reduceSub, Nat.reduceDiv, Nat.reduceMod, Nat.reduceMul, d1124_b0, L, Ld]
  rintro x ⟨env, hp, lo, mks⟩ ⟨rfl, h1, h2, h3, h4⟩
  simp only at h1 h2 h3 h4
  subst h2 h3 h4
  refine S_ghost (st1 := ⟨[(3, .mref 0)], [.mp (kcs (kyL l)) (vcs l)], 0, [(0, 1, [3, 12, 13, 14], [(3, 0)])]⟩) (by simp [ghost, keepEnv, h1]) ?_
  refine S_seq (SayS.mono (S_det G (Q := fun x st' => x = .normal ∧ st' = ⟨[(8, .nils), (3, .mref 0)], [.mp (kcs (kyL l)) (vcs l)], 0, [(0, 1, [3, 12, 13, 14], [(3, 0)])]⟩) ?_) ?_)
  · simp (config := { maxSteps := 1000000 }) (disch := omega) only [go_sem, ↓reduceIte, Nat.reduceEqDiff, Nat.reduceAdd, Int.reduceToNat, reduceCtorEq, Nat.reduceLeDiff, Nat.reduceSub, Nat.reduceDiv, Nat.reduceMod, Nat.reduceMul]
  rintro x st ⟨rfl, rfl⟩
  have Lk := kcs_len (kyL l)
  refine S_seq (S_seq (SayS.mono (S_det G (Q := fun x st' => x = .normal ∧ st' = ⟨[(40, .ref 1 0), (39, .mref 0), (8, .nils), (3, .mref 0)], [.mp (kcs (kyL l)) (vcs l), .it 0 (kyL l).length []], 0, [(0, 1, [3, 12, 13, 14], [(3, 0)])]⟩) ?_) ?_))
  · simp (config := { maxSteps := 1000000 }) (disch := omega) only [go_sem, ↓reduceIte, Nat.reduceEqDiff, Nat.reduceAdd, Int.reduceToNat, reduceCtorEq, Nat.reduceLeDiff, Nat.reduceSub, Nat.reduceDiv, Nat.reduceMod, Nat.reduceMul, Lk]
  rintro x st ⟨rfl, rfl⟩
  refine S_block (S_ghost (st1 := ⟨[(8, .own 4 2), (40, .ref 1 0), (39, .mref 0), (8, .nils), (3, .mref 0)], [.mp (kcs (kyL l)) (vcs l), .it 0 (kyL l).length [], .row false []], 0, [(0, 1, [3, 12, 13, 14], [(3, 0)])]⟩) (by simp [ghost, lk]) (S_ghost (st1 := cbR l []) rfl (SayS.mono (cb_loop G hl) ?_)))
  rintro x st ⟨rfl, seen, hperm, env, hl8, rfl⟩
  have gs := upN (@msf_run (ci l) (seen.map fun i => (kyL l).getD i default) (by rw [hperm.length_eq]; omega))
  simp only [List.toList_toArray] at gs
  rw [sorted_congrK ordrT hperm] at gs
  refine S_ghost (st1 := ⟨[(8, .own 4 2)], (cbR l seen).hp, 0, cbM⟩) (by simp [ghost, keepEnv, hl8]) (SayS.mono (S_det G (Q := fun x st' => x = .ret ∧ lk st'.env 2 = .own 4 2 ∧ st'.hp = [.mp (kcs (kyL l)) (vcs l), .it 0 (kyL l).length seen, .row false (@mfs (ci l) (sorted ltT (kyL l)))]) ?_) ?_)
  · unfold cbR
    simp (config := { maxSteps := 1000000 }) (disch := omega) only [go_sem, ↓reduceIte, Nat.reduceEqDiff, Nat.reduceAdd, Int.reduceToNat, reduceCtorEq, Nat.reduceLeDiff, Nat.reduceSub, Nat.reduceDiv, Nat.reduceMod, Nat.reduceMul, gs]
  rintro x ⟨env', hp', lo, mks⟩ ⟨rfl, h1', h2'⟩
  simp only at h1' h2'
  subst h2'
  refine ⟨nofun, .own 4 2, by simp [results, rvs, rvv, h1', nz, nz1, tupv], ?_⟩
  simp only [rsIds, rvv, h1', immIds, List.append_nil]
  have hn := @mfs_noid' (ci l) (sorted ltT (kyL l))
  have hd := @mfs_idlt' (ci l) 0 (sorted ltT (kyL l))
  simp [still, fin, tidy, pk, noidL, hn, idlt, AV.allv, pidlt, hd]
end
end Go.Proofs.Ytpbdbhpneihopaa
