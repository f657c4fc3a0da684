/- law 8: do; packetboatref08.Ints. -/
import Derived.Test.YtahichieakdbnaaEd
namespace Go.Proofs.Ytahichieakdbnaa
open Go.ChangeShapes Go.WideShapes Go.ChangeAt Go.RowKit Go.Maps Go.Deep
set_option linter.unusedVariables false
set_option linter.unusedSimpArgs false

theorem doP0 (room : Nat) (d : Pd) (a : DAct) (h : a.k = 0) : doP room d a = appendP room d a.x a.bs := if_pos h
theorem doP1 (room : Nat) (d : Pd) (a : DAct) (h : a.k = 1) : doP room d a = syncP d a.x := by unfold doP; rw [if_neg (by omega), if_pos h]
theorem doP2 (room : Nat) (d : Pd) (a : DAct) (h : a.k = 2) : doP room d a = cutP d a.x a.n := by unfold doP; rw [if_neg (by omega), if_neg (by omega), if_pos h]
theorem doP3 (room : Nat) (d : Pd) (a : DAct) (h : a.k = 3) : doP room d a = (fuseP d a.n, 0) := by unfold doP; rw [if_neg (by omega), if_neg (by omega), if_neg (by omega), if_pos h]
theorem doP4 (room : Nat) (d : Pd) (a : DAct) (h : a.k = 4) : doP room d a = (crashP a.ks d, 0) := by unfold doP; rw [if_neg (by omega), if_neg (by omega), if_neg (by omega), if_neg (by omega), if_pos h]
theorem doPn (room : Nat) (d : Pd) (a : DAct) (h0 : a.k ≠ 0) (h1 : a.k ≠ 1) (h2 : a.k ≠ 2) (h3 : a.k ≠ 3) (h4 : a.k ≠ 4) : doP room d a = (d, 0) := by unfold doP; rw [if_neg h0, if_neg h1, if_neg h2, if_neg h3, if_neg h4]
set_option maxHeartbeats 4000000 in
set_option maxRecDepth 100000 in
theorem do8_any (w : World) (g room : Nat) (vs : List Value) (d : Pd) (a : DAct) (Ab Ak : Option Addr) (cb ck nb nk B : Nat) (h : DM w g room vs d) (hok : OkP room d) (hnb : a.bs.length = nb) (hnk : a.ks.length = nk)
    (hr : Rd w B Ab (u8s a.bs)) (hB : B ≤ w.heap.size) (hbc : nb ≤ cb) (hn : Ab = none → cb = 0) (hrk : Rd w B Ak (i64i a.ks)) (hk60 : nk ≤ 60) (hne : ∀ q o, Ak = some ⟨q, o, none⟩ → i64i a.ks ≠ [] → q ≠ g) :
    Calls Try.prog 17 #[.pointer (some ⟨g, 0, none⟩), .agg #[.int .i64 a.k, .int .i64 a.x, .int .i64 a.n, .slice Ab nb cb, .slice Ak nk ck]] w (DRes w g room vs (doP room d a)) := by
  have hb : ∀ q, Below w.heap.size w ((w.alloc (.cells #[.int .i64 a.k, .int .i64 a.x, .int .i64 a.n, .slice Ab nb cb, .slice Ak nk ck] 35)).drewN q) := fun q => below_drewN ((Below.refl _ w).alloc (Nat.le_refl _) _) q
  have HB : Hid (Below w.heap.size w ((w.alloc (.cells #[.int .i64 a.k, .int .i64 a.x, .int .i64 a.n, .slice Ab nb cb, .slice Ak nk ck] 35)))) := Lib.hid ((Below.refl _ w).alloc (Nat.le_refl _) _)
  have gl := h.2.2.1.lt
  by_cases q0 : a.k = 0
  · rw [doP0 _ _ _ q0]
    have HC := Lib.hid (DAppend_any _ g room vs d a.x Ab nb cb a.bs (DskM.below h HB.out) hok ((hr.below (HB.out.mono hB)).more (by have := HB.out.size; omega)) hn hbc hnb)
    rw [q0] at HB HC
    rw [q0]
    clear h hok hr hrk hne hb
    go_enter Try.func17, Try.ntmps17
    go_wp2_with fail
    refine HC.out.mono ?_
    rintro en w2 hr
    obtain ⟨rfl, hr2⟩ := hr.below HB.out
    have HR := Lib.hid hr2
    clear hr hr2
    go_wp2
    go_ret
    exact ⟨rfl, HR.out⟩
  have n01 : (a.k == 0) = false := by simp [q0]
  by_cases q1 : a.k = 1
  · rw [doP1 _ _ _ q1]
    have HC := Lib.hid (DSync_any _ g room vs d a.x (DskM.below h HB.out) hok)
    rw [q1] at HB HC
    rw [q1]
    clear h hok hr hrk hne hb n01 q0
    go_enter Try.func17, Try.ntmps17
    go_wp2_with fail
    refine HC.out.mono ?_
    rintro en w2 hr
    obtain ⟨rfl, hr2⟩ := hr.below HB.out
    have HR := Lib.hid hr2
    clear hr hr2
    go_wp2
    go_ret
    exact ⟨rfl, HR.out⟩
  have n11 : (a.k == 1) = false := by simp [q1]
  by_cases q2 : a.k = 2
  · rw [doP2 _ _ _ q2]
    have HC := Lib.hid (DCut_any _ g room vs d a.x a.n (DskM.below h HB.out) hok)
    rw [q2] at HB HC
    rw [q2]
    clear h hok hr hrk hne hb n01 q0 n11 q1
    go_enter Try.func17, Try.ntmps17
    go_wp2_with fail
    refine HC.out.mono ?_
    rintro en w2 hr
    obtain ⟨rfl, hr2⟩ := hr.below HB.out
    have HR := Lib.hid hr2
    clear hr hr2
    go_wp2
    go_ret
    exact ⟨rfl, HR.out⟩
  have n21 : (a.k == 2) = false := by simp [q2]
  by_cases q3 : a.k = 3
  · rw [doP3 _ _ _ q3]
    have HC := Lib.hid (DFuse_any _ g room vs d a.n (DskM.below h HB.out))
    rw [q3] at HB HC
    rw [q3]
    clear h hok hr hrk hne hb n01 q0 n11 q1 n21 q2
    go_enter Try.func17, Try.ntmps17
    go_wp2_with fail
    refine HC.out.mono ?_
    rintro en w2 ⟨rfl, h1, h2⟩
    have hr2 := (show DRes _ g room vs (fuseP d a.n, 0) (.returned (.int .i64 0)) w2 from ⟨rfl, vs, h1, Sub.refl _ _, h2.mono (fun j _ hj => .inl hj)⟩).below HB.out
    have HR := Lib.hid hr2
    clear h1 h2 hr2
    go_wp2
    go_ret
    exact HR.out
  have n31 : (a.k == 3) = false := by simp [q3]
  by_cases q4 : a.k = 4
  · rw [doP4 _ _ _ q4]
    have HC := Lib.hid (DCrash_any _ g room vs d Ak nk ck B a.ks (DskM.below h HB.out) hok (hrk.below (HB.out.mono hB)) (by have := HB.out.size; omega) hnk (by omega) hne)
    rw [q4] at HB HC
    rw [q4]
    clear h hok hr hrk hne hb n01 q0 n11 q1 n21 q2 n31 q3
    go_enter Try.func17, Try.ntmps17
    go_wp2_with fail
    refine HC.out.mono ?_
    rintro en w2 ⟨rfl, vs', h1, h2, h3⟩
    have hr2 := (show DRes _ g room vs (crashP a.ks d, 0) (.returned (.int .i64 0)) w2 from ⟨rfl, vs', h1, fun j hj => .inl (h3 j hj), h2.mono (fun j _ hj => .inl hj)⟩).below HB.out
    have HR := Lib.hid hr2
    clear h1 h2 hr2 h3
    go_wp2
    go_ret
    exact HR.out
  have n41 : (a.k == 4) = false := by simp [q4]
  rw [doPn _ _ _ q0 q1 q2 q3 q4]
  have HR : Hid (DRes w g room vs (d, 0) (.returned (.int .i64 0)) ((w.alloc (.cells #[.int .i64 a.k, .int .i64 a.x, .int .i64 a.n, .slice Ab nb cb, .slice Ak nk ck] 35)))) := Lib.hid ⟨rfl, vs, DskM.below h HB.out, (Turned.refl _ _).below HB.out⟩
  clear h hok hr hrk hne hb
  go_enter Try.func17, Try.ntmps17
  go_wp2
  go_ret
  exact HR.out
end Go.Proofs.Ytahichieakdbnaa
