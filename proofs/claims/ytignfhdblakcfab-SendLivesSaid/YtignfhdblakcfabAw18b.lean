/- law 18's awake. -/
import Derived.Test.YtignfhdblakcfabAskb
import Derived.Test.YtignfhdblakcfabLrg
namespace Go.Proofs.Ytignfhdblakcfab
open Go.ChangeShapes Go.WideShapes Go.ChangeAt Go.RowKit
set_option linter.unusedVariables false
set_option linter.unusedSimpArgs false

theorem Tick_at (w : World) (g : Nat) (a s q n f m a' s' q' : Int) (hk : Blk w g 40 (scs a s q)) (hi : SI a s q) (h0 : -4611686018427387904 ≤ n) (h1 : n ≤ 4611686018427387903) (hr : tickL a s q n = ((f, m), (a', s', q'))) :
    Calls Try.prog 7 #[.pointer (some ⟨g, 0, none⟩), .int .i64 n] w fun e w' => e = .returned (.tuple #[.int .i64 f, .int .i64 m]) ∧ Blk w' g 40 (scs a' s' q') ∧ w.grownBy w' (some g) := by
  refine (Tick_any w g a s q n hk hi h0 h1).mono ?_
  intro e w' h
  rw [hr] at h
  exact h
theorem Ack_at (w : World) (g : Nat) (a s q to n a' s' q' : Int) (b : Bool) (hk : Blk w g 40 (scs a s q)) (hr : ackL a s q to n = (b, (a', s', q'))) :
    Calls Try.prog 8 #[.pointer (some ⟨g, 0, none⟩), .int .i64 to, .int .i64 n] w fun e w' => e = .returned (.bool b) ∧ Blk w' g 40 (scs a' s' q') ∧ w.grownBy w' (some g) := by
  refine (Ack_any w g a s q to n hk).mono ?_
  intro e w' h
  rw [hr] at h
  exact h
theorem Ask_at (w : World) (p : Value) (f to b n x y : Int) (hf : in61 f) (ht : in61 to) (hb : in61 b) (hn : in61 n) (hr : askL f to b n = (x, y)) :
    Calls Try.prog 11 #[p, .int .i64 f, .int .i64 to, .int .i64 b, .int .i64 n] w fun e w' => e = .returned (.tuple #[.int .i64 x, .int .i64 y]) ∧ w = w' := by
  refine (Ask_any w p f to b n hf ht hb hn).mono ?_
  intro e w' h
  rw [hr] at h
  exact h
theorem New_at (w : World) (n : Int) (h0 : 0 ≤ n) (h1 : n ≤ 4611686018427387903) : Calls Try.prog 6 #[.int .i64 n] w fun e w' => e = .returned (.tuple #[.pointer (some ⟨w.heap.size, 0, none⟩), .int .i64 0]) ∧ Blk w' w.heap.size 40 (scs n n 0) ∧ Below w.heap.size w w' := by
  refine (New_any w n).mono ?_
  rintro e w' ⟨h, hb⟩
  rw [if_pos ⟨h0, h1⟩] at h
  exact ⟨h.1, h.2, hb⟩
theorem New_no_at (w : World) (n : Int) (h : ¬ (0 ≤ n ∧ n ≤ 4611686018427387903)) : Calls Try.prog 6 #[.int .i64 n] w fun e w' => e = .returned (.tuple #[.pointer none, .int .i64 1]) ∧ Below w.heap.size w w' := by
  refine (New_any w n).mono ?_
  rintro e w' ⟨h2, hb⟩
  rw [if_neg h] at h2
  exact ⟨h2, hb⟩
def TruePost18 (w : World) (e : Ending) (w' : World) : Prop := e = .returned (.bool true) ∧ Below w.heap.size w w'
set_option maxRecDepth 100000 in
set_option maxHeartbeats 4000000 in
theorem awake18_any (w : World) : Calls Try.prog 4 #[] w (TruePost18 w) := by
  have HREF := Lib.hid (Below.refl w.heap.size w)
  go_enter Try.func4, Try.ntmps4
  go_wp2_with fail
  refine (New_at _ 0 (by omega) (by omega)).mono ?_
  rintro e w1 ⟨rfl, hk1, hb1⟩
  obtain ⟨g, hg⟩ : ∃ g, g = w.heap.size := ⟨_, rfl⟩
  rw [← hg] at hk1 ⊢
  have HG := Lib.hid (show w.heap.size ≤ g by omega); clear hg
  have HW1 := Lib.hid hb1; clear hb1
  go_wp2_with fail
  refine (New_no_at _ (-1) (by omega)).mono ?_
  rintro e w2 ⟨rfl, hb⟩
  have hk2 := hk1.below hb hk1.lt
  have HW2 := Lib.hid (HW1.out.trans (hb.mono HW1.out.size)); clear hb hk1
  go_wp2_with fail
  refine (Tick_at _ g 0 0 0 6 1 4 0 4 0 hk2 ⟨by omega, by omega, by omega, by omega, by omega, by omega⟩ (by omega) (by omega) (by decide)).mono ?_
  rintro e w3 ⟨rfl, hk3, hgr⟩
  have HW3 := Lib.hid (HW2.out.trans (Gby.to_below hgr HW2.out.size HG.out)); clear hgr hk2
  go_wp2_with fail
  refine (Tick_at _ g 0 4 0 6 5 2 0 6 0 hk3 ⟨by omega, by omega, by omega, by omega, by omega, by omega⟩ (by omega) (by omega) (by decide)).mono ?_
  rintro e w4 ⟨rfl, hk4, hgr⟩
  have HW4 := Lib.hid (HW3.out.trans (Gby.to_below hgr HW3.out.size HG.out)); clear hgr hk3
  go_wp2_with fail
  refine wp_loop_rounds 4 ?_
  rw [rounds_succ]
  go_wp2_with fail
  refine (Tick_at _ g 0 6 0 6 0 0 0 6 1 hk4 ⟨by omega, by omega, by omega, by omega, by omega, by omega⟩ (by omega) (by omega) (by decide)).mono ?_
  rintro e w5 ⟨rfl, hk5, hgr⟩
  have HW5 := Lib.hid (HW4.out.trans (Gby.to_below hgr HW4.out.size HG.out)); clear hgr hk4
  go_wp2_with fail
  rw [rounds_succ]
  go_wp2_with fail
  refine (Tick_at _ g 0 6 1 6 0 0 0 6 2 hk5 ⟨by omega, by omega, by omega, by omega, by omega, by omega⟩ (by omega) (by omega) (by decide)).mono ?_
  rintro e w6 ⟨rfl, hk6, hgr⟩
  have HW6 := Lib.hid (HW5.out.trans (Gby.to_below hgr HW5.out.size HG.out)); clear hgr hk5
  go_wp2_with fail
  rw [rounds_succ]
  go_wp2_with fail
  refine (Tick_at _ g 0 6 2 6 0 0 0 6 3 hk6 ⟨by omega, by omega, by omega, by omega, by omega, by omega⟩ (by omega) (by omega) (by decide)).mono ?_
  rintro e w7 ⟨rfl, hk7, hgr⟩
  have HW7 := Lib.hid (HW6.out.trans (Gby.to_below hgr HW6.out.size HG.out)); clear hgr hk6
  go_wp2_with fail
  rw [rounds_succ]
  go_wp2_with fail
  refine ((get_any _ g 0 6 3 hk7).2.2).mono ?_
  rintro e w' ⟨rfl, rfl⟩
  go_wp2_with fail
  refine (Tick_at _ g 0 6 3 6 1 4 0 6 0 hk7 ⟨by omega, by omega, by omega, by omega, by omega, by omega⟩ (by omega) (by omega) (by decide)).mono ?_
  rintro e w8 ⟨rfl, hk8, hgr⟩
  have HW8 := Lib.hid (HW7.out.trans (Gby.to_below hgr HW7.out.size HG.out)); clear hgr hk7
  go_wp2_with fail
  refine (Ask_at _ _ 2 9 2 6 3 4 (by unfold in61; omega) (by unfold in61; omega) (by unfold in61; omega) (by unfold in61; omega) (by decide)).mono ?_
  rintro e w' ⟨rfl, rfl⟩
  go_wp2_with fail
  refine (Ask_at _ _ 7 9 2 6 0 0 (by unfold in61; omega) (by unfold in61; omega) (by unfold in61; omega) (by unfold in61; omega) (by decide)).mono ?_
  rintro e w' ⟨rfl, rfl⟩
  go_wp2_with fail
  refine (Ack_at _ g 0 6 0 7 6 0 6 0 false hk8 (by decide)).mono ?_
  rintro e w9 ⟨rfl, hk9, hgr⟩
  have HW9 := Lib.hid (HW8.out.trans (Gby.to_below hgr HW8.out.size HG.out)); clear hgr hk8
  go_wp2_with fail
  refine (Ack_at _ g 0 6 0 4 6 4 6 0 true hk9 (by decide)).mono ?_
  rintro e w10 ⟨rfl, hk10, hgr⟩
  have HW10 := Lib.hid (HW9.out.trans (Gby.to_below hgr HW9.out.size HG.out)); clear hgr hk9
  go_wp2_with fail
  refine (Ack_at _ g 4 6 0 4 6 4 6 0 false hk10 (by decide)).mono ?_
  rintro e w11 ⟨rfl, hk11, hgr⟩
  have HW11 := Lib.hid (HW10.out.trans (Gby.to_below hgr HW10.out.size HG.out)); clear hgr hk10
  go_wp2_with fail
  refine (Tick_at _ g 4 6 0 13 7 4 4 10 0 hk11 ⟨by omega, by omega, by omega, by omega, by omega, by omega⟩ (by omega) (by omega) (by decide)).mono ?_
  rintro e w12 ⟨rfl, hk12, hgr⟩
  have HW12 := Lib.hid (HW11.out.trans (Gby.to_below hgr HW11.out.size HG.out)); clear hgr hk11
  obtain ⟨c0, c1, c2, cf⟩ := hk12.three
  go_wp2
  go_ret
  exact ⟨rfl, HW12.out⟩
end Go.Proofs.Ytignfhdblakcfab
