/- send.Sender's Ask, and packetboatref18. -/
import Derived.Test.YtignfhdblakcfabSnd
namespace Go.Proofs.Ytignfhdblakcfab
open Go.ChangeShapes Go.WideShapes Go.ChangeAt Go.RowKit
set_option linter.unusedVariables false
set_option linter.unusedSimpArgs false

def AskPost (w : World) (r : Int × Int) (e : Ending) (w' : World) : Prop := e = .returned (.tuple #[.int .i64 r.1, .int .i64 r.2]) ∧ w = w'
theorem ask_l0 {f to b n : Int} (u v t : Int) (hu : max b 0 = u) (hv : max u (f - 1) = v) (ht : min to n = t) (h : t ≤ v) : askL f to b n = (0, 0) := by
  subst hu hv ht; rw [askL, if_pos h]
theorem ask_l1 {f to b n : Int} (u v t : Int) (hu : max b 0 = u) (hv : max u (f - 1) = v) (ht : min to n = t) (h : ¬ t ≤ v) : askL f to b n = (v + 1, sbat v t) := by
  subst hu hv ht; rw [askL, if_neg h]
theorem askPost {w : World} {r : Int × Int} {f m : Int} (hr : r = (f, m)) : AskPost w r (.returned (.tuple #[.int .i64 f, .int .i64 m])) w := by subst hr; exact ⟨rfl, rfl⟩
set_option maxRecDepth 100000 in
set_option maxHeartbeats 2000000 in
theorem Ask_any (w : World) (p : Value) (f to b n : Int) (hf : -2305843009213693952 ≤ f ∧ f ≤ 2305843009213693952) (ht : -2305843009213693952 ≤ to ∧ to ≤ 2305843009213693952) (hb : -2305843009213693952 ≤ b ∧ b ≤ 2305843009213693952) (hn : -2305843009213693952 ≤ n ∧ n ≤ 2305843009213693952) :
    Calls Try.prog 11 #[p, .int .i64 f, .int .i64 to, .int .i64 b, .int .i64 n] w (AskPost w (askL f to b n)) := by
  obtain ⟨f0, f1⟩ := hf
  obtain ⟨t0, t1⟩ := ht
  obtain ⟨b0, b1⟩ := hb
  obtain ⟨n0, n1⟩ := hn
  by_cases hb : b < 0
  · skip
    by_cases hnt : n < to
    · skip
      by_cases hfu : 0 < f
      · skip
        by_cases hc : n ≤ f - 1
        · have HA := Lib.hid (ask_l0 (f := f) (to := to) (b := b) (n := n) (0) (f - 1) (n) (by omega) (by omega) (by omega) (by omega))
          go_enter Try.func11, Try.ntmps11
          go_wp2_with (go_at_call 15; refine (batch_any _ _ _ ?_ ?_).mono ?_; omega; omega; rintro e w' ⟨rfl, rfl⟩)
          go_ret2
          exact askPost (HA.out.trans (by refine Prod.ext ?_ ?_ <;> first | rfl | (simp only; omega)))
        · have HA := Lib.hid (ask_l1 (f := f) (to := to) (b := b) (n := n) (0) (f - 1) (n) (by omega) (by omega) (by omega) (by omega))
          go_enter Try.func11, Try.ntmps11
          go_wp2_with (go_at_call 15; refine (batch_any _ _ _ ?_ ?_).mono ?_; omega; omega; rintro e w' ⟨rfl, rfl⟩)
          go_ret2
          exact askPost (HA.out.trans (by refine Prod.ext ?_ ?_ <;> first | rfl | (simp only; omega)))
      · skip
        by_cases hc : n ≤ 0
        · have HA := Lib.hid (ask_l0 (f := f) (to := to) (b := b) (n := n) (0) (0) (n) (by omega) (by omega) (by omega) (by omega))
          go_enter Try.func11, Try.ntmps11
          go_wp2_with (go_at_call 15; refine (batch_any _ _ _ ?_ ?_).mono ?_; omega; omega; rintro e w' ⟨rfl, rfl⟩)
          go_ret2
          exact askPost (HA.out.trans (by refine Prod.ext ?_ ?_ <;> first | rfl | (simp only; omega)))
        · have HA := Lib.hid (ask_l1 (f := f) (to := to) (b := b) (n := n) (0) (0) (n) (by omega) (by omega) (by omega) (by omega))
          go_enter Try.func11, Try.ntmps11
          go_wp2_with (go_at_call 15; refine (batch_any _ _ _ ?_ ?_).mono ?_; omega; omega; rintro e w' ⟨rfl, rfl⟩)
          go_ret2
          exact askPost (HA.out.trans (by refine Prod.ext ?_ ?_ <;> first | rfl | (simp only; omega)))
    · skip
      by_cases hfu : 0 < f
      · skip
        by_cases hc : to ≤ f - 1
        · have HA := Lib.hid (ask_l0 (f := f) (to := to) (b := b) (n := n) (0) (f - 1) (to) (by omega) (by omega) (by omega) (by omega))
          go_enter Try.func11, Try.ntmps11
          go_wp2_with (go_at_call 15; refine (batch_any _ _ _ ?_ ?_).mono ?_; omega; omega; rintro e w' ⟨rfl, rfl⟩)
          go_ret2
          exact askPost (HA.out.trans (by refine Prod.ext ?_ ?_ <;> first | rfl | (simp only; omega)))
        · have HA := Lib.hid (ask_l1 (f := f) (to := to) (b := b) (n := n) (0) (f - 1) (to) (by omega) (by omega) (by omega) (by omega))
          go_enter Try.func11, Try.ntmps11
          go_wp2_with (go_at_call 15; refine (batch_any _ _ _ ?_ ?_).mono ?_; omega; omega; rintro e w' ⟨rfl, rfl⟩)
          go_ret2
          exact askPost (HA.out.trans (by refine Prod.ext ?_ ?_ <;> first | rfl | (simp only; omega)))
      · skip
        by_cases hc : to ≤ 0
        · have HA := Lib.hid (ask_l0 (f := f) (to := to) (b := b) (n := n) (0) (0) (to) (by omega) (by omega) (by omega) (by omega))
          go_enter Try.func11, Try.ntmps11
          go_wp2_with (go_at_call 15; refine (batch_any _ _ _ ?_ ?_).mono ?_; omega; omega; rintro e w' ⟨rfl, rfl⟩)
          go_ret2
          exact askPost (HA.out.trans (by refine Prod.ext ?_ ?_ <;> first | rfl | (simp only; omega)))
        · have HA := Lib.hid (ask_l1 (f := f) (to := to) (b := b) (n := n) (0) (0) (to) (by omega) (by omega) (by omega) (by omega))
          go_enter Try.func11, Try.ntmps11
          go_wp2_with (go_at_call 15; refine (batch_any _ _ _ ?_ ?_).mono ?_; omega; omega; rintro e w' ⟨rfl, rfl⟩)
          go_ret2
          exact askPost (HA.out.trans (by refine Prod.ext ?_ ?_ <;> first | rfl | (simp only; omega)))
  · skip
    by_cases hnt : n < to
    · skip
      by_cases hfu : b < f
      · skip
        by_cases hc : n ≤ f - 1
        · have HA := Lib.hid (ask_l0 (f := f) (to := to) (b := b) (n := n) (b) (f - 1) (n) (by omega) (by omega) (by omega) (by omega))
          go_enter Try.func11, Try.ntmps11
          go_wp2_with (go_at_call 15; refine (batch_any _ _ _ ?_ ?_).mono ?_; omega; omega; rintro e w' ⟨rfl, rfl⟩)
          go_ret2
          exact askPost (HA.out.trans (by refine Prod.ext ?_ ?_ <;> first | rfl | (simp only; omega)))
        · have HA := Lib.hid (ask_l1 (f := f) (to := to) (b := b) (n := n) (b) (f - 1) (n) (by omega) (by omega) (by omega) (by omega))
          go_enter Try.func11, Try.ntmps11
          go_wp2_with (go_at_call 15; refine (batch_any _ _ _ ?_ ?_).mono ?_; omega; omega; rintro e w' ⟨rfl, rfl⟩)
          go_ret2
          exact askPost (HA.out.trans (by refine Prod.ext ?_ ?_ <;> first | rfl | (simp only; omega)))
      · skip
        by_cases hc : n ≤ b
        · have HA := Lib.hid (ask_l0 (f := f) (to := to) (b := b) (n := n) (b) (b) (n) (by omega) (by omega) (by omega) (by omega))
          go_enter Try.func11, Try.ntmps11
          go_wp2_with (go_at_call 15; refine (batch_any _ _ _ ?_ ?_).mono ?_; omega; omega; rintro e w' ⟨rfl, rfl⟩)
          go_ret2
          exact askPost (HA.out.trans (by refine Prod.ext ?_ ?_ <;> first | rfl | (simp only; omega)))
        · have HA := Lib.hid (ask_l1 (f := f) (to := to) (b := b) (n := n) (b) (b) (n) (by omega) (by omega) (by omega) (by omega))
          go_enter Try.func11, Try.ntmps11
          go_wp2_with (go_at_call 15; refine (batch_any _ _ _ ?_ ?_).mono ?_; omega; omega; rintro e w' ⟨rfl, rfl⟩)
          go_ret2
          exact askPost (HA.out.trans (by refine Prod.ext ?_ ?_ <;> first | rfl | (simp only; omega)))
    · skip
      by_cases hfu : b < f
      · skip
        by_cases hc : to ≤ f - 1
        · have HA := Lib.hid (ask_l0 (f := f) (to := to) (b := b) (n := n) (b) (f - 1) (to) (by omega) (by omega) (by omega) (by omega))
          go_enter Try.func11, Try.ntmps11
          go_wp2_with (go_at_call 15; refine (batch_any _ _ _ ?_ ?_).mono ?_; omega; omega; rintro e w' ⟨rfl, rfl⟩)
          go_ret2
          exact askPost (HA.out.trans (by refine Prod.ext ?_ ?_ <;> first | rfl | (simp only; omega)))
        · have HA := Lib.hid (ask_l1 (f := f) (to := to) (b := b) (n := n) (b) (f - 1) (to) (by omega) (by omega) (by omega) (by omega))
          go_enter Try.func11, Try.ntmps11
          go_wp2_with (go_at_call 15; refine (batch_any _ _ _ ?_ ?_).mono ?_; omega; omega; rintro e w' ⟨rfl, rfl⟩)
          go_ret2
          exact askPost (HA.out.trans (by refine Prod.ext ?_ ?_ <;> first | rfl | (simp only; omega)))
      · skip
        by_cases hc : to ≤ b
        · have HA := Lib.hid (ask_l0 (f := f) (to := to) (b := b) (n := n) (b) (b) (to) (by omega) (by omega) (by omega) (by omega))
          go_enter Try.func11, Try.ntmps11
          go_wp2_with (go_at_call 15; refine (batch_any _ _ _ ?_ ?_).mono ?_; omega; omega; rintro e w' ⟨rfl, rfl⟩)
          go_ret2
          exact askPost (HA.out.trans (by refine Prod.ext ?_ ?_ <;> first | rfl | (simp only; omega)))
        · have HA := Lib.hid (ask_l1 (f := f) (to := to) (b := b) (n := n) (b) (b) (to) (by omega) (by omega) (by omega) (by omega))
          go_enter Try.func11, Try.ntmps11
          go_wp2_with (go_at_call 15; refine (batch_any _ _ _ ?_ ?_).mono ?_; omega; omega; rintro e w' ⟨rfl, rfl⟩)
          go_ret2
          exact askPost (HA.out.trans (by refine Prod.ext ?_ ?_ <;> first | rfl | (simp only; omega)))

end Go.Proofs.Ytignfhdblakcfab
