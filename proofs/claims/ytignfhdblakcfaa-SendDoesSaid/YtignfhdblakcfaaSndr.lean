/- send.Sender's Ask, and packetboatref18. -/
import Derived.Test.YtignfhdblakcfaaSnd
namespace Go.Proofs.Ytignfhdblakcfaa
open Go.ChangeShapes Go.WideShapes Go.ChangeAt Go.RowKit
set_option linter.unusedVariables false
set_option linter.unusedSimpArgs false

def AskPost (w : World) (r : Int × Int) (e : Ending) (w' : World) : Prop := e = .returned (.tuple #[.int .i64 r.1, .int .i64 r.2]) ∧ w = w'
theorem ask_l0 {f to b n : Int} (u v t : Int) (hu : max b 0 = u) (hv : max u (f - 1) = v) (ht : min to n = t) (h : t ≤ v) : askL f to b n = (0, 0) := by
  subst hu hv ht; rw [askL, if_pos h]
theorem ask_l1 {f to b n : Int} (u v t : Int) (hu : max b 0 = u) (hv : max u (f - 1) = v) (ht : min to n = t) (h : ¬ t ≤ v) : askL f to b n = (v + 1, sbat v t) := by
  subst hu hv ht; rw [askL, if_neg h]
theorem askPost {w : World} {r : Int × Int} {f m : Int} (hr : r = (f, m)) : AskPost w r (.returned (.tuple #[.int .i64 f, .int .i64 m])) w := by subst hr; exact ⟨rfl, rfl⟩
set_option maxRecDepth 100000 in
set_option maxHeartbeats 2000000 in
theorem Ask_any (w : World) (p : Value) (f to b n : Int) (hf : -2305843009213693952 ≤ f ∧ f ≤ 2305843009213693952) (ht : -2305843009213693952 ≤ to ∧ to ≤ 2305843009213693952) (hb : -2305843009213693952 ≤ b ∧ b ≤ 2305843009213693952) (hn : -2305843009213693952 ≤ n ∧ n ≤ 2305843009213693952) :
    Calls Try.prog 52 #[p, .int .i64 f, .int .i64 to, .int .i64 b, .int .i64 n] w (AskPost w (askL f to b n)) := by
  obtain ⟨f0, f1⟩ := hf
  obtain ⟨t0, t1⟩ := ht
  obtain ⟨b0, b1⟩ := hb
  obtain ⟨n0, n1⟩ := hn
  by_cases hb : b < 0
  · skip
    by_cases hnt : n < to
    · skip
      by_cases hfu : 0 < f
      · skip
        by_cases hc : n ≤ f - 1
        · have HA := Lib.hid (ask_l0 (f := f) (to := to) (b := b) (n := n) (0) (f - 1) (n) (by omega) (by omega) (by omega) (by omega))
          go_enter Try.func52, Try.ntmps52
          go_wp2_with (go_at_call 83; refine (batch_any _ _ _ ?_ ?_).mono ?_; omega; omega; rintro e w' ⟨rfl, rfl⟩)
          go_ret2
          exact askPost (HA.out.trans (by refine Prod.ext ?_ ?_ <;> first | rfl | (simp only; omega)))
        · have HA := Lib.hid (ask_l1 (f := f) (to := to) (b := b) (n := n) (0) (f - 1) (n) (by omega) (by omega) (by omega) (by omega))
          go_enter Try.func52, Try.ntmps52
          go_wp2_with (go_at_call 83; refine (batch_any _ _ _ ?_ ?_).mono ?_; omega; omega; rintro e w' ⟨rfl, rfl⟩)
          go_ret2
          exact askPost (HA.out.trans (by refine Prod.ext ?_ ?_ <;> first | rfl | (simp only; omega)))
      · skip
        by_cases hc : n ≤ 0
        · have HA := Lib.hid (ask_l0 (f := f) (to := to) (b := b) (n := n) (0) (0) (n) (by omega) (by omega) (by omega) (by omega))
          go_enter Try.func52, Try.ntmps52
          go_wp2_with (go_at_call 83; refine (batch_any _ _ _ ?_ ?_).mono ?_; omega; omega; rintro e w' ⟨rfl, rfl⟩)
          go_ret2
          exact askPost (HA.out.trans (by refine Prod.ext ?_ ?_ <;> first | rfl | (simp only; omega)))
        · have HA := Lib.hid (ask_l1 (f := f) (to := to) (b := b) (n := n) (0) (0) (n) (by omega) (by omega) (by omega) (by omega))
          go_enter Try.func52, Try.ntmps52
          go_wp2_with (go_at_call 83; refine (batch_any _ _ _ ?_ ?_).mono ?_; omega; omega; rintro e w' ⟨rfl, rfl⟩)
          go_ret2
          exact askPost (HA.out.trans (by refine Prod.ext ?_ ?_ <;> first | rfl | (simp only; omega)))
    · skip
      by_cases hfu : 0 < f
      · skip
        by_cases hc : to ≤ f - 1
        · have HA := Lib.hid (ask_l0 (f := f) (to := to) (b := b) (n := n) (0) (f - 1) (to) (by omega) (by omega) (by omega) (by omega))
          go_enter Try.func52, Try.ntmps52
          go_wp2_with (go_at_call 83; refine (batch_any _ _ _ ?_ ?_).mono ?_; omega; omega; rintro e w' ⟨rfl, rfl⟩)
          go_ret2
          exact askPost (HA.out.trans (by refine Prod.ext ?_ ?_ <;> first | rfl | (simp only; omega)))
        · have HA := Lib.hid (ask_l1 (f := f) (to := to) (b := b) (n := n) (0) (f - 1) (to) (by omega) (by omega) (by omega) (by omega))
          go_enter Try.func52, Try.ntmps52
          go_wp2_with (go_at_call 83; refine (batch_any _ _ _ ?_ ?_).mono ?_; omega; omega; rintro e w' ⟨rfl, rfl⟩)
          go_ret2
          exact askPost (HA.out.trans (by refine Prod.ext ?_ ?_ <;> first | rfl | (simp only; omega)))
      · skip
        by_cases hc : to ≤ 0
        · have HA := Lib.hid (ask_l0 (f := f) (to := to) (b := b) (n := n) (0) (0) (to) (by omega) (by omega) (by omega) (by omega))
          go_enter Try.func52, Try.ntmps52
          go_wp2_with (go_at_call 83; refine (batch_any _ _ _ ?_ ?_).mono ?_; omega; omega; rintro e w' ⟨rfl, rfl⟩)
          go_ret2
          exact askPost (HA.out.trans (by refine Prod.ext ?_ ?_ <;> first | rfl | (simp only; omega)))
        · have HA := Lib.hid (ask_l1 (f := f) (to := to) (b := b) (n := n) (0) (0) (to) (by omega) (by omega) (by omega) (by omega))
          go_enter Try.func52, Try.ntmps52
          go_wp2_with (go_at_call 83; refine (batch_any _ _ _ ?_ ?_).mono ?_; omega; omega; rintro e w' ⟨rfl, rfl⟩)
          go_ret2
          exact askPost (HA.out.trans (by refine Prod.ext ?_ ?_ <;> first | rfl | (simp only; omega)))
  · skip
    by_cases hnt : n < to
    · skip
      by_cases hfu : b < f
      · skip
        by_cases hc : n ≤ f - 1
        · have HA := Lib.hid (ask_l0 (f := f) (to := to) (b := b) (n := n) (b) (f - 1) (n) (by omega) (by omega) (by omega) (by omega))
          go_enter Try.func52, Try.ntmps52
          go_wp2_with (go_at_call 83; refine (batch_any _ _ _ ?_ ?_).mono ?_; omega; omega; rintro e w' ⟨rfl, rfl⟩)
          go_ret2
          exact askPost (HA.out.trans (by refine Prod.ext ?_ ?_ <;> first | rfl | (simp only; omega)))
        · have HA := Lib.hid (ask_l1 (f := f) (to := to) (b := b) (n := n) (b) (f - 1) (n) (by omega) (by omega) (by omega) (by omega))
          go_enter Try.func52, Try.ntmps52
          go_wp2_with (go_at_call 83; refine (batch_any _ _ _ ?_ ?_).mono ?_; omega; omega; rintro e w' ⟨rfl, rfl⟩)
          go_ret2
          exact askPost (HA.out.trans (by refine Prod.ext ?_ ?_ <;> first | rfl | (simp only; omega)))
      · skip
        by_cases hc : n ≤ b
        · have HA := Lib.hid (ask_l0 (f := f) (to := to) (b := b) (n := n) (b) (b) (n) (by omega) (by omega) (by omega) (by omega))
          go_enter Try.func52, Try.ntmps52
          go_wp2_with (go_at_call 83; refine (batch_any _ _ _ ?_ ?_).mono ?_; omega; omega; rintro e w' ⟨rfl, rfl⟩)
          go_ret2
          exact askPost (HA.out.trans (by refine Prod.ext ?_ ?_ <;> first | rfl | (simp only; omega)))
        · have HA := Lib.hid (ask_l1 (f := f) (to := to) (b := b) (n := n) (b) (b) (n) (by omega) (by omega) (by omega) (by omega))
          go_enter Try.func52, Try.ntmps52
          go_wp2_with (go_at_call 83; refine (batch_any _ _ _ ?_ ?_).mono ?_; omega; omega; rintro e w' ⟨rfl, rfl⟩)
          go_ret2
          exact askPost (HA.out.trans (by refine Prod.ext ?_ ?_ <;> first | rfl | (simp only; omega)))
    · skip
      by_cases hfu : b < f
      · skip
        by_cases hc : to ≤ f - 1
        · have HA := Lib.hid (ask_l0 (f := f) (to := to) (b := b) (n := n) (b) (f - 1) (to) (by omega) (by omega) (by omega) (by omega))
          go_enter Try.func52, Try.ntmps52
          go_wp2_with (go_at_call 83; refine (batch_any _ _ _ ?_ ?_).mono ?_; omega; omega; rintro e w' ⟨rfl, rfl⟩)
          go_ret2
          exact askPost (HA.out.trans (by refine Prod.ext ?_ ?_ <;> first | rfl | (simp only; omega)))
        · have HA := Lib.hid (ask_l1 (f := f) (to := to) (b := b) (n := n) (b) (f - 1) (to) (by omega) (by omega) (by omega) (by omega))
          go_enter Try.func52, Try.ntmps52
          go_wp2_with (go_at_call 83; refine (batch_any _ _ _ ?_ ?_).mono ?_; omega; omega; rintro e w' ⟨rfl, rfl⟩)
          go_ret2
          exact askPost (HA.out.trans (by refine Prod.ext ?_ ?_ <;> first | rfl | (simp only; omega)))
      · skip
        by_cases hc : to ≤ b
        · have HA := Lib.hid (ask_l0 (f := f) (to := to) (b := b) (n := n) (b) (b) (to) (by omega) (by omega) (by omega) (by omega))
          go_enter Try.func52, Try.ntmps52
          go_wp2_with (go_at_call 83; refine (batch_any _ _ _ ?_ ?_).mono ?_; omega; omega; rintro e w' ⟨rfl, rfl⟩)
          go_ret2
          exact askPost (HA.out.trans (by refine Prod.ext ?_ ?_ <;> first | rfl | (simp only; omega)))
        · have HA := Lib.hid (ask_l1 (f := f) (to := to) (b := b) (n := n) (b) (b) (to) (by omega) (by omega) (by omega) (by omega))
          go_enter Try.func52, Try.ntmps52
          go_wp2_with (go_at_call 83; refine (batch_any _ _ _ ?_ ?_).mono ?_; omega; omega; rintro e w' ⟨rfl, rfl⟩)
          go_ret2
          exact askPost (HA.out.trans (by refine Prod.ext ?_ ?_ <;> first | rfl | (simp only; omega)))

/-! packetboatref18 -/
theorem RNew_any (w : World) (n : Int) : Calls Try.prog 47 #[.int .i64 n] w (NewPost w n 84) := by
  by_cases h : 0 ≤ n ∧ n ≤ 4611686018427387903
  · obtain ⟨h0, h1⟩ := h
    have HP := Lib.hid (newPost_ok (w := w) (t := 84) h0 h1 (Blk.new w 84 (scs n n 0)) ((Below.refl _ _).alloc (Nat.le_refl _) _))
    go_enter Try.func47, Try.ntmps47
    go_wp2
    go_ret2
    exact HP.out
  · have HP := Lib.hid (newPost_no (w := w) (w' := w) (t := 84) h (Below.refl _ _))
    by_cases h0 : 0 ≤ n
    · have h1 : 4611686018427387903 < n := by omega
      clear h
      go_enter Try.func47, Try.ntmps47
      go_wp2
      go_ret2
      exact HP.out
    · have h1 : n < 0 := by omega
      clear h
      go_enter Try.func47, Try.ntmps47
      go_wp2
      go_ret2
      exact HP.out
/-- the first ones of f..t, at most four: where it begins (0 if none), how many -/
def fstL (f t : Int) : Int × Int := if t < f then (0, 0) else (f, min (t - f + 1) 4)
theorem fst_no {f t : Int} (h : t < f) : fstL f t = (0, 0) := by rw [fstL, if_pos h]
theorem fst_yes {f t : Int} (h : ¬ t < f) : fstL f t = (f, min (t - f + 1) 4) := by rw [fstL, if_neg h]
set_option maxRecDepth 100000 in
set_option maxHeartbeats 1000000 in
theorem first_any (w : World) (f t : Int) (h0 : 0 ≤ f) (h1 : f ≤ 4611686018427387999) (h2 : t ≤ 4611686018427387999) (h3 : -4611686018427387999 ≤ t) :
    Calls Try.prog 82 #[.int .i64 f, .int .i64 t] w (AskPost w (fstL f t)) := by
  by_cases h : t < f
  · have HP := Lib.hid (askPost (w := w) (fst_no h))
    go_enter Try.func82, Try.ntmps82
    go_wp2
    go_ret2
    exact HP.out
  · have HP := Lib.hid (fst_yes h)
    go_enter Try.func82, Try.ntmps82
    go_wp2
    go_loop [6] (fun s6 => ∃ n : Nat, s6 = .int .i64 (n : Int) ∧ 1 ≤ n ∧ n ≤ 4 ∧ (n : Int) ≤ t - f + 1) (fun s6 => 4 - (intOf s6).toNat)
    case atStart => exact ⟨1, rfl, by omega, by omega, by omega⟩
    case round =>
      obtain ⟨n, rfl, hn1, hn4, hnt⟩ := hrel
      by_cases hlt : n < 4
      · by_cases hft : f + (n : Int) ≤ t
        · go_wp2
          go_round
          case rel => exact ⟨n + 1, by go_num, by omega, by omega, by omega⟩
          case measure => simp [intOf]; omega
        · have hnn : min (t - f + 1) 4 = (n : Int) := by omega
          go_wp2
          go_ret2
          exact askPost (by rw [HP.out, hnn])
      · have hnn : min (t - f + 1) 4 = (n : Int) := by omega
        go_wp2
        go_ret2
        exact askPost (by rw [HP.out, hnn])
end Go.Proofs.Ytignfhdblakcfaa
