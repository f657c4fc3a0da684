/- packetboatref18.Sender: Tick, Ack, Ask. -/
import Derived.Test.YtignfhdblakcfaaSndr
namespace Go.Proofs.Ytignfhdblakcfaa
open Go.ChangeShapes Go.WideShapes Go.ChangeAt Go.RowKit
set_option linter.unusedVariables false
set_option linter.unusedSimpArgs false

theorem fst_at (w : World) (f t x y : Int) (h0 : 0 ≤ f) (h1 : f ≤ 4611686018427387999) (h2 : t ≤ 4611686018427387999) (h3 : -4611686018427387999 ≤ t) (hr : fstL f t = (x, y)) :
    Calls Try.prog 82 #[.int .i64 f, .int .i64 t] w fun e w' => e = .returned (.tuple #[.int .i64 x, .int .i64 y]) ∧ w = w' := by
  refine (first_any w f t h0 h1 h2 h3).mono ?_
  intro e w' h
  rw [hr] at h
  exact h
set_option maxRecDepth 100000 in
set_option maxHeartbeats 1000000 in
theorem RTick_any (w : World) (g : Nat) (a s q n : Int) (hk : Blk w g 84 (scs a s q)) (hi : SI a s q) (h0 : -4611686018427387904 ≤ n) (h1 : n ≤ 4611686018427387903) :
    Calls Try.prog 49 #[.pointer (some ⟨g, 0, none⟩), .int .i64 n] w (TickPost w g 84 (tickL a s q n)) := by
  obtain ⟨c0, c1, c2, cf⟩ := hk.three
  obtain ⟨i1, i2, i3, i4, i5, i6⟩ := hi
  have hlt := hk.lt
  by_cases hna : n ≤ a
  · have HP := Lib.hid (tickPost (w := w) (tick_0 (s := s) (q := q) hna) (hk.set 2 (.int .i64 0)) (Gby.set (World.grownBy.refl w _) 2 _))
    clear hk
    go_enter Try.func49, Try.ntmps49
    go_wp2
    go_ret2
    exact HP.out
  by_cases h8 : n < a + 8
  · have he : send a n = n := by unfold send; omega
    by_cases hs : s < n
    · have ht := tick_1 (s := s) (q := q) hna (by rw [he]; exact hs)
      rw [he] at ht
      obtain ⟨m, hm⟩ : ∃ m, m = sbat s (n) := ⟨_, rfl⟩
      have hm0 : 0 ≤ m ∧ m ≤ 4 := by rw [hm]; unfold sbat; omega
      have HF := Lib.hid (show fstL (s + 1) (n) = (s + 1, m) by rw [fst_yes (by omega), hm]; refine Prod.ext rfl ?_; simp only [sbat]; omega)
      rw [← hm] at ht
      obtain ⟨hm1, hm2⟩ := hm0
      have HP := Lib.hid (tickPost (w := w) ht ((hk.set 1 (.int .i64 (s + m))).set 2 (.int .i64 0)) (Gby.set (Gby.set (World.grownBy.refl w _) 1 _) 2 _))
      clear hk ht he hm
      go_enter Try.func49, Try.ntmps49
      go_wp2_with fail
      refine (fst_at _ (s + 1) (n) _ _ (by omega) (by omega) (by omega) (by omega) HF.out).mono ?_
      rintro e w' ⟨rfl, rfl⟩
      go_wp2
      go_ret2
      exact HP.out
    · by_cases hq : q < 3
      · have ht := tick_2 (s := s) hna (by rw [he]; exact hs) hq
        have HP := Lib.hid (tickPost (w := w) ht (hk.set 2 (.int .i64 (q + 1))) (Gby.set (World.grownBy.refl w _) 2 _))
        have hq4 : q + 1 < 4 := by omega
        clear hk ht he
        go_enter Try.func49, Try.ntmps49
        go_wp2
        go_ret2
        exact HP.out
      · have ht := tick_3 (s := s) hna (by rw [he]; exact hs) hq
        rw [he] at ht
        have hq3 : q = 3 := by omega
        subst hq3
        have HF := Lib.hid (show fstL (a + 1) (n) = (a + 1, sbat a (n)) by rw [fst_yes (by omega)]; refine Prod.ext rfl ?_; simp only [sbat]; omega)
        have HP := Lib.hid (tickPost (w := w) ht ((hk.set 2 (.int .i64 4)).set 2 (.int .i64 0)) (Gby.set (Gby.set (World.grownBy.refl w _) 2 _) 2 _))
        clear hk ht he
        go_enter Try.func49, Try.ntmps49
        go_wp2_with fail
        refine (fst_at _ (a + 1) (n) _ _ (by omega) (by omega) (by omega) (by omega) HF.out).mono ?_
        rintro e w' ⟨rfl, rfl⟩
        go_wp2
        go_ret2
        exact HP.out
  · have he : send a n = a + 8 := by unfold send; omega
    by_cases hs : s < a + 8
    · have ht := tick_1 (s := s) (q := q) hna (by rw [he]; exact hs)
      rw [he] at ht
      obtain ⟨m, hm⟩ : ∃ m, m = sbat s (a + 8) := ⟨_, rfl⟩
      have hm0 : 0 ≤ m ∧ m ≤ 4 := by rw [hm]; unfold sbat; omega
      have HF := Lib.hid (show fstL (s + 1) (a + 8) = (s + 1, m) by rw [fst_yes (by omega), hm]; refine Prod.ext rfl ?_; simp only [sbat]; omega)
      rw [← hm] at ht
      obtain ⟨hm1, hm2⟩ := hm0
      have HP := Lib.hid (tickPost (w := w) ht ((hk.set 1 (.int .i64 (s + m))).set 2 (.int .i64 0)) (Gby.set (Gby.set (World.grownBy.refl w _) 1 _) 2 _))
      clear hk ht he hm
      go_enter Try.func49, Try.ntmps49
      go_wp2_with fail
      refine (fst_at _ (s + 1) (a + 8) _ _ (by omega) (by omega) (by omega) (by omega) HF.out).mono ?_
      rintro e w' ⟨rfl, rfl⟩
      go_wp2
      go_ret2
      exact HP.out
    · by_cases hq : q < 3
      · have ht := tick_2 (s := s) hna (by rw [he]; exact hs) hq
        have HP := Lib.hid (tickPost (w := w) ht (hk.set 2 (.int .i64 (q + 1))) (Gby.set (World.grownBy.refl w _) 2 _))
        have hq4 : q + 1 < 4 := by omega
        clear hk ht he
        go_enter Try.func49, Try.ntmps49
        go_wp2
        go_ret2
        exact HP.out
      · have ht := tick_3 (s := s) hna (by rw [he]; exact hs) hq
        rw [he] at ht
        have hq3 : q = 3 := by omega
        subst hq3
        have HF := Lib.hid (show fstL (a + 1) (a + 8) = (a + 1, sbat a (a + 8)) by rw [fst_yes (by omega)]; refine Prod.ext rfl ?_; simp only [sbat]; omega)
        have HP := Lib.hid (tickPost (w := w) ht ((hk.set 2 (.int .i64 4)).set 2 (.int .i64 0)) (Gby.set (Gby.set (World.grownBy.refl w _) 2 _) 2 _))
        clear hk ht he
        go_enter Try.func49, Try.ntmps49
        go_wp2_with fail
        refine (fst_at _ (a + 1) (a + 8) _ _ (by omega) (by omega) (by omega) (by omega) HF.out).mono ?_
        rintro e w' ⟨rfl, rfl⟩
        go_wp2
        go_ret2
        exact HP.out
set_option maxRecDepth 100000 in
theorem RAck_any (w : World) (g : Nat) (a s q to n : Int) (hk : Blk w g 84 (scs a s q)) :
    Calls Try.prog 51 #[.pointer (some ⟨g, 0, none⟩), .int .i64 to, .int .i64 n] w (AckPost w g 84 (ackL a s q to n)) := by
  obtain ⟨c0, c1, c2, cf⟩ := hk.three
  by_cases h1 : to ≤ a
  · have HP := Lib.hid (ackPost (w := w) (ack_no (s := s) (q := q) (n := n) (.inl h1)) hk (World.grownBy.refl w _))
    clear hk
    go_enter Try.func51, Try.ntmps51
    go_wp2
    go_ret
    exact HP.out
  · by_cases h2 : n < to
    · have HP := Lib.hid (ackPost (w := w) (ack_no (a := a) (s := s) (q := q) (.inr h2)) hk (World.grownBy.refl w _))
      clear hk
      go_enter Try.func51, Try.ntmps51
      go_wp2
      go_ret
      exact HP.out
    · have hy := ack_yes (s := s) (q := q) (show ¬ (to ≤ a ∨ n < to) by omega)
      by_cases h3 : s < to
      · rw [show max s to = to by omega] at hy
        have HP := Lib.hid (ackPost (w := w) hy (((hk.set 0 (.int .i64 to)).set 1 (.int .i64 to)).set 2 (.int .i64 0)) (Gby.set (Gby.set (Gby.set (World.grownBy.refl w _) 0 _) 1 _) 2 _))
        clear hk hy
        go_enter Try.func51, Try.ntmps51
        go_wp2
        go_ret
        exact HP.out
      · rw [show max s to = s by omega] at hy
        have HP := Lib.hid (ackPost (w := w) hy ((hk.set 0 (.int .i64 to)).set 2 (.int .i64 0)) (Gby.set (Gby.set (World.grownBy.refl w _) 0 _) 2 _))
        clear hk hy
        go_enter Try.func51, Try.ntmps51
        go_wp2
        go_ret
        exact HP.out
theorem rask_eq {f to b n : Int} (x t : Int) (hx : max (max f 1) (b + 1) = x) (ht : min to n = t) : fstL x t = askL f to b n := by
  subst hx ht
  unfold fstL askL
  by_cases h : min to n ≤ max (max b 0) (f - 1)
  · rw [if_pos h, if_pos (by omega)]
  · rw [if_neg h, if_neg (by omega)]
    refine Prod.ext ?_ ?_
    · simp only; omega
    · simp only [sbat]; omega
set_option maxRecDepth 100000 in
set_option maxHeartbeats 2000000 in
theorem RAsk_any (w : World) (p : Value) (f to b n : Int) (hf : -2305843009213693952 ≤ f ∧ f ≤ 2305843009213693952) (ht : -2305843009213693952 ≤ to ∧ to ≤ 2305843009213693952) (hb : -2305843009213693952 ≤ b ∧ b ≤ 2305843009213693952) (hn : -2305843009213693952 ≤ n ∧ n ≤ 2305843009213693952) :
    Calls Try.prog 53 #[p, .int .i64 f, .int .i64 to, .int .i64 b, .int .i64 n] w (AskPost w (askL f to b n)) := by
  obtain ⟨f0, f1⟩ := hf
  obtain ⟨t0, t1⟩ := ht
  obtain ⟨b0, b1⟩ := hb
  obtain ⟨n0, n1⟩ := hn
  obtain ⟨x, y, hxy⟩ : ∃ x y, askL f to b n = (x, y) := ⟨_, _, rfl⟩
  have HX := Lib.hid hxy
  have HPS := Lib.hid (askPost (w := w) hxy)
  clear hxy
  by_cases h1 : f < 1
  · skip
    by_cases h2 : 1 ≤ b
    · skip
      by_cases h3 : n < to
      · have HF := Lib.hid ((rask_eq (f := f) (to := to) (b := b) (n := n) (b + 1) (n) (by omega) (by omega)).trans HX.out)
        go_enter Try.func53, Try.ntmps53
        go_wp2_with fail
        refine (fst_at _ (b + 1) (n) _ _ (by omega) (by omega) (by omega) (by omega) HF.out).mono ?_
        rintro e w' ⟨rfl, rfl⟩
        go_wp2
        go_ret2
        exact HPS.out
      · have HF := Lib.hid ((rask_eq (f := f) (to := to) (b := b) (n := n) (b + 1) (to) (by omega) (by omega)).trans HX.out)
        go_enter Try.func53, Try.ntmps53
        go_wp2_with fail
        refine (fst_at _ (b + 1) (to) _ _ (by omega) (by omega) (by omega) (by omega) HF.out).mono ?_
        rintro e w' ⟨rfl, rfl⟩
        go_wp2
        go_ret2
        exact HPS.out
    · skip
      by_cases h3 : n < to
      · have HF := Lib.hid ((rask_eq (f := f) (to := to) (b := b) (n := n) (1) (n) (by omega) (by omega)).trans HX.out)
        go_enter Try.func53, Try.ntmps53
        go_wp2_with fail
        refine (fst_at _ (1) (n) _ _ (by omega) (by omega) (by omega) (by omega) HF.out).mono ?_
        rintro e w' ⟨rfl, rfl⟩
        go_wp2
        go_ret2
        exact HPS.out
      · have HF := Lib.hid ((rask_eq (f := f) (to := to) (b := b) (n := n) (1) (to) (by omega) (by omega)).trans HX.out)
        go_enter Try.func53, Try.ntmps53
        go_wp2_with fail
        refine (fst_at _ (1) (to) _ _ (by omega) (by omega) (by omega) (by omega) HF.out).mono ?_
        rintro e w' ⟨rfl, rfl⟩
        go_wp2
        go_ret2
        exact HPS.out
  · skip
    by_cases h2 : f ≤ b
    · skip
      by_cases h3 : n < to
      · have HF := Lib.hid ((rask_eq (f := f) (to := to) (b := b) (n := n) (b + 1) (n) (by omega) (by omega)).trans HX.out)
        go_enter Try.func53, Try.ntmps53
        go_wp2_with fail
        refine (fst_at _ (b + 1) (n) _ _ (by omega) (by omega) (by omega) (by omega) HF.out).mono ?_
        rintro e w' ⟨rfl, rfl⟩
        go_wp2
        go_ret2
        exact HPS.out
      · have HF := Lib.hid ((rask_eq (f := f) (to := to) (b := b) (n := n) (b + 1) (to) (by omega) (by omega)).trans HX.out)
        go_enter Try.func53, Try.ntmps53
        go_wp2_with fail
        refine (fst_at _ (b + 1) (to) _ _ (by omega) (by omega) (by omega) (by omega) HF.out).mono ?_
        rintro e w' ⟨rfl, rfl⟩
        go_wp2
        go_ret2
        exact HPS.out
    · skip
      by_cases h3 : n < to
      · have HF := Lib.hid ((rask_eq (f := f) (to := to) (b := b) (n := n) (f) (n) (by omega) (by omega)).trans HX.out)
        go_enter Try.func53, Try.ntmps53
        go_wp2_with fail
        refine (fst_at _ (f) (n) _ _ (by omega) (by omega) (by omega) (by omega) HF.out).mono ?_
        rintro e w' ⟨rfl, rfl⟩
        go_wp2
        go_ret2
        exact HPS.out
      · have HF := Lib.hid ((rask_eq (f := f) (to := to) (b := b) (n := n) (f) (to) (by omega) (by omega)).trans HX.out)
        go_enter Try.func53, Try.ntmps53
        go_wp2_with fail
        refine (fst_at _ (f) (to) _ _ (by omega) (by omega) (by omega) (by omega) HF.out).mono ?_
        rintro e w' ⟨rfl, rfl⟩
        go_wp2
        go_ret2
        exact HPS.out
end Go.Proofs.Ytignfhdblakcfaa
