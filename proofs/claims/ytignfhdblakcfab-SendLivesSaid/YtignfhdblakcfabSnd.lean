/- send.Sender: what its calls answer, and what it is then. -/
import Derived.Test.YtignfhdblakcfabGby
import Derived.Test.YtignfhdblakcfabInv
import Derived.Handy
import Derived.Laws.EntriesVeiled
namespace Go.Proofs.Ytignfhdblakcfab
open Go.ChangeShapes Go.WideShapes Go.ChangeAt Go.RowKit
set_option linter.unusedVariables false
set_option linter.unusedSimpArgs false

/-- what a sender is: acked, sent, quiet -/
def SI (a s q : Int) : Prop := 0 ≤ a ∧ a ≤ 4611686018427387903 ∧ a ≤ s ∧ s ≤ a + 8 ∧ 0 ≤ q ∧ q ≤ 3
def sbat (above to : Int) : Int := min (to - above) 4
def send (a n : Int) : Int := min n (a + 8)
/-- what Tick answers, and what it is then -/
def tickL (a s q n : Int) : (Int × Int) × (Int × Int × Int) :=
  if n ≤ a then ((0, 0), (a, s, 0))
  else if s < send a n then ((s + 1, sbat s (send a n)), (a, s + sbat s (send a n), 0))
  else if q < 3 then ((0, 0), (a, s, q + 1))
  else ((a + 1, sbat a (send a n)), (a, s, 0))
def ackL (a s q to n : Int) : Bool × (Int × Int × Int) := if to ≤ a ∨ n < to then (false, (a, s, q)) else (true, (to, max s to, 0))
def askL (f to b n : Int) : Int × Int := if min to n ≤ max (max b 0) (f - 1) then (0, 0) else (max (max b 0) (f - 1) + 1, sbat (max (max b 0) (f - 1)) (min to n))
theorem SI.tick {a s q n : Int} (h : SI a s q) : SI (tickL a s q n).2.1 (tickL a s q n).2.2.1 (tickL a s q n).2.2.2 := by
  obtain ⟨h1, h2, h3, h4, h5, h6⟩ := h
  unfold tickL
  split
  · exact ⟨h1, h2, h3, h4, by simp, by simp⟩
  split
  · next hn hs => exact ⟨h1, h2, by simp only [sbat, send] at *; omega, by simp only [sbat, send] at *; omega, by simp, by simp⟩
  split
  · exact ⟨h1, h2, h3, h4, by simp only; omega, by simp only; omega⟩
  · exact ⟨h1, h2, h3, h4, by simp, by simp⟩
theorem SI.ack {a s q to n : Int} (h : SI a s q) (hn : n ≤ 4611686018427387903) : SI (ackL a s q to n).2.1 (ackL a s q to n).2.2.1 (ackL a s q to n).2.2.2 := by
  obtain ⟨h1, h2, h3, h4, h5, h6⟩ := h
  unfold ackL
  split
  · exact ⟨h1, h2, h3, h4, h5, h6⟩
  · next hh => exact ⟨by simp only; omega, by simp only; omega, by simp only; omega, by simp only; omega, by simp, by simp⟩

abbrev scs (a s q : Int) : Array Value := #[.int .i64 a, .int .i64 s, .int .i64 q]
theorem batch_any (w : World) (a b : Int) (h0 : -9223372036854775808 ≤ b - a) (h1 : b - a ≤ 9223372036854775807) :
    Calls Try.prog 15 #[.int .i64 a, .int .i64 b] w fun e w' => e = .returned (.int .i64 (sbat a b)) ∧ w = w' := by
  have hw : IntKind.i64.wrap (b - a) = b - a := IntWalk.i64_in _ ⟨by omega, by omega⟩
  go_enter Try.func15, Try.ntmps15
  go_wp2
  all_goals (go_ret; exact ⟨ret_eq (by show Value.int .i64 _ = Value.int .i64 _; congr 1; simp only [sbat]; omega), rfl⟩)
def NewPost (w : World) (n : Int) (t : TypeId) (e : Ending) (w' : World) : Prop :=
  (if 0 ≤ n ∧ n ≤ 4611686018427387903 then e = .returned (.tuple #[.pointer (some ⟨w.heap.size, 0, none⟩), .int .i64 0]) ∧ Blk w' w.heap.size t (scs n n 0) else e = .returned (.tuple #[.pointer none, .int .i64 1])) ∧ Below w.heap.size w w'
theorem newPost_ok {w w' : World} {n : Int} {t : TypeId} (h0 : 0 ≤ n) (h1 : n ≤ 4611686018427387903) (hb : Blk w' w.heap.size t (scs n n 0)) (hbl : Below w.heap.size w w') : NewPost w n t (.returned (.tuple #[.pointer (some ⟨w.heap.size, 0, none⟩), .int .i64 0])) w' := by
  refine ⟨?_, hbl⟩; rw [if_pos ⟨h0, h1⟩]; exact ⟨rfl, hb⟩
theorem newPost_no {w w' : World} {n : Int} {t : TypeId} (h : ¬ (0 ≤ n ∧ n ≤ 4611686018427387903)) (hbl : Below w.heap.size w w') : NewPost w n t (.returned (.tuple #[.pointer none, .int .i64 1])) w' := by
  refine ⟨?_, hbl⟩; rw [if_neg h]
theorem New_any (w : World) (n : Int) : Calls Try.prog 6 #[.int .i64 n] w (NewPost w n 40) := by
  by_cases h : 0 ≤ n ∧ n ≤ 4611686018427387903
  · obtain ⟨h0, h1⟩ := h
    have HP := Lib.hid (newPost_ok (w := w) (t := 40) h0 h1 (Blk.new w 40 (scs n n 0)) ((Below.refl _ _).alloc (Nat.le_refl _) _))
    go_enter Try.func6, Try.ntmps6
    go_wp2
    go_ret2
    exact HP.out
  · have HP := Lib.hid (newPost_no (w := w) (w' := w) (t := 40) h (Below.refl _ _))
    by_cases h0 : 0 ≤ n
    · have h1 : 4611686018427387903 < n := by omega
      clear h
      go_enter Try.func6, Try.ntmps6
      go_wp2
      go_ret2
      exact HP.out
    · have h1 : n < 0 := by omega
      clear h
      go_enter Try.func6, Try.ntmps6
      go_wp2
      go_ret2
      exact HP.out
def StatePost (w : World) (g : Nat) (t : TypeId) (v : Value) (a s q : Int) (e : Ending) (w' : World) : Prop := e = .returned v ∧ Blk w' g t (scs a s q) ∧ w.grownBy w' (some g)
set_option maxRecDepth 100000 in
theorem goOn_any (w : World) (g : Nat) (a s q n : Int) (hk : Blk w g 40 (scs a s q)) (h0 : 0 ≤ s) (h1 : s < n) (h2 : n ≤ 4611686018427387912) :
    Calls Try.prog 13 #[.pointer (some ⟨g, 0, none⟩), .int .i64 n] w (StatePost w g 40 (.tuple #[.int .i64 (s + 1), .int .i64 (sbat s n)]) a (s + sbat s n) 0) := by
  obtain ⟨c0, c1, c2, cf⟩ := hk.three
  have hb0 : 1 ≤ sbat s n := by unfold sbat; omega
  have hb1 : sbat s n ≤ 4 := by unfold sbat; omega
  have HP : StatePost w g 40 (.tuple #[.int .i64 (s + 1), .int .i64 (sbat s n)]) a (s + sbat s n) 0 (.returned (.tuple #[.int .i64 (s + 1), .int .i64 (sbat s n)])) ((w.setCell ⟨g, 1, none⟩ (.int .i64 (s + sbat s n))).setCell ⟨g, 2, none⟩ (.int .i64 0)) :=
    ⟨rfl, (hk.set 1 _).set 2 _, Gby.set (Gby.set (World.grownBy.refl w _) 1 _) 2 _⟩
  have HPP := Lib.hid HP; clear HP hk
  have HB := Lib.hid (fun (w : World) => batch_any w s n (by omega) (by omega))
  obtain ⟨m, hm⟩ : ∃ m, m = sbat s n := ⟨_, rfl⟩
  rw [← hm] at hb0 hb1 HPP HB ⊢
  clear hm
  go_enter Try.func13, Try.ntmps13
  go_wp2_with fail
  refine (HB.out _).mono ?_
  rintro e w' ⟨rfl, rfl⟩
  go_wp2
  go_ret2
  exact HPP.out
set_option maxRecDepth 100000 in
theorem again_any (w : World) (g : Nat) (a s q n : Int) (hk : Blk w g 40 (scs a s q)) (h0 : 0 ≤ a) (h1 : a < n) (h2 : n ≤ 4611686018427387912) (h3 : 0 ≤ q) (h4 : q ≤ 3) :
    Calls Try.prog 14 #[.pointer (some ⟨g, 0, none⟩), .int .i64 n] w (if q < 3 then StatePost w g 40 (.tuple #[.int .i64 0, .int .i64 0]) a s (q + 1) else StatePost w g 40 (.tuple #[.int .i64 (a + 1), .int .i64 (sbat a n)]) a s 0) := by
  obtain ⟨c0, c1, c2, cf⟩ := hk.three
  by_cases hq : q < 3
  · rw [if_pos hq]
    have HP : StatePost w g 40 (.tuple #[.int .i64 0, .int .i64 0]) a s (q + 1) (.returned (.tuple #[.int .i64 0, .int .i64 0])) (w.setCell ⟨g, 2, none⟩ (.int .i64 (q + 1))) :=
      ⟨rfl, hk.set 2 _, Gby.set (World.grownBy.refl w _) 2 _⟩
    have HPP := Lib.hid HP; clear HP hk
    have hq4 : q + 1 < 4 := by omega
    go_enter Try.func14, Try.ntmps14
    go_wp2
    go_ret2
    exact HPP.out
  · rw [if_neg hq]
    have hq3 : q = 3 := by omega
    subst hq3
    have HP : ∀ w', Below ((w.setCell ⟨g, 2, none⟩ (.int .i64 4)).setCell ⟨g, 2, none⟩ (.int .i64 0)).heap.size ((w.setCell ⟨g, 2, none⟩ (.int .i64 4)).setCell ⟨g, 2, none⟩ (.int .i64 0)) w' → StatePost w g 40 (.tuple #[.int .i64 (a + 1), .int .i64 (sbat a n)]) a s 0 (.returned (.tuple #[.int .i64 (a + 1), .int .i64 (sbat a n)])) w' := fun w' hb =>
      ⟨rfl, ((hk.set 2 _).set 2 _).below hb ((hk.set 2 _).set 2 _).lt, Gby.trans (Gby.set (Gby.set (World.grownBy.refl w _) 2 _) 2 _) (Gby.below hb)⟩
    have HPP := Lib.hid HP
    have HK := Lib.hid (show Blk ((w.setCell ⟨g, 2, none⟩ (.int .i64 4)).setCell ⟨g, 2, none⟩ (.int .i64 0)) g 40 (scs a s 0) from (hk.set 2 (.int .i64 4)).set 2 (.int .i64 0))
    clear HP hk
    go_enter Try.func14, Try.ntmps14
    go_wp2
    refine Inv.region_below (fun i v w' => match i with
        | 0 => v = .pointer (some ⟨g, 0, none⟩)
        | 1 => v = .pointer (some ⟨g, 0, none⟩)
        | 2 => v = .pointer (some ⟨g, 0, none⟩)
        | 3 => v = .int .i64 a
        | 4 => v = .int .i64 (a + 1)
        | 5 => v = .pointer (some ⟨g, 0, none⟩)
        | 6 => v = .pointer (some ⟨g, 0, none⟩)
        | 7 => v = .pointer (some ⟨g, 0, none⟩)
        | 8 => v = .int .i64 a
        | 9 => v = .int .i64 n
        | 10 => v = .int .i64 (sbat a n)
        | 11 => v = .int .i64 (a + 1)
        | 12 => v = .int .i64 (sbat a n)
        | _ => True)
      (fun w' => Below ((w.setCell ⟨g, 2, none⟩ (.int .i64 4)).setCell ⟨g, 2, none⟩ (.int .i64 0)).heap.size ((w.setCell ⟨g, 2, none⟩ (.int .i64 4)).setCell ⟨g, 2, none⟩ (.int .i64 0)) w' ∧ Blk w' g 40 (scs a s 0)) 32 [21, 22, 23, 24, 25, 26, 27, 28, 29, 30, 31, 4, 5] (by kernel_rfl) rfl (by kernel_rfl) (by kernel_rfl) ?_ ?_ ?_ ?_
    · intro v v' hC hb
      obtain ⟨hB, hK0⟩ := hC
      exact ⟨hB.trans (hb.mono hB.size), hK0.below hb hK0.lt⟩
    · exact ⟨(Below.refl _ _).drew, HK.out⟩
    · refine ⟨⟨fun _ _ _ h _ => h, ?_⟩, ⟨fun _ _ _ h _ => h, ?_⟩, ⟨fun _ _ _ h _ => h, ?_⟩, ⟨fun _ _ _ h _ => h, ?_⟩, ⟨fun _ _ _ h _ => h, ?_⟩, ⟨fun _ _ _ h _ => h, ?_⟩, ⟨fun _ _ _ h _ => h, ?_⟩, ⟨fun _ _ _ h _ => h, ?_⟩, ⟨fun _ _ _ h _ => h, ?_⟩, ⟨fun _ _ _ h _ => h, ?_⟩, ⟨fun _ _ _ h _ => h, ?_⟩, ⟨fun _ _ _ h _ => h, ?_⟩, ⟨fun _ _ _ h _ => h, ?_⟩, trivial⟩
      · intro act wa hC hd H O K hK
        clear hd
        obtain ⟨hB, hK0⟩ := hC
        have h0 := O 0 (by kernel_rfl)
        have g0 := Array.getD_eq_getD_getElem?.symm.trans h0
        clear H O
        obtain ⟨x0, x1, x2, xf⟩ := hK0.three
        have hw : IntKind.i64.wrap (a + 1) = a + 1 := IntWalk.i64_in _ ⟨by omega, by omega⟩
        go_simp
        exact hK _ _ (Below.refl _ _) (fun _ => rfl)
      · intro act wa hC hd H O K hK
        clear hd
        obtain ⟨hB, hK0⟩ := hC
        have h21 : act.tmps.getD 21 undef = .pointer (some ⟨g, 0, none⟩) := H 1 0 21 (by kernel_rfl) rfl
        have g21 := Array.getD_eq_getD_getElem?.symm.trans h21
        clear H O
        obtain ⟨x0, x1, x2, xf⟩ := hK0.three
        have hw : IntKind.i64.wrap (a + 1) = a + 1 := IntWalk.i64_in _ ⟨by omega, by omega⟩
        go_simp
        exact hK _ _ (Below.refl _ _) (fun _ => rfl)
      · intro act wa hC hd H O K hK
        clear hd
        obtain ⟨hB, hK0⟩ := hC
        have h22 : act.tmps.getD 22 undef = .pointer (some ⟨g, 0, none⟩) := H 1 1 22 (by kernel_rfl) rfl
        have g22 := Array.getD_eq_getD_getElem?.symm.trans h22
        clear H O
        obtain ⟨x0, x1, x2, xf⟩ := hK0.three
        have hw : IntKind.i64.wrap (a + 1) = a + 1 := IntWalk.i64_in _ ⟨by omega, by omega⟩
        go_simp
        exact hK _ _ (Below.refl _ _) (fun _ => rfl)
      · intro act wa hC hd H O K hK
        clear hd
        obtain ⟨hB, hK0⟩ := hC
        have h23 : act.tmps.getD 23 undef = .pointer (some ⟨g, 0, none⟩) := H 1 2 23 (by kernel_rfl) rfl
        have g23 := Array.getD_eq_getD_getElem?.symm.trans h23
        clear H O
        obtain ⟨x0, x1, x2, xf⟩ := hK0.three
        have hw : IntKind.i64.wrap (a + 1) = a + 1 := IntWalk.i64_in _ ⟨by omega, by omega⟩
        go_simp
        exact hK _ _ (Below.refl _ _) (fun _ => rfl)
      · intro act wa hC hd H O K hK
        clear hd
        obtain ⟨hB, hK0⟩ := hC
        have h24 : act.tmps.getD 24 undef = .int .i64 a := H 1 3 24 (by kernel_rfl) rfl
        have g24 := Array.getD_eq_getD_getElem?.symm.trans h24
        clear H O
        obtain ⟨x0, x1, x2, xf⟩ := hK0.three
        have hw : IntKind.i64.wrap (a + 1) = a + 1 := IntWalk.i64_in _ ⟨by omega, by omega⟩
        go_simp
        exact hK _ _ (Below.refl _ _) (fun _ => rfl)
      · intro act wa hC hd H O K hK
        clear hd
        obtain ⟨hB, hK0⟩ := hC
        have h0 := O 0 (by kernel_rfl)
        have g0 := Array.getD_eq_getD_getElem?.symm.trans h0
        clear H O
        obtain ⟨x0, x1, x2, xf⟩ := hK0.three
        have hw : IntKind.i64.wrap (a + 1) = a + 1 := IntWalk.i64_in _ ⟨by omega, by omega⟩
        go_simp
        exact hK _ _ (Below.refl _ _) (fun _ => rfl)
      · intro act wa hC hd H O K hK
        clear hd
        obtain ⟨hB, hK0⟩ := hC
        have h26 : act.tmps.getD 26 undef = .pointer (some ⟨g, 0, none⟩) := H 1 5 26 (by kernel_rfl) rfl
        have g26 := Array.getD_eq_getD_getElem?.symm.trans h26
        clear H O
        obtain ⟨x0, x1, x2, xf⟩ := hK0.three
        have hw : IntKind.i64.wrap (a + 1) = a + 1 := IntWalk.i64_in _ ⟨by omega, by omega⟩
        go_simp
        exact hK _ _ (Below.refl _ _) (fun _ => rfl)
      · intro act wa hC hd H O K hK
        clear hd
        obtain ⟨hB, hK0⟩ := hC
        have h27 : act.tmps.getD 27 undef = .pointer (some ⟨g, 0, none⟩) := H 1 6 27 (by kernel_rfl) rfl
        have g27 := Array.getD_eq_getD_getElem?.symm.trans h27
        clear H O
        obtain ⟨x0, x1, x2, xf⟩ := hK0.three
        have hw : IntKind.i64.wrap (a + 1) = a + 1 := IntWalk.i64_in _ ⟨by omega, by omega⟩
        go_simp
        exact hK _ _ (Below.refl _ _) (fun _ => rfl)
      · intro act wa hC hd H O K hK
        clear hd
        obtain ⟨hB, hK0⟩ := hC
        have h28 : act.tmps.getD 28 undef = .pointer (some ⟨g, 0, none⟩) := H 1 7 28 (by kernel_rfl) rfl
        have g28 := Array.getD_eq_getD_getElem?.symm.trans h28
        clear H O
        obtain ⟨x0, x1, x2, xf⟩ := hK0.three
        have hw : IntKind.i64.wrap (a + 1) = a + 1 := IntWalk.i64_in _ ⟨by omega, by omega⟩
        go_simp
        exact hK _ _ (Below.refl _ _) (fun _ => rfl)
      · intro act wa hC hd H O K hK
        clear hd
        obtain ⟨hB, hK0⟩ := hC
        have h1 := O 1 (by kernel_rfl)
        have g1 := Array.getD_eq_getD_getElem?.symm.trans h1
        clear H O
        obtain ⟨x0, x1, x2, xf⟩ := hK0.three
        have hw : IntKind.i64.wrap (a + 1) = a + 1 := IntWalk.i64_in _ ⟨by omega, by omega⟩
        go_simp
        exact hK _ _ (Below.refl _ _) (fun _ => rfl)
      · intro act wa hC hd H O K hK
        clear hd
        obtain ⟨hB, hK0⟩ := hC
        have h29 : act.tmps.getD 29 undef = .int .i64 a := H 1 8 29 (by kernel_rfl) rfl
        have g29 := Array.getD_eq_getD_getElem?.symm.trans h29
        have h30 : act.tmps.getD 30 undef = .int .i64 n := H 1 9 30 (by kernel_rfl) rfl
        have g30 := Array.getD_eq_getD_getElem?.symm.trans h30
        clear H O
        obtain ⟨x0, x1, x2, xf⟩ := hK0.three
        have hw : IntKind.i64.wrap (a + 1) = a + 1 := IntWalk.i64_in _ ⟨by omega, by omega⟩
        go_simp
        refine (batch_any _ a n (by omega) (by omega)).mono ?_
        rintro e w1 ⟨rfl, rfl⟩
        exact hK _ _ (Below.refl _ _) (fun _ => rfl)
      · intro act wa hC hd H O K hK
        clear hd
        obtain ⟨hB, hK0⟩ := hC
        have h25 : act.tmps.getD 25 undef = .int .i64 (a + 1) := H 1 4 25 (by kernel_rfl) rfl
        have g25 := Array.getD_eq_getD_getElem?.symm.trans h25
        clear H O
        obtain ⟨x0, x1, x2, xf⟩ := hK0.three
        have hw : IntKind.i64.wrap (a + 1) = a + 1 := IntWalk.i64_in _ ⟨by omega, by omega⟩
        go_simp
        exact hK _ _ (Below.refl _ _) (fun _ => rfl)
      · intro act wa hC hd H O K hK
        clear hd
        obtain ⟨hB, hK0⟩ := hC
        have h31 : act.tmps.getD 31 undef = .int .i64 (sbat a n) := H 1 10 31 (by kernel_rfl) rfl
        have g31 := Array.getD_eq_getD_getElem?.symm.trans h31
        clear H O
        obtain ⟨x0, x1, x2, xf⟩ := hK0.three
        have hw : IntKind.i64.wrap (a + 1) = a + 1 := IntWalk.i64_in _ ⟨by omega, by omega⟩
        go_simp
        exact hK _ _ (Below.refl _ _) (fun _ => rfl)
    · intro us w' hC hF
      obtain ⟨hB, hK0⟩ := hC
      have u4 : us 4 = .int .i64 (a + 1) := hF 11 4 rfl
      have u5 : us 5 = .int .i64 (sbat a n) := hF 12 5 rfl
      clear hF
      simp only [List.foldl]
      go_simp
      go_wp2
      go_ret2
      have h9 := HPP.out w' hB
      exact (by simpa [u4, u5] using h9)
theorem tick_0 {a s q n : Int} (h : n ≤ a) : tickL a s q n = ((0, 0), (a, s, 0)) := by rw [tickL, if_pos h]
theorem tick_1 {a s q n : Int} (h : ¬ n ≤ a) (h1 : s < send a n) : tickL a s q n = ((s + 1, sbat s (send a n)), (a, s + sbat s (send a n), 0)) := by rw [tickL, if_neg h, if_pos h1]
theorem tick_2 {a s q n : Int} (h : ¬ n ≤ a) (h1 : ¬ s < send a n) (h2 : q < 3) : tickL a s q n = ((0, 0), (a, s, q + 1)) := by rw [tickL, if_neg h, if_neg h1, if_pos h2]
theorem tick_3 {a s q n : Int} (h : ¬ n ≤ a) (h1 : ¬ s < send a n) (h2 : ¬ q < 3) : tickL a s q n = ((a + 1, sbat a (send a n)), (a, s, 0)) := by rw [tickL, if_neg h, if_neg h1, if_neg h2]
def TickPost (w : World) (g : Nat) (t : TypeId) (r : (Int × Int) × (Int × Int × Int)) (e : Ending) (w' : World) : Prop := StatePost w g t (.tuple #[.int .i64 r.1.1, .int .i64 r.1.2]) r.2.1 r.2.2.1 r.2.2.2 e w'
theorem tickPost {w w' : World} {g : Nat} {t : TypeId} {r : (Int × Int) × (Int × Int × Int)} {f m a s q : Int} (hr : r = ((f, m), (a, s, q))) (hb : Blk w' g t (scs a s q)) (hg : w.grownBy w' (some g)) : TickPost w g t r (.returned (.tuple #[.int .i64 f, .int .i64 m])) w' := by
  subst hr; exact ⟨rfl, hb, hg⟩
set_option maxRecDepth 100000 in
set_option maxHeartbeats 1000000 in
theorem Tick_any (w : World) (g : Nat) (a s q n : Int) (hk : Blk w g 40 (scs a s q)) (hi : SI a s q) (h0 : -4611686018427387904 ≤ n) (h1 : n ≤ 4611686018427387903) :
    Calls Try.prog 7 #[.pointer (some ⟨g, 0, none⟩), .int .i64 n] w (TickPost w g 40 (tickL a s q n)) := by
  obtain ⟨c0, c1, c2, cf⟩ := hk.three
  obtain ⟨i1, i2, i3, i4, i5, i6⟩ := hi
  have hlt := hk.lt
  by_cases hna : n ≤ a
  · have HP := Lib.hid (tickPost (w := w) (tick_0 (s := s) (q := q) hna) (hk.set 2 (.int .i64 0)) (Gby.set (World.grownBy.refl w _) 2 _))
    clear hk
    go_enter Try.func7, Try.ntmps7
    go_wp2
    go_ret2
    exact HP.out
  by_cases h8 : 8 < n - a
  · have he : send a n = a + 8 := by unfold send; omega
    by_cases hs : s < a + 8
    · have ht := tick_1 (s := s) (q := q) hna (by rw [he]; exact hs)
      rw [he] at ht
      have HT := Lib.hid ht; clear ht he
      have HG := Lib.hid (fun (w' : World) (hk' : Blk w' g 40 (scs a s q)) => goOn_any w' g a s q (a + 8) hk' (by omega) (by omega) (by omega))
      have HK := Lib.hid hk; clear hk
      have hs2 := hs
      go_enter Try.func7, Try.ntmps7
      go_wp2_with fail
      refine (HG.out _ (HK.out.alloc _)).mono ?_
      rintro e w1 ⟨rfl, hb, hg⟩
      go_wp2
      go_ret2
      exact tickPost HT.out hb (Gby.trans (Gby.alloc (World.grownBy.refl w _) _) hg)
    · by_cases hq : q < 3
      · have ht := tick_2 (s := s) hna (by rw [he]; exact hs) hq
        have HT := Lib.hid ht; clear ht he
        have hg0 := fun (w' : World) (hk' : Blk w' g 40 (scs a s q)) => again_any w' g a s q (a + 8) hk' (by omega) (by omega) (by omega) (by omega) (by omega)
        simp only [if_pos hq] at hg0
        have HG := Lib.hid hg0; clear hg0
        have HK := Lib.hid hk; clear hk
        have hs2 := hs
        go_enter Try.func7, Try.ntmps7
        go_wp2_with fail
        refine (HG.out _ (HK.out.alloc _)).mono ?_
        rintro e w1 ⟨rfl, hb, hg⟩
        go_wp2
        go_ret2
        exact tickPost HT.out hb (Gby.trans (Gby.alloc (World.grownBy.refl w _) _) hg)
      · have ht := tick_3 (s := s) hna (by rw [he]; exact hs) hq
        rw [he] at ht
        have HT := Lib.hid ht; clear ht he
        have hg0 := fun (w' : World) (hk' : Blk w' g 40 (scs a s q)) => again_any w' g a s q (a + 8) hk' (by omega) (by omega) (by omega) (by omega) (by omega)
        simp only [if_neg hq] at hg0
        have HG := Lib.hid hg0; clear hg0
        have HK := Lib.hid hk; clear hk
        have hs2 := hs
        go_enter Try.func7, Try.ntmps7
        go_wp2_with fail
        refine (HG.out _ (HK.out.alloc _)).mono ?_
        rintro e w1 ⟨rfl, hb, hg⟩
        go_wp2
        go_ret2
        exact tickPost HT.out hb (Gby.trans (Gby.alloc (World.grownBy.refl w _) _) hg)
  · have he : send a n = n := by unfold send; omega
    by_cases hs : s < n
    · have ht := tick_1 (s := s) (q := q) hna (by rw [he]; exact hs)
      rw [he] at ht
      have HT := Lib.hid ht; clear ht he
      have HG := Lib.hid (fun (w' : World) (hk' : Blk w' g 40 (scs a s q)) => goOn_any w' g a s q (n) hk' (by omega) (by omega) (by omega))
      have HK := Lib.hid hk; clear hk
      have hs2 := hs
      go_enter Try.func7, Try.ntmps7
      go_wp2_with fail
      refine (HG.out _ (HK.out.alloc _)).mono ?_
      rintro e w1 ⟨rfl, hb, hg⟩
      go_wp2
      go_ret2
      exact tickPost HT.out hb (Gby.trans (Gby.alloc (World.grownBy.refl w _) _) hg)
    · by_cases hq : q < 3
      · have ht := tick_2 (s := s) hna (by rw [he]; exact hs) hq
        have HT := Lib.hid ht; clear ht he
        have hg0 := fun (w' : World) (hk' : Blk w' g 40 (scs a s q)) => again_any w' g a s q (n) hk' (by omega) (by omega) (by omega) (by omega) (by omega)
        simp only [if_pos hq] at hg0
        have HG := Lib.hid hg0; clear hg0
        have HK := Lib.hid hk; clear hk
        have hs2 := hs
        go_enter Try.func7, Try.ntmps7
        go_wp2_with fail
        refine (HG.out _ (HK.out.alloc _)).mono ?_
        rintro e w1 ⟨rfl, hb, hg⟩
        go_wp2
        go_ret2
        exact tickPost HT.out hb (Gby.trans (Gby.alloc (World.grownBy.refl w _) _) hg)
      · have ht := tick_3 (s := s) hna (by rw [he]; exact hs) hq
        rw [he] at ht
        have HT := Lib.hid ht; clear ht he
        have hg0 := fun (w' : World) (hk' : Blk w' g 40 (scs a s q)) => again_any w' g a s q (n) hk' (by omega) (by omega) (by omega) (by omega) (by omega)
        simp only [if_neg hq] at hg0
        have HG := Lib.hid hg0; clear hg0
        have HK := Lib.hid hk; clear hk
        have hs2 := hs
        go_enter Try.func7, Try.ntmps7
        go_wp2_with fail
        refine (HG.out _ (HK.out.alloc _)).mono ?_
        rintro e w1 ⟨rfl, hb, hg⟩
        go_wp2
        go_ret2
        exact tickPost HT.out hb (Gby.trans (Gby.alloc (World.grownBy.refl w _) _) hg)
theorem ack_no {a s q to n : Int} (h : to ≤ a ∨ n < to) : ackL a s q to n = (false, (a, s, q)) := by rw [ackL, if_pos h]
theorem ack_yes {a s q to n : Int} (h : ¬ (to ≤ a ∨ n < to)) : ackL a s q to n = (true, (to, max s to, 0)) := by rw [ackL, if_neg h]
def AckPost (w : World) (g : Nat) (t : TypeId) (r : Bool × (Int × Int × Int)) (e : Ending) (w' : World) : Prop := StatePost w g t (.bool r.1) r.2.1 r.2.2.1 r.2.2.2 e w'
theorem ackPost {w w' : World} {g : Nat} {t : TypeId} {r : Bool × (Int × Int × Int)} {f : Bool} {a s q : Int} (hr : r = (f, (a, s, q))) (hb : Blk w' g t (scs a s q)) (hg : w.grownBy w' (some g)) : AckPost w g t r (.returned (.bool f)) w' := by
  subst hr; exact ⟨rfl, hb, hg⟩
set_option maxRecDepth 100000 in
theorem Ack_any (w : World) (g : Nat) (a s q to n : Int) (hk : Blk w g 40 (scs a s q)) :
    Calls Try.prog 8 #[.pointer (some ⟨g, 0, none⟩), .int .i64 to, .int .i64 n] w (AckPost w g 40 (ackL a s q to n)) := by
  obtain ⟨c0, c1, c2, cf⟩ := hk.three
  by_cases h1 : to ≤ a
  · have HP := Lib.hid (ackPost (w := w) (ack_no (s := s) (q := q) (n := n) (.inl h1)) hk (World.grownBy.refl w _))
    clear hk
    go_enter Try.func8, Try.ntmps8
    go_wp2
    go_ret
    exact HP.out
  · by_cases h2 : n < to
    · have HP := Lib.hid (ackPost (w := w) (ack_no (a := a) (s := s) (q := q) (.inr h2)) hk (World.grownBy.refl w _))
      clear hk
      go_enter Try.func8, Try.ntmps8
      go_wp2
      go_ret
      exact HP.out
    · have hy := ack_yes (s := s) (q := q) (show ¬ (to ≤ a ∨ n < to) by omega)
      by_cases h3 : s < to
      · rw [show max s to = to by omega] at hy
        have HP := Lib.hid (ackPost (w := w) hy (((hk.set 0 (.int .i64 to)).set 1 (.int .i64 to)).set 2 (.int .i64 0)) (Gby.set (Gby.set (Gby.set (World.grownBy.refl w _) 0 _) 1 _) 2 _))
        clear hk hy
        have h4 : s ≤ to := by omega
        have hm : max s to = to := by omega
        go_enter Try.func8, Try.ntmps8
        go_wp2
        go_ret
        exact HP.out
      · rw [show max s to = s by omega] at hy
        have HP := Lib.hid (ackPost (w := w) hy (((hk.set 0 (.int .i64 to)).set 1 (.int .i64 s)).set 2 (.int .i64 0)) (Gby.set (Gby.set (Gby.set (World.grownBy.refl w _) 0 _) 1 _) 2 _))
        clear hk hy
        have hm : max s to = s := by omega
        go_enter Try.func8, Try.ntmps8
        go_wp2
        go_ret
        exact HP.out
theorem get_any (w : World) (g : Nat) (a s q : Int) (hk : Blk w g 40 (scs a s q)) :
    (Calls Try.prog 9 #[.pointer (some ⟨g, 0, none⟩)] w fun e w' => e = .returned (.int .i64 a) ∧ w = w') ∧
    (Calls Try.prog 12 #[.pointer (some ⟨g, 0, none⟩)] w fun e w' => e = .returned (.int .i64 s) ∧ w = w') ∧
    (Calls Try.prog 10 #[.pointer (some ⟨g, 0, none⟩)] w fun e w' => e = .returned (.int .i64 q) ∧ w = w') := by
  obtain ⟨c0, c1, c2, cf⟩ := hk.three
  refine ⟨?_, ?_, ?_⟩
  · go_enter Try.func9, Try.ntmps9
    go_wp2
    go_ret
    exact ⟨rfl, rfl⟩
  · go_enter Try.func12, Try.ntmps12
    go_wp2
    go_ret
    exact ⟨rfl, rfl⟩
  · go_enter Try.func10, Try.ntmps10
    go_wp2
    go_ret
    exact ⟨rfl, rfl⟩
end Go.Proofs.Ytignfhdblakcfab
