/- The statement SendSynced: its walk. -/
import Derived.Test.YtignfhdblakcfaaAw18
namespace Go.Proofs.Ytignfhdblakcfaa
open Go.ChangeShapes Go.WideShapes Go.ChangeAt Go.RowKit
set_option linter.unusedVariables false
set_option linter.unusedSimpArgs false

theorem tick_facts {a s q n : Int} (h : SI a s q) : ∃ f m s' q', tickL a s q n = ((f, m), (a, s', q')) ∧ SI a s' q' ∧ ((m = 0 ∧ f = 0) ∨ (1 ≤ m ∧ m ≤ 4 ∧ a < f ∧ 1 ≤ f ∧ f + m - 1 ≤ n ∧ f ≤ n)) := by
  have hs := h.tick (n := n)
  obtain ⟨h1, h2, h3, h4, h5, h6⟩ := h
  unfold tickL at *
  split
  · exact ⟨0, 0, s, 0, rfl, ⟨h1, h2, h3, h4, by simp, by simp⟩, .inl ⟨rfl, rfl⟩⟩
  · next hn =>
    rw [if_neg hn] at hs
    split
    · next hse =>
      rw [if_pos hse] at hs
      exact ⟨_, _, _, _, rfl, hs, .inr ⟨by unfold sbat; omega, by unfold sbat; omega, by omega, by omega, by unfold sbat; unfold send at hse ⊢; omega, by unfold send at hse; omega⟩⟩
    · next hse =>
      rw [if_neg hse] at hs
      split
      · next hq => exact ⟨_, _, _, _, rfl, ⟨h1, h2, h3, h4, by omega, by omega⟩, .inl ⟨rfl, rfl⟩⟩
      · next hq => exact ⟨_, _, _, _, rfl, ⟨h1, h2, h3, h4, by simp, by simp⟩, .inr ⟨by unfold sbat send; omega, by unfold sbat; omega, by omega, by omega, by unfold sbat send; omega, by omega⟩⟩
theorem ask_facts (f to b n : Int) : ∃ x m, askL f to b n = (x, m) ∧ ((m = 0 ∧ x = 0) ∨ (1 ≤ m ∧ m ≤ 4 ∧ b < x ∧ f ≤ x ∧ 1 ≤ x ∧ x + m - 1 ≤ to ∧ x + m - 1 ≤ n)) := by
  unfold askL
  split
  · exact ⟨0, 0, rfl, .inl ⟨rfl, rfl⟩⟩
  · next h => exact ⟨_, _, rfl, .inr ⟨by unfold sbat; omega, by unfold sbat; omega, by omega, by omega, by omega, by unfold sbat; omega, by unfold sbat; omega⟩⟩
theorem ack_facts {a s q to n : Int} (h : SI a s q) (hn : n ≤ 4611686018427387903) : ∃ b a' s' q', ackL a s q to n = (b, (a', s', q')) ∧ SI a' s' q' ∧ a ≤ a' := by
  have hs := h.ack (to := to) hn
  unfold ackL at *
  split
  · next hh => exact ⟨_, _, _, _, rfl, h, by omega⟩
  · next hh => rw [if_neg hh] at hs; exact ⟨_, _, _, _, rfl, hs, by omega⟩
def SynRel (w : World) (g : Nat) (cs : List Act5) (s22 : Value) (wr : World) : Prop :=
  ∃ (k : Nat) (a s q : Int), s22 = .int .i64 (k : Int) ∧ k ≤ cs.length ∧ SI a s q ∧ Blk wr g 118 (scs a s q) ∧ Below w.heap.size w wr

set_option maxRecDepth 100000 in
set_option maxHeartbeats 6000000 in
theorem SendSynced_walk (w : World) (A : Option Addr) (len cap : Nat) (cs : List Act5) (hcl : cs.length = len) (hlc : len ≤ cap) (hcm : cap ≤ maxLen) (hr : Rd w w.heap.size A (cells5 cs)) :
    Calls Try.prog 11 #[.slice A len cap] w (TruePost18 w) := by
  subst hcl
  have HLC := Lib.hid hlc; have HCM := Lib.hid hcm
  unfold maxLen at hcm
  go_enter Try.func11, Try.ntmps11
  go_wp2_with fail
  refine (awake18_any _).mono ?_
  rintro e w1 ⟨rfl, hb1⟩
  go_wp2_with fail
  refine (large_any w1 A cap w.heap.size cs (hr.below hb1) hb1.size HLC.out HCM.out).mono ?_
  rintro e w2 ⟨⟨lb, rfl, hfine⟩, hb2⟩
  have hbw := hb1.trans (hb2.mono hb1.size)
  clear hb1 hb2
  cases lb
  · obtain ⟨h100, hall⟩ := hfine rfl
    have HALL := Lib.hid hall; clear hall hfine
    go_wp2_with fail
    refine (New_at _ 0 (by omega) (by omega)).mono ?_
    rintro e w3 ⟨rfl, hk3, hb3⟩
    obtain ⟨g, hg⟩ : ∃ g, g = w2.heap.size := ⟨_, rfl⟩
    rw [← hg] at hk3 ⊢
    have hgw : w.heap.size ≤ g := by rw [hg]; exact hbw.size
    have HG := Lib.hid hgw
    have START : SynRel w g cs (.int .i64 0) w3 := ⟨0, 0, 0, 0, rfl, by omega, ⟨by omega, by omega, by omega, by omega, by omega, by omega⟩, hk3, hbw.trans (hb3.mono hbw.size)⟩
    have HS := Lib.hid START
    clear START hk3 hb3 hbw hg
    go_wp2
    go_loopw [22] (fun s22 wr => SynRel w g cs s22 wr) (fun s22 _ => cs.length - (intOf s22).toNat)
    case atStart => exact HS.out
    case round =>
      clear HS
      obtain ⟨k, a, s, q, rfl, hk, hsi, hblk, hbel⟩ := hrel
      have HSI := Lib.hid hsi
      have HB := Lib.hid hbel
      by_cases hlt : k < cs.length
      · obtain ⟨gA, oA, d, f, t, b, n, rfl, hgA, hact, d0, d1, d2, d3, d4⟩ := rd_act hr hlt
        rw [← hbel.cell (by simp; omega)] at d0 d1 d2 d3 d4
        have hgw2 : gA < wr.heap.size := World.block_lt_of_cell? _ _ d0
        have hfn := HALL.out k hlt
        rw [hact] at hfn
        obtain ⟨⟨f0, f1⟩, ⟨t0, t1⟩, ⟨b0, b1⟩, ⟨n0, n1⟩⟩ := hfn
        simp only at f0 f1 t0 t1 b0 b1 n0 n1
        have hglt := hblk.lt
        have hlt2 : (k : Int) < (cs.length : Int) := by omega
        have R : ∀ a' s' q' w', SI a' s' q' → Blk w' g 118 (scs a' s' q') → Below w.heap.size w w' → SynRel w g cs (.int .i64 ((k : Int) + 1)) w' := fun a' s' q' w' h1 h2 h3 => ⟨k + 1, a', s', q', by go_num, hlt, h1, h2, h3⟩
        have HR := Lib.hid R
        have hkA := hblk.alloc (.cells #[.int .i64 d, .int .i64 f, .int .i64 t, .int .i64 b, .int .i64 n] 77)
        have hact2 : Blk (wr.alloc (.cells #[.int .i64 d, .int .i64 f, .int .i64 t, .int .i64 b, .int .i64 n] 77)) wr.heap.size 77 #[.int .i64 d, .int .i64 f, .int .i64 t, .int .i64 b, .int .i64 n] := Blk.new wr _ _
        have hb2 := HB.out.alloc HB.out.size (.cells #[.int .i64 d, .int .i64 f, .int .i64 t, .int .i64 b, .int .i64 n] 77)
        have HB2 := Lib.hid hb2
        have hne : g ≠ wr.heap.size := by omega
        obtain ⟨i1, i2, i3, i4, i5, i6⟩ := hsi
        clear R hbel hb2 hact
        by_cases hd0 : d = 0
        · subst hd0
          obtain ⟨x, m, s', q', htk, hsi', hcase⟩ := tick_facts (n := n) HSI.out
          have HTK := Lib.hid htk
          have HSI2 := Lib.hid hsi'
          obtain ⟨j1, j2, j3, j4, j5, j6⟩ := hsi'
          clear htk
          rcases hcase with ⟨rfl, rfl⟩ | ⟨m1, m2, m3, m4, m5, m6⟩
          all_goals
            go_wp2_with fail
            refine ((get_any _ g a s q hkA).1).mono ?_
            rintro e w' ⟨rfl, rfl⟩
            go_wp2_with fail
            refine (Tick_at _ g a s q n _ _ a s' q' hkA HSI.out (by omega) (by omega) HTK.out).mono ?_
            rintro e w4 ⟨rfl, hk4, hgr⟩
            have hact4 := hact2.grown hgr (by intro h; injection h with h; omega)
            obtain ⟨y0, y1, y2, yf⟩ : w4.cell? ⟨wr.heap.size, 1, none⟩ = some (.int .i64 f) ∧ w4.cell? ⟨wr.heap.size, 3, none⟩ = some (.int .i64 b) ∧ w4.cell? ⟨wr.heap.size, 4, none⟩ = some (.int .i64 n) ∧ w4.cell? ⟨wr.heap.size, 2, none⟩ = some (.int .i64 t) := ⟨hact4.cell 1, hact4.cell 3, hact4.cell 4, hact4.cell 2⟩
            have HB4 := Lib.hid (HB2.out.trans (Gby.to_below hgr HB2.out.size HG.out))
            clear hgr hact4
            go_wp2_with (first | (go_at_call 54; refine ((get_any _ g a s' q' hk4).1).mono ?_; rintro e w' ⟨rfl, rfl⟩) | (go_at_call 55; refine ((get_any _ g a s' q' hk4).2.1).mono ?_; rintro e w' ⟨rfl, rfl⟩))
            go_roundw
            case rel => exact HR.out a s' q' _ HSI2.out hk4 HB4.out
            case measure => simp [intOf]; omega
        · by_cases hd1 : d = 1
          · subst hd1
            obtain ⟨bb, a', s', q', htk, hsi', haa⟩ := ack_facts (to := t) (n := n) HSI.out (by omega)
            have HTK := Lib.hid htk
            have HSI2 := Lib.hid hsi'
            obtain ⟨j1, j2, j3, j4, j5, j6⟩ := hsi'
            clear htk
            go_wp2_with fail
            refine ((get_any _ g a s q hkA).1).mono ?_
            rintro e w' ⟨rfl, rfl⟩
            go_wp2_with fail
            refine (Ack_at _ g a s q t n a' s' q' bb hkA HTK.out).mono ?_
            rintro e w4 ⟨rfl, hk4, hgr⟩
            have HB4 := Lib.hid (HB2.out.trans (Gby.to_below hgr HB2.out.size HG.out))
            clear hgr
            go_wp2_with (first | (go_at_call 54; refine ((get_any _ g a' s' q' hk4).1).mono ?_; rintro e w' ⟨rfl, rfl⟩) | (go_at_call 55; refine ((get_any _ g a' s' q' hk4).2.1).mono ?_; rintro e w' ⟨rfl, rfl⟩))
            go_roundw
            case rel => exact HR.out a' s' q' _ HSI2.out hk4 HB4.out
            case measure => simp [intOf]; omega
          · by_cases hd2 : d = 2
            · subst hd2
              obtain ⟨x, m, htk, hcase⟩ := ask_facts f t b n
              have HTK := Lib.hid htk
              clear htk
              have hk4 := hkA
              obtain ⟨y0, y1, y2, yf⟩ : (wr.alloc (.cells #[.int .i64 2, .int .i64 f, .int .i64 t, .int .i64 b, .int .i64 n] 77)).cell? ⟨wr.heap.size, 1, none⟩ = some (.int .i64 f) ∧ (wr.alloc (.cells #[.int .i64 2, .int .i64 f, .int .i64 t, .int .i64 b, .int .i64 n] 77)).cell? ⟨wr.heap.size, 3, none⟩ = some (.int .i64 b) ∧ (wr.alloc (.cells #[.int .i64 2, .int .i64 f, .int .i64 t, .int .i64 b, .int .i64 n] 77)).cell? ⟨wr.heap.size, 4, none⟩ = some (.int .i64 n) ∧ (wr.alloc (.cells #[.int .i64 2, .int .i64 f, .int .i64 t, .int .i64 b, .int .i64 n] 77)).cell? ⟨wr.heap.size, 2, none⟩ = some (.int .i64 t) := ⟨hact2.cell 1, hact2.cell 3, hact2.cell 4, hact2.cell 2⟩
              rcases hcase with ⟨rfl, rfl⟩ | ⟨m1, m2, m3, m4, m5, m6, m7⟩
              all_goals
                go_wp2_with fail
                refine ((get_any _ g a s q hkA).1).mono ?_
                rintro e w' ⟨rfl, rfl⟩
                go_wp2_with fail
                refine (Ask_at _ _ f t b n _ _ ⟨f0, f1⟩ ⟨t0, t1⟩ ⟨b0, b1⟩ ⟨n0, n1⟩ HTK.out).mono ?_
                rintro e w' ⟨rfl, rfl⟩
                go_wp2_with (first | (go_at_call 54; refine ((get_any _ g a s q hk4).1).mono ?_; rintro e w' ⟨rfl, rfl⟩) | (go_at_call 55; refine ((get_any _ g a s q hk4).2.1).mono ?_; rintro e w' ⟨rfl, rfl⟩))
                go_roundw
                case rel => exact HR.out a s q _ HSI.out hk4 HB2.out
                case measure => simp [intOf]; omega
            · have e0 : (d == 0) = false := by simp; exact hd0
              have e1 : (d == 1) = false := by simp; exact hd1
              have e2 : (d == 2) = false := by simp; exact hd2
              have hk4 := hkA
              go_wp2_with (first | (go_at_call 54; refine ((get_any _ g a s q hkA).1).mono ?_; rintro e w' ⟨rfl, rfl⟩) | (go_at_call 55; refine ((get_any _ g a s q hkA).2.1).mono ?_; rintro e w' ⟨rfl, rfl⟩))
              go_roundw
              case rel => exact HR.out a s q _ HSI.out hk4 HB2.out
              case measure => simp [intOf]; omega
      · obtain rfl : k = cs.length := by omega
        have HP : TruePost18 w (.returned (.bool true)) wr := ⟨rfl, HB.out⟩
        have HPP := Lib.hid HP; clear HP hbel hsi hblk
        go_wp2
        go_ret
        exact HPP.out
  · have HP : TruePost18 w (.returned (.bool true)) w2 := ⟨rfl, hbw⟩
    have HPP := Lib.hid HP; clear HP hbw hfine
    go_wp2
    go_ret
    exact HPP.out
end Go.Proofs.Ytignfhdblakcfaa
