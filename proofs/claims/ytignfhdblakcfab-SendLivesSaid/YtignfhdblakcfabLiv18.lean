/- The statement SendLives: its walk. -/
import Derived.Test.YtignfhdblakcfabAw18b
import Derived.Test.YtignfhdblakcfabFct
import Derived.OpenShut
namespace Go.Proofs.Ytignfhdblakcfab
open Go.ChangeShapes Go.WideShapes Go.ChangeAt Go.RowKit
set_option linter.unusedVariables false
set_option linter.unusedSimpArgs false

/-- how many ticks, at most, until the number behind a is sent -/
def need (a s q n : Int) : Int := if s = a then 1 else if s < send a n then (send a n - s + 3) / 4 + 4 else 4 - q
theorem need_pos {a s q n : Int} (h : SI a s q) : 1 ≤ need a s q n := by
  obtain ⟨h1, h2, h3, h4, h5, h6⟩ := h
  unfold need
  split
  · omega
  · split <;> omega
theorem need_le {a s q n : Int} (h : SI a s q) : need a s q n ≤ 6 := by
  obtain ⟨h1, h2, h3, h4, h5, h6⟩ := h
  unfold need send
  split
  · omega
  · split <;> omega
/-- a tick sends the number behind a, or else fewer ticks are needed -/
theorem tick_lives {a s q n : Int} (h : SI a s q) (hn : a < n) : ∃ f m s' q', tickL a s q n = ((f, m), (a, s', q')) ∧ SI a s' q' ∧ ((0 < m ∧ f = a + 1) ∨ (0 < m ∧ f ≠ a + 1 ∧ need a s' q' n + 1 ≤ need a s q n) ∨ (m = 0 ∧ need a s' q' n + 1 ≤ need a s q n)) := by
  have hs := h.tick (n := n)
  obtain ⟨h1, h2, h3, h4, h5, h6⟩ := h
  unfold tickL at *
  rw [if_neg (by omega)] at hs ⊢
  split
  · next hse =>
    rw [if_pos hse] at hs
    refine ⟨_, _, _, _, rfl, hs, ?_⟩
    by_cases he : s = a
    · exact .inl ⟨by unfold sbat; omega, by omega⟩
    · refine .inr (.inl ⟨by unfold sbat; omega, by omega, ?_⟩)
      unfold need
      rw [if_neg he, if_pos hse, if_neg (by unfold sbat; omega)]
      by_cases hl : s + sbat s (send a n) < send a n
      · rw [if_pos hl]
        unfold sbat at hl ⊢
        omega
      · rw [if_neg hl]
        omega
  · next hse =>
    rw [if_neg hse] at hs
    split
    · next hq =>
      have he : s ≠ a := by unfold send at hse; omega
      refine ⟨_, _, _, _, rfl, ⟨h1, h2, h3, h4, by omega, by omega⟩, .inr (.inr ⟨rfl, ?_⟩)⟩
      unfold need
      rw [if_neg he, if_neg hse, if_neg he, if_neg hse]
      omega
    · next hq => exact ⟨_, _, _, _, rfl, ⟨h1, h2, h3, h4, by simp, by simp⟩, .inl ⟨by unfold sbat send; omega, by omega⟩⟩
theorem ack_up {a s q to n : Int} {b : Bool} {a' s' q' : Int} (h : ackL a s q to n = (b, (a', s', q'))) : a' = a ∨ a' ≤ n := by
  unfold ackL at h
  split at h
  · simp at h; omega
  · simp at h; omega
def LRel (w : World) (g : Nat) (cs : List Act5) (s24 : Value) (wr : World) : Prop :=
  ∃ (k : Nat) (a s q : Int), s24 = .int .i64 (k : Int) ∧ k ≤ cs.length ∧ SI a s q ∧ a ≤ 2305843009213693952 ∧ Blk wr g 40 (scs a s q) ∧ Below w.heap.size w wr
def TRel (w : World) (g : Nat) (a n : Int) (s51 : Value) (wr : World) : Prop :=
  ∃ (k : Nat) (s q : Int), s51 = .int .i64 (k : Int) ∧ (k : Int) + need a s q n ≤ 6 ∧ SI a s q ∧ Blk wr g 40 (scs a s q) ∧ Below w.heap.size w wr

set_option maxRecDepth 100000 in
set_option maxHeartbeats 4000000 in
theorem SendLives_walk (w : World) (A : Option Addr) (len cap : Nat) (cs : List Act5) (hcl : cs.length = len) (hlc : len ≤ cap) (hcm : cap ≤ maxLen) (hr : Rd w w.heap.size A (cells5 cs)) (mo : Int) (hmo : (Lit.int .u8 mo).wf = true) :
    Calls Try.prog 3 #[.slice A len cap, .int .u8 mo] w (TruePost18 w) := by
  subst hcl
  have hm0 : 0 ≤ mo ∧ mo ≤ 255 := bounds_u8 hmo
  obtain ⟨o0, o1⟩ := hm0
  have HLC := Lib.hid hlc; have HCM := Lib.hid hcm
  unfold maxLen at hcm
  go_enter Try.func3, Try.ntmps3
  go_wp2_with fail
  refine (awake18_any _).mono ?_
  rintro e w1 ⟨rfl, hb1⟩
  go_wp2_with fail
  refine (large_any w1 A cap w.heap.size cs (hr.below hb1) hb1.size HLC.out HCM.out).mono ?_
  rintro e w2 ⟨⟨lb, rfl, hfine⟩, hb2⟩
  have hbw := hb1.trans (hb2.mono hb1.size)
  clear hb1 hb2
  cases lb
  · obtain ⟨h100, hall⟩ := hfine rfl
    have HALL := Lib.hid hall; clear hall hfine
    go_wp2_with fail
    refine (New_at _ 0 (by omega) (by omega)).mono ?_
    rintro e w3 ⟨rfl, hk3, hb3⟩
    obtain ⟨g, hg⟩ : ∃ g, g = w2.heap.size := ⟨_, rfl⟩
    rw [← hg] at hk3 ⊢
    have hgw : w.heap.size ≤ g := by rw [hg]; exact hbw.size
    have HG := Lib.hid hgw
    have START : LRel w g cs (.int .i64 0) w3 := ⟨0, 0, 0, 0, rfl, by omega, ⟨by omega, by omega, by omega, by omega, by omega, by omega⟩, by omega, hk3, hbw.trans (hb3.mono hbw.size)⟩
    have HS := Lib.hid START
    clear START hk3 hb3 hbw hg
    go_wp2
    go_loopw [24] (fun s24 wr => LRel w g cs s24 wr) (fun s24 _ => cs.length - (intOf s24).toNat)
    case atStart => exact HS.out
    case round =>
      clear HS
      obtain ⟨k, a, s, q, rfl, hk, hsi, ha61, hblk, hbel⟩ := hrel
      have HSI := Lib.hid hsi
      have HB := Lib.hid hbel
      by_cases hlt : k < cs.length
      · obtain ⟨gA, oA, d, f, t, b, n, rfl, hgA, hact, d0, d1, d2, d3, d4⟩ := rd_act hr hlt
        rw [← hbel.cell (by simp; omega)] at d0 d1 d2 d3 d4
        have hgw2 : gA < wr.heap.size := World.block_lt_of_cell? _ _ d0
        have hfn := HALL.out k hlt
        rw [hact] at hfn
        obtain ⟨⟨f0, f1⟩, ⟨t0, t1⟩, ⟨b0, b1⟩, ⟨n0, n1⟩⟩ := hfn
        simp only at f0 f1 t0 t1 b0 b1 n0 n1
        have hglt := hblk.lt
        have hlt2 : (k : Int) < (cs.length : Int) := by omega
        have R : ∀ a' s' q' w', SI a' s' q' → a' ≤ 2305843009213693952 → Blk w' g 40 (scs a' s' q') → Below w.heap.size w w' → LRel w g cs (.int .i64 ((k : Int) + 1)) w' := fun a' s' q' w' h1 h1' h2 h3 => ⟨k + 1, a', s', q', by go_num, hlt, h1, h1', h2, h3⟩
        have HR := Lib.hid R
        have hkA := hblk.alloc (.cells #[.int .i64 d, .int .i64 f, .int .i64 t, .int .i64 b, .int .i64 n] 30)
        have hb2 := HB.out.alloc HB.out.size (.cells #[.int .i64 d, .int .i64 f, .int .i64 t, .int .i64 b, .int .i64 n] 30)
        have HB2 := Lib.hid hb2
        have hne : g ≠ wr.heap.size := by omega
        obtain ⟨i1, i2, i3, i4, i5, i6⟩ := hsi
        clear R hbel hb2 hact
        by_cases hd0 : d = 0
        · subst hd0
          obtain ⟨x, m, s', q', htk, hsi', hcase⟩ := tick_facts (n := n) HSI.out
          have HTK := Lib.hid htk
          have HSI2 := Lib.hid hsi'
          clear htk hsi' hcase
          go_wp2_with fail
          refine (Tick_at _ g a s q n _ _ a s' q' hkA HSI.out (by omega) (by omega) HTK.out).mono ?_
          rintro e w4 ⟨rfl, hk4, hgr⟩
          have HB4 := Lib.hid (HB2.out.trans (Gby.to_below hgr HB2.out.size HG.out))
          clear hgr
          go_wp2
          go_roundw
          case rel => exact HR.out a s' q' _ HSI2.out ha61 hk4 HB4.out
          case measure => simp [intOf]; omega
        · by_cases hd1 : d = 1
          · subst hd1
            obtain ⟨bb, a', s', q', htk, hsi', haa⟩ := ack_facts (to := t) (n := n) HSI.out (by omega)
            have ha2 : a' ≤ 2305843009213693952 := by have := ack_up htk; omega
            have HTK := Lib.hid htk
            have HSI2 := Lib.hid hsi'
            clear htk hsi' haa
            go_wp2_with fail
            refine (Ack_at _ g a s q t n a' s' q' bb hkA HTK.out).mono ?_
            rintro e w4 ⟨rfl, hk4, hgr⟩
            have HB4 := Lib.hid (HB2.out.trans (Gby.to_below hgr HB2.out.size HG.out))
            clear hgr
            go_wp2
            go_roundw
            case rel => exact HR.out a' s' q' _ HSI2.out ha2 hk4 HB4.out
            case measure => simp [intOf]; omega
          · have e0 : (d == 0) = false := by simp; exact hd0
            have e1 : (d == 1) = false := by simp; exact hd1
            go_wp2
            go_roundw
            case rel => exact HR.out a s q _ HSI.out ha61 hkA HB2.out
            case measure => simp [intOf]; omega
      · obtain rfl : k = cs.length := by omega
        obtain ⟨i1, i2, i3, i4, i5, i6⟩ := hsi
        have HNL := Lib.hid (need_le (n := a + 1 + mo) HSI.out)
        clear hbel
        go_wp2_with fail
        refine ((get_any _ g a s q hblk).1).mono ?_
        rintro e w' ⟨rfl, rfl⟩
        go_wp2
        go_loopw [51] (fun s51 wr => TRel w g a (a + 1 + mo) s51 wr) (fun s51 _ => 6 - (intOf s51).toNat)
        case atStart => exact ⟨0, s, q, rfl, by have := HNL.out; omega, HSI.out, hblk, HB.out⟩
        case round =>
          clear HNL
          obtain ⟨k2, s2, q2, rfl, hkn, hsi2, hblk2, hbel2⟩ := hrel
          have hnp := need_pos (n := a + 1 + mo) hsi2
          have hk6 : (k2 : Int) < 6 := by omega
          obtain ⟨x, m, s', q', htk, hsi', hcase⟩ := tick_lives (n := a + 1 + mo) hsi2 (by omega)
          have HB2 := Lib.hid hbel2
          have HTK := Lib.hid htk
          have HSI1 := Lib.hid hsi2
          have HSI2 := Lib.hid hsi'
          have HKN := Lib.hid hkn
          have HCS := Lib.hid hcase
          clear htk hsi2 hsi' hkn hcase hbel2 hnp
          go_wp2_with fail
          refine (Tick_at _ g a s2 q2 (a + 1 + mo) _ _ a s' q' hblk2 HSI1.out (by omega) (by omega) HTK.out).mono ?_
          rintro e w4 ⟨rfl, hk4, hgr⟩
          have HB4 := Lib.hid (HB2.out.trans (Gby.to_below hgr HB2.out.size HG.out))
          clear hgr hblk2
          rcases HCS.out with ⟨m0, rfl⟩ | ⟨m0, hfn, hnd⟩ | ⟨rfl, hnd⟩
          · have HP : TruePost18 w (.returned (.bool true)) w4 := ⟨rfl, HB4.out⟩
            have HPP := Lib.hid HP; clear HP
            go_wp2_with fail
            refine ((get_any _ g a s' q' hk4).1).mono ?_
            rintro e w' ⟨rfl, rfl⟩
            go_wp2
            go_ret
            exact HPP.out
          · have hfe : (x == a + 1) = false := by simp; exact hfn
            have HND := Lib.hid hnd; clear hnd
            go_wp2_with fail
            refine ((get_any _ g a s' q' hk4).1).mono ?_
            rintro e w' ⟨rfl, rfl⟩
            go_wp2
            go_roundw
            case rel => exact ⟨k2 + 1, s', q', by go_num, by have h1 := HND.out; have h2 := HKN.out; push_cast; omega, HSI2.out, hk4, HB4.out⟩
            case measure => simp [intOf]; omega
          · have HND := Lib.hid hnd; clear hnd
            go_wp2
            go_roundw
            case rel => exact ⟨k2 + 1, s', q', by go_num, by have h1 := HND.out; have h2 := HKN.out; push_cast; omega, HSI2.out, hk4, HB4.out⟩
            case measure => simp [intOf]; omega
  · have HP : TruePost18 w (.returned (.bool true)) w2 := ⟨rfl, hbw⟩
    have HPP := Lib.hid HP; clear HP hbw hfine
    go_wp2
    go_ret
    exact HPP.out
end Go.Proofs.Ytignfhdblakcfab
