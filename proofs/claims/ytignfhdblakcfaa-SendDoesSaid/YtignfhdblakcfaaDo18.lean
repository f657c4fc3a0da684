/- The statement SendDoes: its walk. -/
import Derived.Test.YtignfhdblakcfaaSyn18
import Derived.Test.YtignfhdblakcfaaInvL
namespace Go.Proofs.Ytignfhdblakcfaa
open Go.ChangeShapes Go.WideShapes Go.ChangeAt Go.RowKit
set_option linter.unusedVariables false
set_option linter.unusedSimpArgs false

theorem RTick_at (w : World) (g : Nat) (a s q n f m a' s' q' : Int) (hk : Blk w g 84 (scs a s q)) (hi : SI a s q) (h0 : -4611686018427387904 ≤ n) (h1 : n ≤ 4611686018427387903) (hr : tickL a s q n = ((f, m), (a', s', q'))) :
    Calls Try.prog 49 #[.pointer (some ⟨g, 0, none⟩), .int .i64 n] w fun e w' => e = .returned (.tuple #[.int .i64 f, .int .i64 m]) ∧ Blk w' g 84 (scs a' s' q') ∧ w.grownBy w' (some g) := by
  refine (RTick_any w g a s q n hk hi h0 h1).mono ?_
  intro e w' h
  rw [hr] at h
  exact h
theorem RAck_at (w : World) (g : Nat) (a s q to n a' s' q' : Int) (b : Bool) (hk : Blk w g 84 (scs a s q)) (hr : ackL a s q to n = (b, (a', s', q'))) :
    Calls Try.prog 51 #[.pointer (some ⟨g, 0, none⟩), .int .i64 to, .int .i64 n] w fun e w' => e = .returned (.bool b) ∧ Blk w' g 84 (scs a' s' q') ∧ w.grownBy w' (some g) := by
  refine (RAck_any w g a s q to n hk).mono ?_
  intro e w' h
  rw [hr] at h
  exact h
theorem RAsk_at (w : World) (p : Value) (f to b n x y : Int) (hf : in61 f) (ht : in61 to) (hb : in61 b) (hn : in61 n) (hr : askL f to b n = (x, y)) :
    Calls Try.prog 53 #[p, .int .i64 f, .int .i64 to, .int .i64 b, .int .i64 n] w fun e w' => e = .returned (.tuple #[.int .i64 x, .int .i64 y]) ∧ w = w' := by
  refine (RAsk_any w p f to b n hf ht hb hn).mono ?_
  intro e w' h
  rw [hr] at h
  exact h
theorem RNew_at (w : World) (n : Int) (h0 : 0 ≤ n) (h1 : n ≤ 4611686018427387903) : Calls Try.prog 47 #[.int .i64 n] w fun e w' => e = .returned (.tuple #[.pointer (some ⟨w.heap.size, 0, none⟩), .int .i64 0]) ∧ Blk w' w.heap.size 84 (scs n n 0) ∧ Below w.heap.size w w' := by
  refine (RNew_any w n).mono ?_
  rintro e w' ⟨h, hb⟩
  rw [if_pos ⟨h0, h1⟩] at h
  exact ⟨h.1, h.2, hb⟩
theorem RNew_no_at (w : World) (n : Int) (h : ¬ (0 ≤ n ∧ n ≤ 4611686018427387903)) : Calls Try.prog 47 #[.int .i64 n] w fun e w' => e = .returned (.tuple #[.pointer none, .int .i64 1]) ∧ Below w.heap.size w w' := by
  refine (RNew_any w n).mono ?_
  rintro e w' ⟨h2, hb⟩
  rw [if_neg h] at h2
  exact ⟨h2, hb⟩
def DoRel (w : World) (g r : Nat) (cs : List Act5) (s47 : Value) (wr : World) : Prop :=
  ∃ (k : Nat) (a s q : Int), s47 = .int .i64 (k : Int) ∧ k ≤ cs.length ∧ SI a s q ∧ Blk wr g 118 (scs a s q) ∧ Blk wr r 84 (scs a s q) ∧ Below w.heap.size w wr
/-- where both stand, in the region of the two Acks -/
def CA (W : World) (g r ga : Nat) (d f t b n a s q a' s' q' : Int) (L : Nat → Bool) (w : World) : Prop :=
  Below W.heap.size W w ∧ Blk w ga 77 #[.int .i64 d, .int .i64 f, .int .i64 t, .int .i64 b, .int .i64 n] ∧ Blk w g 118 (if L 5 = true then scs a' s' q' else scs a s q) ∧ Blk w r 84 (if L 11 = true then scs a' s' q' else scs a s q)
namespace CA
variable {W : World} {g r ga : Nat} {d f t b n a s q a' s' q' : Int} {L : Nat → Bool} {w w' : World}
theorem keep (i : Nat) (h5 : i ≠ 5) (h11 : i ≠ 11) (h : CA W g r ga d f t b n a s q a' s' q' L w) (hb : Below w.heap.size w w') : CA W g r ga d f t b n a s q a' s' q' (Inv.upd L i) w' := by
  obtain ⟨h0, h1, h2, h3⟩ := h
  refine ⟨h0.trans (hb.mono h0.size), h1.below hb h1.lt, ?_, ?_⟩
  · have e : Inv.upd L i 5 = L 5 := by unfold Inv.upd; rw [if_neg (fun e => h5 e.symm)]
    rw [e]; exact h2.below hb h2.lt
  · have e : Inv.upd L i 11 = L 11 := by unfold Inv.upd; rw [if_neg (fun e => h11 e.symm)]
    rw [e]; exact h3.below hb h3.lt
theorem one (h : CA W g r ga d f t b n a s q a' s' q' L w) (hg : W.heap.size ≤ g) (hn : g ≠ r) (hm : g ≠ ga) (hk : Blk w' g 118 (scs a' s' q')) (hb : w.grownBy w' (some g)) : CA W g r ga d f t b n a s q a' s' q' (Inv.upd L 5) w' := by
  obtain ⟨h0, h1, h2, h3⟩ := h
  refine ⟨h0.trans (Gby.to_below hb h0.size hg), h1.grown hb (fun e => hm (by injection e with e; exact e.symm)), ?_, ?_⟩
  · rw [if_pos (Inv.upd_same L 5)]; exact hk
  · have e : Inv.upd L 5 11 = L 11 := rfl
    rw [e]; exact h3.grown hb (fun e => hn (by injection e with e; exact e.symm))
theorem two (h : CA W g r ga d f t b n a s q a' s' q' L w) (hg : W.heap.size ≤ r) (hn : g ≠ r) (hm : r ≠ ga) (hk : Blk w' r 84 (scs a' s' q')) (hb : w.grownBy w' (some r)) : CA W g r ga d f t b n a s q a' s' q' (Inv.upd L 11) w' := by
  obtain ⟨h0, h1, h2, h3⟩ := h
  refine ⟨h0.trans (Gby.to_below hb h0.size hg), h1.grown hb (fun e => hm (by injection e with e; exact e.symm)), ?_, ?_⟩
  · have e : Inv.upd L 11 5 = L 5 := rfl
    rw [e]; exact h2.grown hb (fun e => hn (by injection e))
  · rw [if_pos (Inv.upd_same L 11)]; exact hk
theorem old1 (h : CA W g r ga d f t b n a s q a' s' q' L w) (hl : L 5 = false) : Blk w g 118 (scs a s q) := by
  have := h.2.2.1
  rw [hl, if_neg (by decide)] at this; exact this
theorem old2 (h : CA W g r ga d f t b n a s q a' s' q' L w) (hl : L 11 = false) : Blk w r 84 (scs a s q) := by
  have := h.2.2.2
  rw [hl, if_neg (by decide)] at this; exact this
end CA
def FA (g r ga : Nat) (t n : Int) (bb : Bool) (i : Nat) (L : Nat → Bool) (v : Value) (w : World) : Prop := match i with
  | 0 => v = .pointer (some ⟨g, 0, none⟩)
  | 1 => v = .pointer (some ⟨ga, 2, none⟩)
  | 2 => v = .int .i64 t
  | 3 => v = .pointer (some ⟨ga, 4, none⟩)
  | 4 => v = .int .i64 n
  | 5 => v = .bool bb
  | 6 => v = .pointer (some ⟨r, 0, none⟩)
  | 7 => v = .pointer (some ⟨ga, 2, none⟩)
  | 8 => v = .int .i64 t
  | 9 => v = .pointer (some ⟨ga, 4, none⟩)
  | 10 => v = .int .i64 n
  | 11 => v = .bool bb
  | 12 => v = .bool false
  | _ => True
set_option maxRecDepth 100000 in
set_option maxHeartbeats 3000000 in
theorem SendDoes_walk (w : World) (n0 : Int) (hn0 : (Lit.int .i64 n0).wf = true) (A : Option Addr) (len cap : Nat) (cs : List Act5) (hcl : cs.length = len) (hlc : len ≤ cap) (hcm : cap ≤ maxLen) (hr : Rd w w.heap.size A (cells5 cs)) :
    Calls Try.prog 10 #[.int .i64 n0, .slice A len cap] w (TruePost18 w) := by
  subst hcl
  have HLC := Lib.hid hlc; have HCM := Lib.hid hcm
  unfold maxLen at hcm
  go_enter Try.func10, Try.ntmps10
  go_wp2_with fail
  refine (awake18_any _).mono ?_
  rintro e w1 ⟨rfl, hb1⟩
  go_wp2_with fail
  refine (large_any w1 A cap w.heap.size cs (hr.below hb1) hb1.size HLC.out HCM.out).mono ?_
  rintro e w2 ⟨⟨lb, rfl, hfine⟩, hb2⟩
  have hbw := hb1.trans (hb2.mono hb1.size)
  clear hb1 hb2
  cases lb
  · obtain ⟨h100, hall⟩ := hfine rfl
    have HALL := Lib.hid hall; clear hall hfine
    by_cases hnn : 0 ≤ n0 ∧ n0 ≤ 4611686018427387903
    · go_wp2_with fail
      refine (New_at _ n0 hnn.1 hnn.2).mono ?_
      rintro e w3 ⟨rfl, hk3, hb3⟩
      obtain ⟨g, hg⟩ : ∃ g, g = w2.heap.size := ⟨_, rfl⟩
      rw [← hg] at hk3 ⊢
      have hgw : w.heap.size ≤ g := by rw [hg]; exact hbw.size
      have hbw3 := hbw.trans (hb3.mono hbw.size)
      clear hg
      go_wp2_with fail
      refine (RNew_at _ n0 hnn.1 hnn.2).mono ?_
      rintro e w4 ⟨rfl, hr4, hb4⟩
      have hk4 := hk3.below hb4 hk3.lt
      obtain ⟨r, hrr⟩ : ∃ r, r = w3.heap.size := ⟨_, rfl⟩
      rw [← hrr] at hr4 ⊢
      have hrw : w.heap.size ≤ r := by rw [hrr]; exact hbw3.size
      have hgr : g ≠ r := by have := hk3.lt; omega
      have HG := Lib.hid hgw
      have HRW := Lib.hid hrw
      have HGR := Lib.hid hgr
      have START : DoRel w g r cs (.int .i64 0) w4 := ⟨0, n0, n0, 0, rfl, by omega, ⟨by omega, by omega, by omega, by omega, by omega, by omega⟩, hk4, hr4, hbw3.trans (hb4.mono hbw3.size)⟩
      have HS := Lib.hid START
      clear START hk3 hb3 hbw hk4 hr4 hb4 hbw3 hrr
      go_wp2
      go_loopw [47] (fun s47 wr => DoRel w g r cs s47 wr) (fun s47 _ => cs.length - (intOf s47).toNat)
      case atStart => exact HS.out
      case round =>
        clear HS
        obtain ⟨k, a, s, q, rfl, hk, hsi, hblk, hblr, hbel⟩ := hrel
        have HSI := Lib.hid hsi
        have HB := Lib.hid hbel
        by_cases hlt : k < cs.length
        · obtain ⟨gA, oA, d, f, t, b, n, rfl, hgA, hact, d0, d1, d2, d3, d4⟩ := rd_act hr hlt
          rw [← hbel.cell (by simp; omega)] at d0 d1 d2 d3 d4
          have hgw2 : gA < wr.heap.size := World.block_lt_of_cell? _ _ d0
          have hfn := HALL.out k hlt
          rw [hact] at hfn
          obtain ⟨⟨f0, f1⟩, ⟨t0, t1⟩, ⟨b0, b1⟩, ⟨n0', n1⟩⟩ := hfn
          simp only at f0 f1 t0 t1 b0 b1 n0' n1
          have hglt := hblk.lt
          have hrlt := hblr.lt
          have hlt2 : (k : Int) < (cs.length : Int) := by omega
          have R : ∀ a' s' q' w', SI a' s' q' → Blk w' g 118 (scs a' s' q') → Blk w' r 84 (scs a' s' q') → Below w.heap.size w w' → DoRel w g r cs (.int .i64 ((k : Int) + 1)) w' := fun a' s' q' w' h1 h2 h2' h3 => ⟨k + 1, a', s', q', by go_num, hlt, h1, h2, h2', h3⟩
          have HR := Lib.hid R
          have hkA := hblk.alloc (.cells #[.int .i64 d, .int .i64 f, .int .i64 t, .int .i64 b, .int .i64 n] 77)
          have hrA := hblr.alloc (.cells #[.int .i64 d, .int .i64 f, .int .i64 t, .int .i64 b, .int .i64 n] 77)
          have hact2 : Blk (wr.alloc (.cells #[.int .i64 d, .int .i64 f, .int .i64 t, .int .i64 b, .int .i64 n] 77)) wr.heap.size 77 #[.int .i64 d, .int .i64 f, .int .i64 t, .int .i64 b, .int .i64 n] := Blk.new wr _ _
          have hb2 := HB.out.alloc HB.out.size (.cells #[.int .i64 d, .int .i64 f, .int .i64 t, .int .i64 b, .int .i64 n] 77)
          have HB2 := Lib.hid hb2
          have hne : g ≠ wr.heap.size := by omega
          have hner : r ≠ wr.heap.size := by omega
          obtain ⟨i1, i2, i3, i4, i5, i6⟩ := hsi
          clear R hbel hb2 hact
          by_cases hd0 : d = 0
          · subst hd0
            obtain ⟨x, m, s', q', htk, hsi', hcase⟩ := tick_facts (n := n) HSI.out
            have HTK := Lib.hid htk
            have HSI2 := Lib.hid hsi'
            clear htk hsi' hcase
            go_wp2_with fail
            refine (Tick_at _ g a s q n _ _ a s' q' hkA HSI.out (by omega) (by omega) HTK.out).mono ?_
            rintro e w5 ⟨rfl, hk5, hg5⟩
            have hact5 := hact2.grown hg5 (by intro h; injection h with h; omega)
            have hr5 := hrA.grown hg5 (by intro h; injection h with h; exact HGR.out h.symm)
            have hb5 := HB2.out.trans (Gby.to_below hg5 HB2.out.size HG.out)
            have y4 : w5.cell? ⟨wr.heap.size, 4, none⟩ = some (.int .i64 n) := hact5.cell 4
            clear hg5
            go_wp2_with fail
            refine (RTick_at _ r a s q n _ _ a s' q' hr5 HSI.out (by omega) (by omega) HTK.out).mono ?_
            rintro e w6 ⟨rfl, hr6, hg6⟩
            have hk6 := hk5.grown hg6 (by intro h; injection h with h; exact HGR.out h)
            have hact6 := hact5.grown hg6 (by intro h; injection h with h; omega)
            have hb6 := hb5.trans (Gby.to_below hg6 hb5.size HRW.out)
            have z2 : w6.cell? ⟨wr.heap.size, 0, none⟩ = some (.int .i64 0) := hact6.cell 0
            clear hg6 hb5 hact5 hr5 y4
            have HBX := Lib.hid hb6
            have HKX := Lib.hid hk6
            have HRX := Lib.hid hr6
            go_wp2
            refine Inv.region_below (fun i v w' => match i with
                | 0 => v = .pointer (some ⟨g, 0, none⟩)
                | 1 => v = .int .i64 a
                | 2 => v = .pointer (some ⟨r, 0, none⟩)
                | 3 => v = .pointer (some ⟨r, 0, none⟩)
                | 4 => v = .pointer (some ⟨r, 0, none⟩)
                | 5 => v = .int .i64 a
                | 6 => v = .bool false
                | 7 => v = .bool false
                | 8 => v = .pointer (some ⟨g, 0, none⟩)
                | 9 => v = .int .i64 s'
                | 10 => v = .pointer (some ⟨r, 0, none⟩)
                | 11 => v = .pointer (some ⟨r, 0, none⟩)
                | 12 => v = .pointer (some ⟨r, 1, none⟩)
                | 13 => v = .int .i64 s'
                | 14 => v = .bool false
                | 15 => v = .bool false
                | 16 => v = .bool false
                | 17 => v = .pointer (some ⟨g, 0, none⟩)
                | 18 => v = .int .i64 q'
                | 19 => v = .pointer (some ⟨r, 0, none⟩)
                | 20 => v = .pointer (some ⟨r, 0, none⟩)
                | 21 => v = .pointer (some ⟨r, 2, none⟩)
                | 22 => v = .int .i64 q'
                | 23 => v = .bool false
                | 24 => v = .bool false
                | _ => True)
              (fun w' => Blk w' g 118 (scs a s' q') ∧ Blk w' r 84 (scs a s' q') ∧ Below w.heap.size w w') 154 [128, 129, 130, 131, 132, 133, 134, 135, 136, 137, 138, 139, 140, 141, 142, 143, 144, 145, 146, 147, 148, 149, 150, 151, 152] (by kernel_rfl) rfl (by kernel_rfl) (by kernel_rfl) ?_ ?_ ?_ ?_
            · intro v v' hC hb
              obtain ⟨hG, hR, hB⟩ := hC
              exact ⟨hG.below hb hG.lt, hR.below hb hR.lt, hB.trans (hb.mono hB.size)⟩
            · exact ⟨HKX.out.drew, HRX.out.drew, HBX.out.drew⟩
            · refine ⟨⟨fun _ _ _ h _ => h, ?_⟩, ⟨fun _ _ _ h _ => h, ?_⟩, ⟨fun _ _ _ h _ => h, ?_⟩, ⟨fun _ _ _ h _ => h, ?_⟩, ⟨fun _ _ _ h _ => h, ?_⟩, ⟨fun _ _ _ h _ => h, ?_⟩, ⟨fun _ _ _ h _ => h, ?_⟩, ⟨fun _ _ _ h _ => h, ?_⟩, ⟨fun _ _ _ h _ => h, ?_⟩, ⟨fun _ _ _ h _ => h, ?_⟩, ⟨fun _ _ _ h _ => h, ?_⟩, ⟨fun _ _ _ h _ => h, ?_⟩, ⟨fun _ _ _ h _ => h, ?_⟩, ⟨fun _ _ _ h _ => h, ?_⟩, ⟨fun _ _ _ h _ => h, ?_⟩, ⟨fun _ _ _ h _ => h, ?_⟩, ⟨fun _ _ _ h _ => h, ?_⟩, ⟨fun _ _ _ h _ => h, ?_⟩, ⟨fun _ _ _ h _ => h, ?_⟩, ⟨fun _ _ _ h _ => h, ?_⟩, ⟨fun _ _ _ h _ => h, ?_⟩, ⟨fun _ _ _ h _ => h, ?_⟩, ⟨fun _ _ _ h _ => h, ?_⟩, ⟨fun _ _ _ h _ => h, ?_⟩, ⟨fun _ _ _ h _ => h, ?_⟩, trivial⟩
              · intro act wa hC hd H O K hK
                clear hd
                obtain ⟨hG, hR, hB⟩ := hC
                have h5 := O 5 (by kernel_rfl)
                have g5 := Array.getD_eq_getD_getElem?.symm.trans h5
                clear H O
                obtain ⟨x0, x1, x2, xf⟩ := hR.three
                go_simp
                exact hK _ _ (Below.refl _ _) (fun _ => rfl)
              · intro act wa hC hd H O K hK
                clear hd
                obtain ⟨hG, hR, hB⟩ := hC
                have h128 : act.tmps.getD 128 undef = .pointer (some ⟨g, 0, none⟩) := H 1 0 128 (by kernel_rfl) rfl
                have g128 := Array.getD_eq_getD_getElem?.symm.trans h128
                clear H O
                obtain ⟨x0, x1, x2, xf⟩ := hR.three
                go_simp
                refine ((get_any wa g a s' q' hG).1).mono ?_
                rintro e w1 ⟨rfl, rfl⟩
                exact hK _ _ (Below.refl _ _) (fun _ => rfl)
              · intro act wa hC hd H O K hK
                clear hd
                obtain ⟨hG, hR, hB⟩ := hC
                have h7 := O 7 (by kernel_rfl)
                have g7 := Array.getD_eq_getD_getElem?.symm.trans h7
                clear H O
                obtain ⟨x0, x1, x2, xf⟩ := hR.three
                go_simp
                exact hK _ _ (Below.refl _ _) (fun _ => rfl)
              · intro act wa hC hd H O K hK
                clear hd
                obtain ⟨hG, hR, hB⟩ := hC
                have h130 : act.tmps.getD 130 undef = .pointer (some ⟨r, 0, none⟩) := H 1 2 130 (by kernel_rfl) rfl
                have g130 := Array.getD_eq_getD_getElem?.symm.trans h130
                clear H O
                obtain ⟨x0, x1, x2, xf⟩ := hR.three
                go_simp
                exact hK _ _ (Below.refl _ _) (fun _ => rfl)
              · intro act wa hC hd H O K hK
                clear hd
                obtain ⟨hG, hR, hB⟩ := hC
                have h131 : act.tmps.getD 131 undef = .pointer (some ⟨r, 0, none⟩) := H 1 3 131 (by kernel_rfl) rfl
                have g131 := Array.getD_eq_getD_getElem?.symm.trans h131
                clear H O
                obtain ⟨x0, x1, x2, xf⟩ := hR.three
                go_simp
                exact hK _ _ (Below.refl _ _) (fun _ => rfl)
              · intro act wa hC hd H O K hK
                clear hd
                obtain ⟨hG, hR, hB⟩ := hC
                have h132 : act.tmps.getD 132 undef = .pointer (some ⟨r, 0, none⟩) := H 1 4 132 (by kernel_rfl) rfl
                have g132 := Array.getD_eq_getD_getElem?.symm.trans h132
                clear H O
                obtain ⟨x0, x1, x2, xf⟩ := hR.three
                go_simp
                exact hK _ _ (Below.refl _ _) (fun _ => rfl)
              · intro act wa hC hd H O K hK
                clear hd
                obtain ⟨hG, hR, hB⟩ := hC
                have h129 : act.tmps.getD 129 undef = .int .i64 a := H 1 1 129 (by kernel_rfl) rfl
                have g129 := Array.getD_eq_getD_getElem?.symm.trans h129
                have h133 : act.tmps.getD 133 undef = .int .i64 a := H 1 5 133 (by kernel_rfl) rfl
                have g133 := Array.getD_eq_getD_getElem?.symm.trans h133
                clear H O
                obtain ⟨x0, x1, x2, xf⟩ := hR.three
                go_simp
                exact hK _ _ (Below.refl _ _) (fun _ => rfl)
              · intro act wa hC hd H O K hK
                clear hd
                obtain ⟨hG, hR, hB⟩ := hC
                have h134 : act.tmps.getD 134 undef = .bool false := H 1 6 134 (by kernel_rfl) rfl
                have g134 := Array.getD_eq_getD_getElem?.symm.trans h134
                clear H O
                obtain ⟨x0, x1, x2, xf⟩ := hR.three
                go_simp
                exact hK _ _ (Below.refl _ _) (fun _ => rfl)
              · intro act wa hC hd H O K hK
                clear hd
                obtain ⟨hG, hR, hB⟩ := hC
                have h5 := O 5 (by kernel_rfl)
                have g5 := Array.getD_eq_getD_getElem?.symm.trans h5
                have h135 : act.tmps.getD 135 undef = .bool false := H 1 7 135 (by kernel_rfl) rfl
                have g135 := Array.getD_eq_getD_getElem?.symm.trans h135
                have k135 := Inv.some_bool g135
                clear H O
                obtain ⟨x0, x1, x2, xf⟩ := hR.three
                go_simp
                exact hK _ _ (Below.refl _ _) (fun _ => rfl)
              · intro act wa hC hd H O K hK
                clear hd
                obtain ⟨hG, hR, hB⟩ := hC
                have h136 : act.tmps.getD 136 undef = .pointer (some ⟨g, 0, none⟩) := H 1 8 136 (by kernel_rfl) rfl
                have g136 := Array.getD_eq_getD_getElem?.symm.trans h136
                have h135 : act.tmps.getD 135 undef = .bool false := H 1 7 135 (by kernel_rfl) rfl
                have g135 := Array.getD_eq_getD_getElem?.symm.trans h135
                have k135 := Inv.some_bool g135
                clear H O
                obtain ⟨x0, x1, x2, xf⟩ := hR.three
                go_simp
                refine ((get_any wa g a s' q' hG).2.1).mono ?_
                rintro e w1 ⟨rfl, rfl⟩
                exact hK _ _ (Below.refl _ _) (fun _ => rfl)
              · intro act wa hC hd H O K hK
                clear hd
                obtain ⟨hG, hR, hB⟩ := hC
                have h7 := O 7 (by kernel_rfl)
                have g7 := Array.getD_eq_getD_getElem?.symm.trans h7
                have h135 : act.tmps.getD 135 undef = .bool false := H 1 7 135 (by kernel_rfl) rfl
                have g135 := Array.getD_eq_getD_getElem?.symm.trans h135
                have k135 := Inv.some_bool g135
                clear H O
                obtain ⟨x0, x1, x2, xf⟩ := hR.three
                go_simp
                exact hK _ _ (Below.refl _ _) (fun _ => rfl)
              · intro act wa hC hd H O K hK
                clear hd
                obtain ⟨hG, hR, hB⟩ := hC
                have h138 : act.tmps.getD 138 undef = .pointer (some ⟨r, 0, none⟩) := H 1 10 138 (by kernel_rfl) rfl
                have g138 := Array.getD_eq_getD_getElem?.symm.trans h138
                have h135 : act.tmps.getD 135 undef = .bool false := H 1 7 135 (by kernel_rfl) rfl
                have g135 := Array.getD_eq_getD_getElem?.symm.trans h135
                have k135 := Inv.some_bool g135
                clear H O
                obtain ⟨x0, x1, x2, xf⟩ := hR.three
                go_simp
                exact hK _ _ (Below.refl _ _) (fun _ => rfl)
              · intro act wa hC hd H O K hK
                clear hd
                obtain ⟨hG, hR, hB⟩ := hC
                have h139 : act.tmps.getD 139 undef = .pointer (some ⟨r, 0, none⟩) := H 1 11 139 (by kernel_rfl) rfl
                have g139 := Array.getD_eq_getD_getElem?.symm.trans h139
                have h135 : act.tmps.getD 135 undef = .bool false := H 1 7 135 (by kernel_rfl) rfl
                have g135 := Array.getD_eq_getD_getElem?.symm.trans h135
                have k135 := Inv.some_bool g135
                clear H O
                obtain ⟨x0, x1, x2, xf⟩ := hR.three
                go_simp
                exact hK _ _ (Below.refl _ _) (fun _ => rfl)
              · intro act wa hC hd H O K hK
                clear hd
                obtain ⟨hG, hR, hB⟩ := hC
                have h140 : act.tmps.getD 140 undef = .pointer (some ⟨r, 1, none⟩) := H 1 12 140 (by kernel_rfl) rfl
                have g140 := Array.getD_eq_getD_getElem?.symm.trans h140
                have h135 : act.tmps.getD 135 undef = .bool false := H 1 7 135 (by kernel_rfl) rfl
                have g135 := Array.getD_eq_getD_getElem?.symm.trans h135
                have k135 := Inv.some_bool g135
                clear H O
                obtain ⟨x0, x1, x2, xf⟩ := hR.three
                go_simp
                exact hK _ _ (Below.refl _ _) (fun _ => rfl)
              · intro act wa hC hd H O K hK
                clear hd
                obtain ⟨hG, hR, hB⟩ := hC
                have h137 : act.tmps.getD 137 undef = .int .i64 s' := H 1 9 137 (by kernel_rfl) rfl
                have g137 := Array.getD_eq_getD_getElem?.symm.trans h137
                have h141 : act.tmps.getD 141 undef = .int .i64 s' := H 1 13 141 (by kernel_rfl) rfl
                have g141 := Array.getD_eq_getD_getElem?.symm.trans h141
                have h135 : act.tmps.getD 135 undef = .bool false := H 1 7 135 (by kernel_rfl) rfl
                have g135 := Array.getD_eq_getD_getElem?.symm.trans h135
                have k135 := Inv.some_bool g135
                clear H O
                obtain ⟨x0, x1, x2, xf⟩ := hR.three
                go_simp
                exact hK _ _ (Below.refl _ _) (fun _ => rfl)
              · intro act wa hC hd H O K hK
                clear hd
                obtain ⟨hG, hR, hB⟩ := hC
                have h135 : act.tmps.getD 135 undef = .bool false := H 1 7 135 (by kernel_rfl) rfl
                have g135 := Array.getD_eq_getD_getElem?.symm.trans h135
                have h142 : act.tmps.getD 142 undef = .bool false := H 1 14 142 (by kernel_rfl) rfl
                have g142 := Array.getD_eq_getD_getElem?.symm.trans h142
                clear H O
                obtain ⟨x0, x1, x2, xf⟩ := hR.three
                go_simp
                exact hK _ _ (Below.refl _ _) (fun _ => rfl)
              · intro act wa hC hd H O K hK
                clear hd
                obtain ⟨hG, hR, hB⟩ := hC
                have h143 : act.tmps.getD 143 undef = .bool false := H 1 15 143 (by kernel_rfl) rfl
                have g143 := Array.getD_eq_getD_getElem?.symm.trans h143
                clear H O
                obtain ⟨x0, x1, x2, xf⟩ := hR.three
                go_simp
                exact hK _ _ (Below.refl _ _) (fun _ => rfl)
              · intro act wa hC hd H O K hK
                clear hd
                obtain ⟨hG, hR, hB⟩ := hC
                have h5 := O 5 (by kernel_rfl)
                have g5 := Array.getD_eq_getD_getElem?.symm.trans h5
                have h144 : act.tmps.getD 144 undef = .bool false := H 1 16 144 (by kernel_rfl) rfl
                have g144 := Array.getD_eq_getD_getElem?.symm.trans h144
                have k144 := Inv.some_bool g144
                clear H O
                obtain ⟨x0, x1, x2, xf⟩ := hR.three
                go_simp
                exact hK _ _ (Below.refl _ _) (fun _ => rfl)
              · intro act wa hC hd H O K hK
                clear hd
                obtain ⟨hG, hR, hB⟩ := hC
                have h145 : act.tmps.getD 145 undef = .pointer (some ⟨g, 0, none⟩) := H 1 17 145 (by kernel_rfl) rfl
                have g145 := Array.getD_eq_getD_getElem?.symm.trans h145
                have h144 : act.tmps.getD 144 undef = .bool false := H 1 16 144 (by kernel_rfl) rfl
                have g144 := Array.getD_eq_getD_getElem?.symm.trans h144
                have k144 := Inv.some_bool g144
                clear H O
                obtain ⟨x0, x1, x2, xf⟩ := hR.three
                go_simp
                refine ((get_any wa g a s' q' hG).2.2).mono ?_
                rintro e w1 ⟨rfl, rfl⟩
                exact hK _ _ (Below.refl _ _) (fun _ => rfl)
              · intro act wa hC hd H O K hK
                clear hd
                obtain ⟨hG, hR, hB⟩ := hC
                have h7 := O 7 (by kernel_rfl)
                have g7 := Array.getD_eq_getD_getElem?.symm.trans h7
                have h144 : act.tmps.getD 144 undef = .bool false := H 1 16 144 (by kernel_rfl) rfl
                have g144 := Array.getD_eq_getD_getElem?.symm.trans h144
                have k144 := Inv.some_bool g144
                clear H O
                obtain ⟨x0, x1, x2, xf⟩ := hR.three
                go_simp
                exact hK _ _ (Below.refl _ _) (fun _ => rfl)
              · intro act wa hC hd H O K hK
                clear hd
                obtain ⟨hG, hR, hB⟩ := hC
                have h147 : act.tmps.getD 147 undef = .pointer (some ⟨r, 0, none⟩) := H 1 19 147 (by kernel_rfl) rfl
                have g147 := Array.getD_eq_getD_getElem?.symm.trans h147
                have h144 : act.tmps.getD 144 undef = .bool false := H 1 16 144 (by kernel_rfl) rfl
                have g144 := Array.getD_eq_getD_getElem?.symm.trans h144
                have k144 := Inv.some_bool g144
                clear H O
                obtain ⟨x0, x1, x2, xf⟩ := hR.three
                go_simp
                exact hK _ _ (Below.refl _ _) (fun _ => rfl)
              · intro act wa hC hd H O K hK
                clear hd
                obtain ⟨hG, hR, hB⟩ := hC
                have h148 : act.tmps.getD 148 undef = .pointer (some ⟨r, 0, none⟩) := H 1 20 148 (by kernel_rfl) rfl
                have g148 := Array.getD_eq_getD_getElem?.symm.trans h148
                have h144 : act.tmps.getD 144 undef = .bool false := H 1 16 144 (by kernel_rfl) rfl
                have g144 := Array.getD_eq_getD_getElem?.symm.trans h144
                have k144 := Inv.some_bool g144
                clear H O
                obtain ⟨x0, x1, x2, xf⟩ := hR.three
                go_simp
                exact hK _ _ (Below.refl _ _) (fun _ => rfl)
              · intro act wa hC hd H O K hK
                clear hd
                obtain ⟨hG, hR, hB⟩ := hC
                have h149 : act.tmps.getD 149 undef = .pointer (some ⟨r, 2, none⟩) := H 1 21 149 (by kernel_rfl) rfl
                have g149 := Array.getD_eq_getD_getElem?.symm.trans h149
                have h144 : act.tmps.getD 144 undef = .bool false := H 1 16 144 (by kernel_rfl) rfl
                have g144 := Array.getD_eq_getD_getElem?.symm.trans h144
                have k144 := Inv.some_bool g144
                clear H O
                obtain ⟨x0, x1, x2, xf⟩ := hR.three
                go_simp
                exact hK _ _ (Below.refl _ _) (fun _ => rfl)
              · intro act wa hC hd H O K hK
                clear hd
                obtain ⟨hG, hR, hB⟩ := hC
                have h146 : act.tmps.getD 146 undef = .int .i64 q' := H 1 18 146 (by kernel_rfl) rfl
                have g146 := Array.getD_eq_getD_getElem?.symm.trans h146
                have h150 : act.tmps.getD 150 undef = .int .i64 q' := H 1 22 150 (by kernel_rfl) rfl
                have g150 := Array.getD_eq_getD_getElem?.symm.trans h150
                have h144 : act.tmps.getD 144 undef = .bool false := H 1 16 144 (by kernel_rfl) rfl
                have g144 := Array.getD_eq_getD_getElem?.symm.trans h144
                have k144 := Inv.some_bool g144
                clear H O
                obtain ⟨x0, x1, x2, xf⟩ := hR.three
                go_simp
                exact hK _ _ (Below.refl _ _) (fun _ => rfl)
              · intro act wa hC hd H O K hK
                clear hd
                obtain ⟨hG, hR, hB⟩ := hC
                have h144 : act.tmps.getD 144 undef = .bool false := H 1 16 144 (by kernel_rfl) rfl
                have g144 := Array.getD_eq_getD_getElem?.symm.trans h144
                have h151 : act.tmps.getD 151 undef = .bool false := H 1 23 151 (by kernel_rfl) rfl
                have g151 := Array.getD_eq_getD_getElem?.symm.trans h151
                clear H O
                obtain ⟨x0, x1, x2, xf⟩ := hR.three
                go_simp
                exact hK _ _ (Below.refl _ _) (fun _ => rfl)
            · intro us w' hC hF
              obtain ⟨hG, hR, hB⟩ := hC
              have u152 : us 152 = .bool false := hF 24 152 rfl
              clear hF
              simp only [List.foldl]
              go_simp
              go_wp2
              go_roundw
              case rel => exact HR.out a s' q' _ HSI2.out hG hR hB
              case measure => simp [intOf]; omega
          · by_cases hd1 : d = 1
            · subst hd1
              obtain ⟨bb, a', s', q', htk, hsi', haa⟩ := ack_facts (to := t) (n := n) HSI.out (by omega)
              have HTK := Lib.hid htk
              have HSI2 := Lib.hid hsi'
              clear htk hsi' haa
              have CSTART : CA w g r wr.heap.size 1 f t b n a s q a' s' q' (fun _ => false) (wr.alloc (.cells #[.int .i64 1, .int .i64 f, .int .i64 t, .int .i64 b, .int .i64 n] 77)) := ⟨HB2.out, hact2, hkA, hrA⟩
              have HCS := Lib.hid CSTART
              clear CSTART
              go_wp2
              refine Inv.region_genL (FA g r wr.heap.size t n bb) (CA w g r wr.heap.size 1 f t b n a s q a' s' q') 154 [79, 80, 81, 82, 83, 84, 85, 86, 87, 88, 89, 90, 91] (by kernel_rfl) rfl (by kernel_rfl) (by kernel_rfl) ?_ ?_ ?_
              · exact ⟨HCS.out.1.drew, HCS.out.2.1.drew, HCS.out.2.2.1.drew, HCS.out.2.2.2.drew⟩
              · refine ⟨?_, ?_, ?_, ?_, ?_, ?_, ?_, ?_, ?_, ?_, ?_, ?_, ?_, trivial⟩
                · intro act wa L hC hd hLi hLa hLb HF O K hK
                  clear hd
                  have ya := hC.2.1.cell 2
                  have yb := hC.2.1.cell 4
                  simp at ya yb
                  have h5 := O 5 (by kernel_rfl)
                  try have g5 := Array.getD_eq_getD_getElem?.symm.trans h5
                  go_simp
                  exact hK _ _ (hC.keep 0 (by decide) (by decide) (Below.refl wa.heap.size wa)) (fun j d _ _ _ h => h) (fun _ => rfl)
                · intro act wa L hC hd hLi hLa hLb HF O K hK
                  clear hd
                  have ya := hC.2.1.cell 2
                  have yb := hC.2.1.cell 4
                  simp at ya yb
                  have h10 := O 10 (by kernel_rfl)
                  try have g10 := Array.getD_eq_getD_getElem?.symm.trans h10
                  go_simp
                  exact hK _ _ (hC.keep 1 (by decide) (by decide) (Below.refl wa.heap.size wa)) (fun j d _ _ _ h => h) (fun _ => rfl)
                · intro act wa L hC hd hLi hLa hLb HF O K hK
                  clear hd
                  have ya := hC.2.1.cell 2
                  have yb := hC.2.1.cell 4
                  simp at ya yb
                  have h80 := HF 1 80 (hLa 1 1 (by kernel_rfl)) rfl
                  dsimp only [FA] at h80
                  try have g80 := Array.getD_eq_getD_getElem?.symm.trans h80
                  go_simp
                  exact hK _ _ (hC.keep 2 (by decide) (by decide) (Below.refl wa.heap.size wa)) (fun j d _ _ _ h => h) (fun _ => rfl)
                · intro act wa L hC hd hLi hLa hLb HF O K hK
                  clear hd
                  have ya := hC.2.1.cell 2
                  have yb := hC.2.1.cell 4
                  simp at ya yb
                  have h10 := O 10 (by kernel_rfl)
                  try have g10 := Array.getD_eq_getD_getElem?.symm.trans h10
                  go_simp
                  exact hK _ _ (hC.keep 3 (by decide) (by decide) (Below.refl wa.heap.size wa)) (fun j d _ _ _ h => h) (fun _ => rfl)
                · intro act wa L hC hd hLi hLa hLb HF O K hK
                  clear hd
                  have ya := hC.2.1.cell 2
                  have yb := hC.2.1.cell 4
                  simp at ya yb
                  have h82 := HF 3 82 (hLa 1 3 (by kernel_rfl)) rfl
                  dsimp only [FA] at h82
                  try have g82 := Array.getD_eq_getD_getElem?.symm.trans h82
                  go_simp
                  exact hK _ _ (hC.keep 4 (by decide) (by decide) (Below.refl wa.heap.size wa)) (fun j d _ _ _ h => h) (fun _ => rfl)
                · intro act wa L hC hd hLi hLa hLb HF O K hK
                  clear hd
                  have ya := hC.2.1.cell 2
                  have yb := hC.2.1.cell 4
                  simp at ya yb
                  have h79 := HF 0 79 (hLa 1 0 (by kernel_rfl)) rfl
                  dsimp only [FA] at h79
                  try have g79 := Array.getD_eq_getD_getElem?.symm.trans h79
                  have h81 := HF 2 81 (hLa 1 2 (by kernel_rfl)) rfl
                  dsimp only [FA] at h81
                  try have g81 := Array.getD_eq_getD_getElem?.symm.trans h81
                  have h83 := HF 4 83 (hLa 1 4 (by kernel_rfl)) rfl
                  dsimp only [FA] at h83
                  try have g83 := Array.getD_eq_getD_getElem?.symm.trans h83
                  go_simp
                  refine (Ack_at wa g a s q t n a' s' q' bb (hC.old1 hLi) HTK.out).mono ?_
                  rintro e w1 ⟨rfl, hk1, hg1⟩
                  exact hK _ _ (hC.one HG.out HGR.out hne hk1 hg1) (fun j d _ _ _ h => h) (fun _ => rfl)
                · intro act wa L hC hd hLi hLa hLb HF O K hK
                  clear hd
                  have ya := hC.2.1.cell 2
                  have yb := hC.2.1.cell 4
                  simp at ya yb
                  have h7 := O 7 (by kernel_rfl)
                  try have g7 := Array.getD_eq_getD_getElem?.symm.trans h7
                  go_simp
                  exact hK _ _ (hC.keep 6 (by decide) (by decide) (Below.refl wa.heap.size wa)) (fun j d _ _ _ h => h) (fun _ => rfl)
                · intro act wa L hC hd hLi hLa hLb HF O K hK
                  clear hd
                  have ya := hC.2.1.cell 2
                  have yb := hC.2.1.cell 4
                  simp at ya yb
                  have h10 := O 10 (by kernel_rfl)
                  try have g10 := Array.getD_eq_getD_getElem?.symm.trans h10
                  go_simp
                  exact hK _ _ (hC.keep 7 (by decide) (by decide) (Below.refl wa.heap.size wa)) (fun j d _ _ _ h => h) (fun _ => rfl)
                · intro act wa L hC hd hLi hLa hLb HF O K hK
                  clear hd
                  have ya := hC.2.1.cell 2
                  have yb := hC.2.1.cell 4
                  simp at ya yb
                  have h86 := HF 7 86 (hLa 1 7 (by kernel_rfl)) rfl
                  dsimp only [FA] at h86
                  try have g86 := Array.getD_eq_getD_getElem?.symm.trans h86
                  go_simp
                  exact hK _ _ (hC.keep 8 (by decide) (by decide) (Below.refl wa.heap.size wa)) (fun j d _ _ _ h => h) (fun _ => rfl)
                · intro act wa L hC hd hLi hLa hLb HF O K hK
                  clear hd
                  have ya := hC.2.1.cell 2
                  have yb := hC.2.1.cell 4
                  simp at ya yb
                  have h10 := O 10 (by kernel_rfl)
                  try have g10 := Array.getD_eq_getD_getElem?.symm.trans h10
                  go_simp
                  exact hK _ _ (hC.keep 9 (by decide) (by decide) (Below.refl wa.heap.size wa)) (fun j d _ _ _ h => h) (fun _ => rfl)
                · intro act wa L hC hd hLi hLa hLb HF O K hK
                  clear hd
                  have ya := hC.2.1.cell 2
                  have yb := hC.2.1.cell 4
                  simp at ya yb
                  have h88 := HF 9 88 (hLa 1 9 (by kernel_rfl)) rfl
                  dsimp only [FA] at h88
                  try have g88 := Array.getD_eq_getD_getElem?.symm.trans h88
                  go_simp
                  exact hK _ _ (hC.keep 10 (by decide) (by decide) (Below.refl wa.heap.size wa)) (fun j d _ _ _ h => h) (fun _ => rfl)
                · intro act wa L hC hd hLi hLa hLb HF O K hK
                  clear hd
                  have ya := hC.2.1.cell 2
                  have yb := hC.2.1.cell 4
                  simp at ya yb
                  have h85 := HF 6 85 (hLa 1 6 (by kernel_rfl)) rfl
                  dsimp only [FA] at h85
                  try have g85 := Array.getD_eq_getD_getElem?.symm.trans h85
                  have h87 := HF 8 87 (hLa 1 8 (by kernel_rfl)) rfl
                  dsimp only [FA] at h87
                  try have g87 := Array.getD_eq_getD_getElem?.symm.trans h87
                  have h89 := HF 10 89 (hLa 1 10 (by kernel_rfl)) rfl
                  dsimp only [FA] at h89
                  try have g89 := Array.getD_eq_getD_getElem?.symm.trans h89
                  go_simp
                  refine (RAck_at wa r a s q t n a' s' q' bb (hC.old2 hLi) HTK.out).mono ?_
                  rintro e w1 ⟨rfl, hk1, hg1⟩
                  exact hK _ _ (hC.two HRW.out HGR.out hner hk1 hg1) (fun j d _ _ _ h => h) (fun _ => rfl)
                · intro act wa L hC hd hLi hLa hLb HF O K hK
                  clear hd
                  have ya := hC.2.1.cell 2
                  have yb := hC.2.1.cell 4
                  simp at ya yb
                  have h84 := HF 5 84 (hLa 1 5 (by kernel_rfl)) rfl
                  dsimp only [FA] at h84
                  try have g84 := Array.getD_eq_getD_getElem?.symm.trans h84
                  have h90 := HF 11 90 (hLa 1 11 (by kernel_rfl)) rfl
                  dsimp only [FA] at h90
                  try have g90 := Array.getD_eq_getD_getElem?.symm.trans h90
                  cases bb
                  all_goals go_simp
                  all_goals exact hK _ _ (hC.keep 12 (by decide) (by decide) (Below.refl wa.heap.size wa)) (fun j d _ _ _ h => h) (fun _ => rfl)
              · intro us w' hC HF
                obtain ⟨L91, hL91, u91⟩ := HF 12 91 rfl
                dsimp only [FA] at u91
                clear HF
                simp only [List.foldl]
                go_simp
                obtain ⟨LL, hLL, hCC⟩ := hC
                have hb6 := hCC.1
                have hk6 := hCC.2.2.1
                have hr6 := hCC.2.2.2
                rw [if_pos (hLL 5 (by decide))] at hk6
                rw [if_pos (hLL 11 (by decide))] at hr6
                clear hCC hLL hL91
                have HBX := Lib.hid hb6
                have HKX := Lib.hid hk6
                have HRX := Lib.hid hr6
                go_wp2
                refine Inv.region_below (fun i v w' => match i with
                    | 0 => v = .pointer (some ⟨g, 0, none⟩)
                    | 1 => v = .int .i64 a'
                    | 2 => v = .pointer (some ⟨r, 0, none⟩)
                    | 3 => v = .pointer (some ⟨r, 0, none⟩)
                    | 4 => v = .pointer (some ⟨r, 0, none⟩)
                    | 5 => v = .int .i64 a'
                    | 6 => v = .bool false
                    | 7 => v = .bool false
                    | 8 => v = .pointer (some ⟨g, 0, none⟩)
                    | 9 => v = .int .i64 s'
                    | 10 => v = .pointer (some ⟨r, 0, none⟩)
                    | 11 => v = .pointer (some ⟨r, 0, none⟩)
                    | 12 => v = .pointer (some ⟨r, 1, none⟩)
                    | 13 => v = .int .i64 s'
                    | 14 => v = .bool false
                    | 15 => v = .bool false
                    | 16 => v = .bool false
                    | 17 => v = .pointer (some ⟨g, 0, none⟩)
                    | 18 => v = .int .i64 q'
                    | 19 => v = .pointer (some ⟨r, 0, none⟩)
                    | 20 => v = .pointer (some ⟨r, 0, none⟩)
                    | 21 => v = .pointer (some ⟨r, 2, none⟩)
                    | 22 => v = .int .i64 q'
                    | 23 => v = .bool false
                    | 24 => v = .bool false
                    | _ => True)
                  (fun w' => Blk w' g 118 (scs a' s' q') ∧ Blk w' r 84 (scs a' s' q') ∧ Below w.heap.size w w') 154 [128, 129, 130, 131, 132, 133, 134, 135, 136, 137, 138, 139, 140, 141, 142, 143, 144, 145, 146, 147, 148, 149, 150, 151, 152] (by kernel_rfl) rfl (by kernel_rfl) (by kernel_rfl) ?_ ?_ ?_ ?_
                · intro v v' hC hb
                  obtain ⟨hG, hR, hB⟩ := hC
                  exact ⟨hG.below hb hG.lt, hR.below hb hR.lt, hB.trans (hb.mono hB.size)⟩
                · exact ⟨HKX.out.drew, HRX.out.drew, HBX.out.drew⟩
                · refine ⟨⟨fun _ _ _ h _ => h, ?_⟩, ⟨fun _ _ _ h _ => h, ?_⟩, ⟨fun _ _ _ h _ => h, ?_⟩, ⟨fun _ _ _ h _ => h, ?_⟩, ⟨fun _ _ _ h _ => h, ?_⟩, ⟨fun _ _ _ h _ => h, ?_⟩, ⟨fun _ _ _ h _ => h, ?_⟩, ⟨fun _ _ _ h _ => h, ?_⟩, ⟨fun _ _ _ h _ => h, ?_⟩, ⟨fun _ _ _ h _ => h, ?_⟩, ⟨fun _ _ _ h _ => h, ?_⟩, ⟨fun _ _ _ h _ => h, ?_⟩, ⟨fun _ _ _ h _ => h, ?_⟩, ⟨fun _ _ _ h _ => h, ?_⟩, ⟨fun _ _ _ h _ => h, ?_⟩, ⟨fun _ _ _ h _ => h, ?_⟩, ⟨fun _ _ _ h _ => h, ?_⟩, ⟨fun _ _ _ h _ => h, ?_⟩, ⟨fun _ _ _ h _ => h, ?_⟩, ⟨fun _ _ _ h _ => h, ?_⟩, ⟨fun _ _ _ h _ => h, ?_⟩, ⟨fun _ _ _ h _ => h, ?_⟩, ⟨fun _ _ _ h _ => h, ?_⟩, ⟨fun _ _ _ h _ => h, ?_⟩, ⟨fun _ _ _ h _ => h, ?_⟩, trivial⟩
                  · intro act wa hC hd H O K hK
                    clear hd
                    obtain ⟨hG, hR, hB⟩ := hC
                    have h5 := O 5 (by kernel_rfl)
                    have g5 := Array.getD_eq_getD_getElem?.symm.trans h5
                    clear H O
                    obtain ⟨x0, x1, x2, xf⟩ := hR.three
                    go_simp
                    exact hK _ _ (Below.refl _ _) (fun _ => rfl)
                  · intro act wa hC hd H O K hK
                    clear hd
                    obtain ⟨hG, hR, hB⟩ := hC
                    have h128 : act.tmps.getD 128 undef = .pointer (some ⟨g, 0, none⟩) := H 1 0 128 (by kernel_rfl) rfl
                    have g128 := Array.getD_eq_getD_getElem?.symm.trans h128
                    clear H O
                    obtain ⟨x0, x1, x2, xf⟩ := hR.three
                    go_simp
                    refine ((get_any wa g a' s' q' hG).1).mono ?_
                    rintro e w1 ⟨rfl, rfl⟩
                    exact hK _ _ (Below.refl _ _) (fun _ => rfl)
                  · intro act wa hC hd H O K hK
                    clear hd
                    obtain ⟨hG, hR, hB⟩ := hC
                    have h7 := O 7 (by kernel_rfl)
                    have g7 := Array.getD_eq_getD_getElem?.symm.trans h7
                    clear H O
                    obtain ⟨x0, x1, x2, xf⟩ := hR.three
                    go_simp
                    exact hK _ _ (Below.refl _ _) (fun _ => rfl)
                  · intro act wa hC hd H O K hK
                    clear hd
                    obtain ⟨hG, hR, hB⟩ := hC
                    have h130 : act.tmps.getD 130 undef = .pointer (some ⟨r, 0, none⟩) := H 1 2 130 (by kernel_rfl) rfl
                    have g130 := Array.getD_eq_getD_getElem?.symm.trans h130
                    clear H O
                    obtain ⟨x0, x1, x2, xf⟩ := hR.three
                    go_simp
                    exact hK _ _ (Below.refl _ _) (fun _ => rfl)
                  · intro act wa hC hd H O K hK
                    clear hd
                    obtain ⟨hG, hR, hB⟩ := hC
                    have h131 : act.tmps.getD 131 undef = .pointer (some ⟨r, 0, none⟩) := H 1 3 131 (by kernel_rfl) rfl
                    have g131 := Array.getD_eq_getD_getElem?.symm.trans h131
                    clear H O
                    obtain ⟨x0, x1, x2, xf⟩ := hR.three
                    go_simp
                    exact hK _ _ (Below.refl _ _) (fun _ => rfl)
                  · intro act wa hC hd H O K hK
                    clear hd
                    obtain ⟨hG, hR, hB⟩ := hC
                    have h132 : act.tmps.getD 132 undef = .pointer (some ⟨r, 0, none⟩) := H 1 4 132 (by kernel_rfl) rfl
                    have g132 := Array.getD_eq_getD_getElem?.symm.trans h132
                    clear H O
                    obtain ⟨x0, x1, x2, xf⟩ := hR.three
                    go_simp
                    exact hK _ _ (Below.refl _ _) (fun _ => rfl)
                  · intro act wa hC hd H O K hK
                    clear hd
                    obtain ⟨hG, hR, hB⟩ := hC
                    have h129 : act.tmps.getD 129 undef = .int .i64 a' := H 1 1 129 (by kernel_rfl) rfl
                    have g129 := Array.getD_eq_getD_getElem?.symm.trans h129
                    have h133 : act.tmps.getD 133 undef = .int .i64 a' := H 1 5 133 (by kernel_rfl) rfl
                    have g133 := Array.getD_eq_getD_getElem?.symm.trans h133
                    clear H O
                    obtain ⟨x0, x1, x2, xf⟩ := hR.three
                    go_simp
                    exact hK _ _ (Below.refl _ _) (fun _ => rfl)
                  · intro act wa hC hd H O K hK
                    clear hd
                    obtain ⟨hG, hR, hB⟩ := hC
                    have h134 : act.tmps.getD 134 undef = .bool false := H 1 6 134 (by kernel_rfl) rfl
                    have g134 := Array.getD_eq_getD_getElem?.symm.trans h134
                    clear H O
                    obtain ⟨x0, x1, x2, xf⟩ := hR.three
                    go_simp
                    exact hK _ _ (Below.refl _ _) (fun _ => rfl)
                  · intro act wa hC hd H O K hK
                    clear hd
                    obtain ⟨hG, hR, hB⟩ := hC
                    have h5 := O 5 (by kernel_rfl)
                    have g5 := Array.getD_eq_getD_getElem?.symm.trans h5
                    have h135 : act.tmps.getD 135 undef = .bool false := H 1 7 135 (by kernel_rfl) rfl
                    have g135 := Array.getD_eq_getD_getElem?.symm.trans h135
                    have k135 := Inv.some_bool g135
                    clear H O
                    obtain ⟨x0, x1, x2, xf⟩ := hR.three
                    go_simp
                    exact hK _ _ (Below.refl _ _) (fun _ => rfl)
                  · intro act wa hC hd H O K hK
                    clear hd
                    obtain ⟨hG, hR, hB⟩ := hC
                    have h136 : act.tmps.getD 136 undef = .pointer (some ⟨g, 0, none⟩) := H 1 8 136 (by kernel_rfl) rfl
                    have g136 := Array.getD_eq_getD_getElem?.symm.trans h136
                    have h135 : act.tmps.getD 135 undef = .bool false := H 1 7 135 (by kernel_rfl) rfl
                    have g135 := Array.getD_eq_getD_getElem?.symm.trans h135
                    have k135 := Inv.some_bool g135
                    clear H O
                    obtain ⟨x0, x1, x2, xf⟩ := hR.three
                    go_simp
                    refine ((get_any wa g a' s' q' hG).2.1).mono ?_
                    rintro e w1 ⟨rfl, rfl⟩
                    exact hK _ _ (Below.refl _ _) (fun _ => rfl)
                  · intro act wa hC hd H O K hK
                    clear hd
                    obtain ⟨hG, hR, hB⟩ := hC
                    have h7 := O 7 (by kernel_rfl)
                    have g7 := Array.getD_eq_getD_getElem?.symm.trans h7
                    have h135 : act.tmps.getD 135 undef = .bool false := H 1 7 135 (by kernel_rfl) rfl
                    have g135 := Array.getD_eq_getD_getElem?.symm.trans h135
                    have k135 := Inv.some_bool g135
                    clear H O
                    obtain ⟨x0, x1, x2, xf⟩ := hR.three
                    go_simp
                    exact hK _ _ (Below.refl _ _) (fun _ => rfl)
                  · intro act wa hC hd H O K hK
                    clear hd
                    obtain ⟨hG, hR, hB⟩ := hC
                    have h138 : act.tmps.getD 138 undef = .pointer (some ⟨r, 0, none⟩) := H 1 10 138 (by kernel_rfl) rfl
                    have g138 := Array.getD_eq_getD_getElem?.symm.trans h138
                    have h135 : act.tmps.getD 135 undef = .bool false := H 1 7 135 (by kernel_rfl) rfl
                    have g135 := Array.getD_eq_getD_getElem?.symm.trans h135
                    have k135 := Inv.some_bool g135
                    clear H O
                    obtain ⟨x0, x1, x2, xf⟩ := hR.three
                    go_simp
                    exact hK _ _ (Below.refl _ _) (fun _ => rfl)
                  · intro act wa hC hd H O K hK
                    clear hd
                    obtain ⟨hG, hR, hB⟩ := hC
                    have h139 : act.tmps.getD 139 undef = .pointer (some ⟨r, 0, none⟩) := H 1 11 139 (by kernel_rfl) rfl
                    have g139 := Array.getD_eq_getD_getElem?.symm.trans h139
                    have h135 : act.tmps.getD 135 undef = .bool false := H 1 7 135 (by kernel_rfl) rfl
                    have g135 := Array.getD_eq_getD_getElem?.symm.trans h135
                    have k135 := Inv.some_bool g135
                    clear H O
                    obtain ⟨x0, x1, x2, xf⟩ := hR.three
                    go_simp
                    exact hK _ _ (Below.refl _ _) (fun _ => rfl)
                  · intro act wa hC hd H O K hK
                    clear hd
                    obtain ⟨hG, hR, hB⟩ := hC
                    have h140 : act.tmps.getD 140 undef = .pointer (some ⟨r, 1, none⟩) := H 1 12 140 (by kernel_rfl) rfl
                    have g140 := Array.getD_eq_getD_getElem?.symm.trans h140
                    have h135 : act.tmps.getD 135 undef = .bool false := H 1 7 135 (by kernel_rfl) rfl
                    have g135 := Array.getD_eq_getD_getElem?.symm.trans h135
                    have k135 := Inv.some_bool g135
                    clear H O
                    obtain ⟨x0, x1, x2, xf⟩ := hR.three
                    go_simp
                    exact hK _ _ (Below.refl _ _) (fun _ => rfl)
                  · intro act wa hC hd H O K hK
                    clear hd
                    obtain ⟨hG, hR, hB⟩ := hC
                    have h137 : act.tmps.getD 137 undef = .int .i64 s' := H 1 9 137 (by kernel_rfl) rfl
                    have g137 := Array.getD_eq_getD_getElem?.symm.trans h137
                    have h141 : act.tmps.getD 141 undef = .int .i64 s' := H 1 13 141 (by kernel_rfl) rfl
                    have g141 := Array.getD_eq_getD_getElem?.symm.trans h141
                    have h135 : act.tmps.getD 135 undef = .bool false := H 1 7 135 (by kernel_rfl) rfl
                    have g135 := Array.getD_eq_getD_getElem?.symm.trans h135
                    have k135 := Inv.some_bool g135
                    clear H O
                    obtain ⟨x0, x1, x2, xf⟩ := hR.three
                    go_simp
                    exact hK _ _ (Below.refl _ _) (fun _ => rfl)
                  · intro act wa hC hd H O K hK
                    clear hd
                    obtain ⟨hG, hR, hB⟩ := hC
                    have h135 : act.tmps.getD 135 undef = .bool false := H 1 7 135 (by kernel_rfl) rfl
                    have g135 := Array.getD_eq_getD_getElem?.symm.trans h135
                    have h142 : act.tmps.getD 142 undef = .bool false := H 1 14 142 (by kernel_rfl) rfl
                    have g142 := Array.getD_eq_getD_getElem?.symm.trans h142
                    clear H O
                    obtain ⟨x0, x1, x2, xf⟩ := hR.three
                    go_simp
                    exact hK _ _ (Below.refl _ _) (fun _ => rfl)
                  · intro act wa hC hd H O K hK
                    clear hd
                    obtain ⟨hG, hR, hB⟩ := hC
                    have h143 : act.tmps.getD 143 undef = .bool false := H 1 15 143 (by kernel_rfl) rfl
                    have g143 := Array.getD_eq_getD_getElem?.symm.trans h143
                    clear H O
                    obtain ⟨x0, x1, x2, xf⟩ := hR.three
                    go_simp
                    exact hK _ _ (Below.refl _ _) (fun _ => rfl)
                  · intro act wa hC hd H O K hK
                    clear hd
                    obtain ⟨hG, hR, hB⟩ := hC
                    have h5 := O 5 (by kernel_rfl)
                    have g5 := Array.getD_eq_getD_getElem?.symm.trans h5
                    have h144 : act.tmps.getD 144 undef = .bool false := H 1 16 144 (by kernel_rfl) rfl
                    have g144 := Array.getD_eq_getD_getElem?.symm.trans h144
                    have k144 := Inv.some_bool g144
                    clear H O
                    obtain ⟨x0, x1, x2, xf⟩ := hR.three
                    go_simp
                    exact hK _ _ (Below.refl _ _) (fun _ => rfl)
                  · intro act wa hC hd H O K hK
                    clear hd
                    obtain ⟨hG, hR, hB⟩ := hC
                    have h145 : act.tmps.getD 145 undef = .pointer (some ⟨g, 0, none⟩) := H 1 17 145 (by kernel_rfl) rfl
                    have g145 := Array.getD_eq_getD_getElem?.symm.trans h145
                    have h144 : act.tmps.getD 144 undef = .bool false := H 1 16 144 (by kernel_rfl) rfl
                    have g144 := Array.getD_eq_getD_getElem?.symm.trans h144
                    have k144 := Inv.some_bool g144
                    clear H O
                    obtain ⟨x0, x1, x2, xf⟩ := hR.three
                    go_simp
                    refine ((get_any wa g a' s' q' hG).2.2).mono ?_
                    rintro e w1 ⟨rfl, rfl⟩
                    exact hK _ _ (Below.refl _ _) (fun _ => rfl)
                  · intro act wa hC hd H O K hK
                    clear hd
                    obtain ⟨hG, hR, hB⟩ := hC
                    have h7 := O 7 (by kernel_rfl)
                    have g7 := Array.getD_eq_getD_getElem?.symm.trans h7
                    have h144 : act.tmps.getD 144 undef = .bool false := H 1 16 144 (by kernel_rfl) rfl
                    have g144 := Array.getD_eq_getD_getElem?.symm.trans h144
                    have k144 := Inv.some_bool g144
                    clear H O
                    obtain ⟨x0, x1, x2, xf⟩ := hR.three
                    go_simp
                    exact hK _ _ (Below.refl _ _) (fun _ => rfl)
                  · intro act wa hC hd H O K hK
                    clear hd
                    obtain ⟨hG, hR, hB⟩ := hC
                    have h147 : act.tmps.getD 147 undef = .pointer (some ⟨r, 0, none⟩) := H 1 19 147 (by kernel_rfl) rfl
                    have g147 := Array.getD_eq_getD_getElem?.symm.trans h147
                    have h144 : act.tmps.getD 144 undef = .bool false := H 1 16 144 (by kernel_rfl) rfl
                    have g144 := Array.getD_eq_getD_getElem?.symm.trans h144
                    have k144 := Inv.some_bool g144
                    clear H O
                    obtain ⟨x0, x1, x2, xf⟩ := hR.three
                    go_simp
                    exact hK _ _ (Below.refl _ _) (fun _ => rfl)
                  · intro act wa hC hd H O K hK
                    clear hd
                    obtain ⟨hG, hR, hB⟩ := hC
                    have h148 : act.tmps.getD 148 undef = .pointer (some ⟨r, 0, none⟩) := H 1 20 148 (by kernel_rfl) rfl
                    have g148 := Array.getD_eq_getD_getElem?.symm.trans h148
                    have h144 : act.tmps.getD 144 undef = .bool false := H 1 16 144 (by kernel_rfl) rfl
                    have g144 := Array.getD_eq_getD_getElem?.symm.trans h144
                    have k144 := Inv.some_bool g144
                    clear H O
                    obtain ⟨x0, x1, x2, xf⟩ := hR.three
                    go_simp
                    exact hK _ _ (Below.refl _ _) (fun _ => rfl)
                  · intro act wa hC hd H O K hK
                    clear hd
                    obtain ⟨hG, hR, hB⟩ := hC
                    have h149 : act.tmps.getD 149 undef = .pointer (some ⟨r, 2, none⟩) := H 1 21 149 (by kernel_rfl) rfl
                    have g149 := Array.getD_eq_getD_getElem?.symm.trans h149
                    have h144 : act.tmps.getD 144 undef = .bool false := H 1 16 144 (by kernel_rfl) rfl
                    have g144 := Array.getD_eq_getD_getElem?.symm.trans h144
                    have k144 := Inv.some_bool g144
                    clear H O
                    obtain ⟨x0, x1, x2, xf⟩ := hR.three
                    go_simp
                    exact hK _ _ (Below.refl _ _) (fun _ => rfl)
                  · intro act wa hC hd H O K hK
                    clear hd
                    obtain ⟨hG, hR, hB⟩ := hC
                    have h146 : act.tmps.getD 146 undef = .int .i64 q' := H 1 18 146 (by kernel_rfl) rfl
                    have g146 := Array.getD_eq_getD_getElem?.symm.trans h146
                    have h150 : act.tmps.getD 150 undef = .int .i64 q' := H 1 22 150 (by kernel_rfl) rfl
                    have g150 := Array.getD_eq_getD_getElem?.symm.trans h150
                    have h144 : act.tmps.getD 144 undef = .bool false := H 1 16 144 (by kernel_rfl) rfl
                    have g144 := Array.getD_eq_getD_getElem?.symm.trans h144
                    have k144 := Inv.some_bool g144
                    clear H O
                    obtain ⟨x0, x1, x2, xf⟩ := hR.three
                    go_simp
                    exact hK _ _ (Below.refl _ _) (fun _ => rfl)
                  · intro act wa hC hd H O K hK
                    clear hd
                    obtain ⟨hG, hR, hB⟩ := hC
                    have h144 : act.tmps.getD 144 undef = .bool false := H 1 16 144 (by kernel_rfl) rfl
                    have g144 := Array.getD_eq_getD_getElem?.symm.trans h144
                    have h151 : act.tmps.getD 151 undef = .bool false := H 1 23 151 (by kernel_rfl) rfl
                    have g151 := Array.getD_eq_getD_getElem?.symm.trans h151
                    clear H O
                    obtain ⟨x0, x1, x2, xf⟩ := hR.three
                    go_simp
                    exact hK _ _ (Below.refl _ _) (fun _ => rfl)
                · intro us w' hC hF
                  obtain ⟨hG, hR, hB⟩ := hC
                  have u152 : us 152 = .bool false := hF 24 152 rfl
                  clear hF
                  simp only [List.foldl]
                  go_simp
                  go_wp2
                  go_roundw
                  case rel => exact HR.out a' s' q' _ HSI2.out hG hR hB
                  case measure => simp [intOf]; omega
            · by_cases hd2 : d = 2
              · subst hd2
                obtain ⟨x, m, htk, hcase⟩ := ask_facts f t b n
                have HTK := Lib.hid htk
                clear htk hcase
                obtain ⟨y0, y1, y2, yf⟩ : (wr.alloc (.cells #[.int .i64 2, .int .i64 f, .int .i64 t, .int .i64 b, .int .i64 n] 77)).cell? ⟨wr.heap.size, 1, none⟩ = some (.int .i64 f) ∧ (wr.alloc (.cells #[.int .i64 2, .int .i64 f, .int .i64 t, .int .i64 b, .int .i64 n] 77)).cell? ⟨wr.heap.size, 3, none⟩ = some (.int .i64 b) ∧ (wr.alloc (.cells #[.int .i64 2, .int .i64 f, .int .i64 t, .int .i64 b, .int .i64 n] 77)).cell? ⟨wr.heap.size, 4, none⟩ = some (.int .i64 n) ∧ (wr.alloc (.cells #[.int .i64 2, .int .i64 f, .int .i64 t, .int .i64 b, .int .i64 n] 77)).cell? ⟨wr.heap.size, 2, none⟩ = some (.int .i64 t) := ⟨hact2.cell 1, hact2.cell 3, hact2.cell 4, hact2.cell 2⟩
                go_wp2_with fail
                refine (Ask_at _ _ f t b n _ _ ⟨f0, f1⟩ ⟨t0, t1⟩ ⟨b0, b1⟩ ⟨n0', n1⟩ HTK.out).mono ?_
                rintro e w' ⟨rfl, rfl⟩
                go_wp2_with fail
                refine (RAsk_at _ _ f t b n _ _ ⟨f0, f1⟩ ⟨t0, t1⟩ ⟨b0, b1⟩ ⟨n0', n1⟩ HTK.out).mono ?_
                rintro e w' ⟨rfl, rfl⟩
                have HBX := HB2
                have HKX := Lib.hid hkA
                have HRX := Lib.hid hrA
                go_wp2
                refine Inv.region_below (fun i v w' => match i with
                    | 0 => v = .pointer (some ⟨g, 0, none⟩)
                    | 1 => v = .int .i64 a
                    | 2 => v = .pointer (some ⟨r, 0, none⟩)
                    | 3 => v = .pointer (some ⟨r, 0, none⟩)
                    | 4 => v = .pointer (some ⟨r, 0, none⟩)
                    | 5 => v = .int .i64 a
                    | 6 => v = .bool false
                    | 7 => v = .bool false
                    | 8 => v = .pointer (some ⟨g, 0, none⟩)
                    | 9 => v = .int .i64 s
                    | 10 => v = .pointer (some ⟨r, 0, none⟩)
                    | 11 => v = .pointer (some ⟨r, 0, none⟩)
                    | 12 => v = .pointer (some ⟨r, 1, none⟩)
                    | 13 => v = .int .i64 s
                    | 14 => v = .bool false
                    | 15 => v = .bool false
                    | 16 => v = .bool false
                    | 17 => v = .pointer (some ⟨g, 0, none⟩)
                    | 18 => v = .int .i64 q
                    | 19 => v = .pointer (some ⟨r, 0, none⟩)
                    | 20 => v = .pointer (some ⟨r, 0, none⟩)
                    | 21 => v = .pointer (some ⟨r, 2, none⟩)
                    | 22 => v = .int .i64 q
                    | 23 => v = .bool false
                    | 24 => v = .bool false
                    | _ => True)
                  (fun w' => Blk w' g 118 (scs a s q) ∧ Blk w' r 84 (scs a s q) ∧ Below w.heap.size w w') 154 [128, 129, 130, 131, 132, 133, 134, 135, 136, 137, 138, 139, 140, 141, 142, 143, 144, 145, 146, 147, 148, 149, 150, 151, 152] (by kernel_rfl) rfl (by kernel_rfl) (by kernel_rfl) ?_ ?_ ?_ ?_
                · intro v v' hC hb
                  obtain ⟨hG, hR, hB⟩ := hC
                  exact ⟨hG.below hb hG.lt, hR.below hb hR.lt, hB.trans (hb.mono hB.size)⟩
                · exact ⟨HKX.out.drew, HRX.out.drew, HBX.out.drew⟩
                · refine ⟨⟨fun _ _ _ h _ => h, ?_⟩, ⟨fun _ _ _ h _ => h, ?_⟩, ⟨fun _ _ _ h _ => h, ?_⟩, ⟨fun _ _ _ h _ => h, ?_⟩, ⟨fun _ _ _ h _ => h, ?_⟩, ⟨fun _ _ _ h _ => h, ?_⟩, ⟨fun _ _ _ h _ => h, ?_⟩, ⟨fun _ _ _ h _ => h, ?_⟩, ⟨fun _ _ _ h _ => h, ?_⟩, ⟨fun _ _ _ h _ => h, ?_⟩, ⟨fun _ _ _ h _ => h, ?_⟩, ⟨fun _ _ _ h _ => h, ?_⟩, ⟨fun _ _ _ h _ => h, ?_⟩, ⟨fun _ _ _ h _ => h, ?_⟩, ⟨fun _ _ _ h _ => h, ?_⟩, ⟨fun _ _ _ h _ => h, ?_⟩, ⟨fun _ _ _ h _ => h, ?_⟩, ⟨fun _ _ _ h _ => h, ?_⟩, ⟨fun _ _ _ h _ => h, ?_⟩, ⟨fun _ _ _ h _ => h, ?_⟩, ⟨fun _ _ _ h _ => h, ?_⟩, ⟨fun _ _ _ h _ => h, ?_⟩, ⟨fun _ _ _ h _ => h, ?_⟩, ⟨fun _ _ _ h _ => h, ?_⟩, ⟨fun _ _ _ h _ => h, ?_⟩, trivial⟩
                  · intro act wa hC hd H O K hK
                    clear hd
                    obtain ⟨hG, hR, hB⟩ := hC
                    have h5 := O 5 (by kernel_rfl)
                    have g5 := Array.getD_eq_getD_getElem?.symm.trans h5
                    clear H O
                    obtain ⟨x0, x1, x2, xf⟩ := hR.three
                    go_simp
                    exact hK _ _ (Below.refl _ _) (fun _ => rfl)
                  · intro act wa hC hd H O K hK
                    clear hd
                    obtain ⟨hG, hR, hB⟩ := hC
                    have h128 : act.tmps.getD 128 undef = .pointer (some ⟨g, 0, none⟩) := H 1 0 128 (by kernel_rfl) rfl
                    have g128 := Array.getD_eq_getD_getElem?.symm.trans h128
                    clear H O
                    obtain ⟨x0, x1, x2, xf⟩ := hR.three
                    go_simp
                    refine ((get_any wa g a s q hG).1).mono ?_
                    rintro e w1 ⟨rfl, rfl⟩
                    exact hK _ _ (Below.refl _ _) (fun _ => rfl)
                  · intro act wa hC hd H O K hK
                    clear hd
                    obtain ⟨hG, hR, hB⟩ := hC
                    have h7 := O 7 (by kernel_rfl)
                    have g7 := Array.getD_eq_getD_getElem?.symm.trans h7
                    clear H O
                    obtain ⟨x0, x1, x2, xf⟩ := hR.three
                    go_simp
                    exact hK _ _ (Below.refl _ _) (fun _ => rfl)
                  · intro act wa hC hd H O K hK
                    clear hd
                    obtain ⟨hG, hR, hB⟩ := hC
                    have h130 : act.tmps.getD 130 undef = .pointer (some ⟨r, 0, none⟩) := H 1 2 130 (by kernel_rfl) rfl
                    have g130 := Array.getD_eq_getD_getElem?.symm.trans h130
                    clear H O
                    obtain ⟨x0, x1, x2, xf⟩ := hR.three
                    go_simp
                    exact hK _ _ (Below.refl _ _) (fun _ => rfl)
                  · intro act wa hC hd H O K hK
                    clear hd
                    obtain ⟨hG, hR, hB⟩ := hC
                    have h131 : act.tmps.getD 131 undef = .pointer (some ⟨r, 0, none⟩) := H 1 3 131 (by kernel_rfl) rfl
                    have g131 := Array.getD_eq_getD_getElem?.symm.trans h131
                    clear H O
                    obtain ⟨x0, x1, x2, xf⟩ := hR.three
                    go_simp
                    exact hK _ _ (Below.refl _ _) (fun _ => rfl)
                  · intro act wa hC hd H O K hK
                    clear hd
                    obtain ⟨hG, hR, hB⟩ := hC
                    have h132 : act.tmps.getD 132 undef = .pointer (some ⟨r, 0, none⟩) := H 1 4 132 (by kernel_rfl) rfl
                    have g132 := Array.getD_eq_getD_getElem?.symm.trans h132
                    clear H O
                    obtain ⟨x0, x1, x2, xf⟩ := hR.three
                    go_simp
                    exact hK _ _ (Below.refl _ _) (fun _ => rfl)
                  · intro act wa hC hd H O K hK
                    clear hd
                    obtain ⟨hG, hR, hB⟩ := hC
                    have h129 : act.tmps.getD 129 undef = .int .i64 a := H 1 1 129 (by kernel_rfl) rfl
                    have g129 := Array.getD_eq_getD_getElem?.symm.trans h129
                    have h133 : act.tmps.getD 133 undef = .int .i64 a := H 1 5 133 (by kernel_rfl) rfl
                    have g133 := Array.getD_eq_getD_getElem?.symm.trans h133
                    clear H O
                    obtain ⟨x0, x1, x2, xf⟩ := hR.three
                    go_simp
                    exact hK _ _ (Below.refl _ _) (fun _ => rfl)
                  · intro act wa hC hd H O K hK
                    clear hd
                    obtain ⟨hG, hR, hB⟩ := hC
                    have h134 : act.tmps.getD 134 undef = .bool false := H 1 6 134 (by kernel_rfl) rfl
                    have g134 := Array.getD_eq_getD_getElem?.symm.trans h134
                    clear H O
                    obtain ⟨x0, x1, x2, xf⟩ := hR.three
                    go_simp
                    exact hK _ _ (Below.refl _ _) (fun _ => rfl)
                  · intro act wa hC hd H O K hK
                    clear hd
                    obtain ⟨hG, hR, hB⟩ := hC
                    have h5 := O 5 (by kernel_rfl)
                    have g5 := Array.getD_eq_getD_getElem?.symm.trans h5
                    have h135 : act.tmps.getD 135 undef = .bool false := H 1 7 135 (by kernel_rfl) rfl
                    have g135 := Array.getD_eq_getD_getElem?.symm.trans h135
                    have k135 := Inv.some_bool g135
                    clear H O
                    obtain ⟨x0, x1, x2, xf⟩ := hR.three
                    go_simp
                    exact hK _ _ (Below.refl _ _) (fun _ => rfl)
                  · intro act wa hC hd H O K hK
                    clear hd
                    obtain ⟨hG, hR, hB⟩ := hC
                    have h136 : act.tmps.getD 136 undef = .pointer (some ⟨g, 0, none⟩) := H 1 8 136 (by kernel_rfl) rfl
                    have g136 := Array.getD_eq_getD_getElem?.symm.trans h136
                    have h135 : act.tmps.getD 135 undef = .bool false := H 1 7 135 (by kernel_rfl) rfl
                    have g135 := Array.getD_eq_getD_getElem?.symm.trans h135
                    have k135 := Inv.some_bool g135
                    clear H O
                    obtain ⟨x0, x1, x2, xf⟩ := hR.three
                    go_simp
                    refine ((get_any wa g a s q hG).2.1).mono ?_
                    rintro e w1 ⟨rfl, rfl⟩
                    exact hK _ _ (Below.refl _ _) (fun _ => rfl)
                  · intro act wa hC hd H O K hK
                    clear hd
                    obtain ⟨hG, hR, hB⟩ := hC
                    have h7 := O 7 (by kernel_rfl)
                    have g7 := Array.getD_eq_getD_getElem?.symm.trans h7
                    have h135 : act.tmps.getD 135 undef = .bool false := H 1 7 135 (by kernel_rfl) rfl
                    have g135 := Array.getD_eq_getD_getElem?.symm.trans h135
                    have k135 := Inv.some_bool g135
                    clear H O
                    obtain ⟨x0, x1, x2, xf⟩ := hR.three
                    go_simp
                    exact hK _ _ (Below.refl _ _) (fun _ => rfl)
                  · intro act wa hC hd H O K hK
                    clear hd
                    obtain ⟨hG, hR, hB⟩ := hC
                    have h138 : act.tmps.getD 138 undef = .pointer (some ⟨r, 0, none⟩) := H 1 10 138 (by kernel_rfl) rfl
                    have g138 := Array.getD_eq_getD_getElem?.symm.trans h138
                    have h135 : act.tmps.getD 135 undef = .bool false := H 1 7 135 (by kernel_rfl) rfl
                    have g135 := Array.getD_eq_getD_getElem?.symm.trans h135
                    have k135 := Inv.some_bool g135
                    clear H O
                    obtain ⟨x0, x1, x2, xf⟩ := hR.three
                    go_simp
                    exact hK _ _ (Below.refl _ _) (fun _ => rfl)
                  · intro act wa hC hd H O K hK
                    clear hd
                    obtain ⟨hG, hR, hB⟩ := hC
                    have h139 : act.tmps.getD 139 undef = .pointer (some ⟨r, 0, none⟩) := H 1 11 139 (by kernel_rfl) rfl
                    have g139 := Array.getD_eq_getD_getElem?.symm.trans h139
                    have h135 : act.tmps.getD 135 undef = .bool false := H 1 7 135 (by kernel_rfl) rfl
                    have g135 := Array.getD_eq_getD_getElem?.symm.trans h135
                    have k135 := Inv.some_bool g135
                    clear H O
                    obtain ⟨x0, x1, x2, xf⟩ := hR.three
                    go_simp
                    exact hK _ _ (Below.refl _ _) (fun _ => rfl)
                  · intro act wa hC hd H O K hK
                    clear hd
                    obtain ⟨hG, hR, hB⟩ := hC
                    have h140 : act.tmps.getD 140 undef = .pointer (some ⟨r, 1, none⟩) := H 1 12 140 (by kernel_rfl) rfl
                    have g140 := Array.getD_eq_getD_getElem?.symm.trans h140
                    have h135 : act.tmps.getD 135 undef = .bool false := H 1 7 135 (by kernel_rfl) rfl
                    have g135 := Array.getD_eq_getD_getElem?.symm.trans h135
                    have k135 := Inv.some_bool g135
                    clear H O
                    obtain ⟨x0, x1, x2, xf⟩ := hR.three
                    go_simp
                    exact hK _ _ (Below.refl _ _) (fun _ => rfl)
                  · intro act wa hC hd H O K hK
                    clear hd
                    obtain ⟨hG, hR, hB⟩ := hC
                    have h137 : act.tmps.getD 137 undef = .int .i64 s := H 1 9 137 (by kernel_rfl) rfl
                    have g137 := Array.getD_eq_getD_getElem?.symm.trans h137
                    have h141 : act.tmps.getD 141 undef = .int .i64 s := H 1 13 141 (by kernel_rfl) rfl
                    have g141 := Array.getD_eq_getD_getElem?.symm.trans h141
                    have h135 : act.tmps.getD 135 undef = .bool false := H 1 7 135 (by kernel_rfl) rfl
                    have g135 := Array.getD_eq_getD_getElem?.symm.trans h135
                    have k135 := Inv.some_bool g135
                    clear H O
                    obtain ⟨x0, x1, x2, xf⟩ := hR.three
                    go_simp
                    exact hK _ _ (Below.refl _ _) (fun _ => rfl)
                  · intro act wa hC hd H O K hK
                    clear hd
                    obtain ⟨hG, hR, hB⟩ := hC
                    have h135 : act.tmps.getD 135 undef = .bool false := H 1 7 135 (by kernel_rfl) rfl
                    have g135 := Array.getD_eq_getD_getElem?.symm.trans h135
                    have h142 : act.tmps.getD 142 undef = .bool false := H 1 14 142 (by kernel_rfl) rfl
                    have g142 := Array.getD_eq_getD_getElem?.symm.trans h142
                    clear H O
                    obtain ⟨x0, x1, x2, xf⟩ := hR.three
                    go_simp
                    exact hK _ _ (Below.refl _ _) (fun _ => rfl)
                  · intro act wa hC hd H O K hK
                    clear hd
                    obtain ⟨hG, hR, hB⟩ := hC
                    have h143 : act.tmps.getD 143 undef = .bool false := H 1 15 143 (by kernel_rfl) rfl
                    have g143 := Array.getD_eq_getD_getElem?.symm.trans h143
                    clear H O
                    obtain ⟨x0, x1, x2, xf⟩ := hR.three
                    go_simp
                    exact hK _ _ (Below.refl _ _) (fun _ => rfl)
                  · intro act wa hC hd H O K hK
                    clear hd
                    obtain ⟨hG, hR, hB⟩ := hC
                    have h5 := O 5 (by kernel_rfl)
                    have g5 := Array.getD_eq_getD_getElem?.symm.trans h5
                    have h144 : act.tmps.getD 144 undef = .bool false := H 1 16 144 (by kernel_rfl) rfl
                    have g144 := Array.getD_eq_getD_getElem?.symm.trans h144
                    have k144 := Inv.some_bool g144
                    clear H O
                    obtain ⟨x0, x1, x2, xf⟩ := hR.three
                    go_simp
                    exact hK _ _ (Below.refl _ _) (fun _ => rfl)
                  · intro act wa hC hd H O K hK
                    clear hd
                    obtain ⟨hG, hR, hB⟩ := hC
                    have h145 : act.tmps.getD 145 undef = .pointer (some ⟨g, 0, none⟩) := H 1 17 145 (by kernel_rfl) rfl
                    have g145 := Array.getD_eq_getD_getElem?.symm.trans h145
                    have h144 : act.tmps.getD 144 undef = .bool false := H 1 16 144 (by kernel_rfl) rfl
                    have g144 := Array.getD_eq_getD_getElem?.symm.trans h144
                    have k144 := Inv.some_bool g144
                    clear H O
                    obtain ⟨x0, x1, x2, xf⟩ := hR.three
                    go_simp
                    refine ((get_any wa g a s q hG).2.2).mono ?_
                    rintro e w1 ⟨rfl, rfl⟩
                    exact hK _ _ (Below.refl _ _) (fun _ => rfl)
                  · intro act wa hC hd H O K hK
                    clear hd
                    obtain ⟨hG, hR, hB⟩ := hC
                    have h7 := O 7 (by kernel_rfl)
                    have g7 := Array.getD_eq_getD_getElem?.symm.trans h7
                    have h144 : act.tmps.getD 144 undef = .bool false := H 1 16 144 (by kernel_rfl) rfl
                    have g144 := Array.getD_eq_getD_getElem?.symm.trans h144
                    have k144 := Inv.some_bool g144
                    clear H O
                    obtain ⟨x0, x1, x2, xf⟩ := hR.three
                    go_simp
                    exact hK _ _ (Below.refl _ _) (fun _ => rfl)
                  · intro act wa hC hd H O K hK
                    clear hd
                    obtain ⟨hG, hR, hB⟩ := hC
                    have h147 : act.tmps.getD 147 undef = .pointer (some ⟨r, 0, none⟩) := H 1 19 147 (by kernel_rfl) rfl
                    have g147 := Array.getD_eq_getD_getElem?.symm.trans h147
                    have h144 : act.tmps.getD 144 undef = .bool false := H 1 16 144 (by kernel_rfl) rfl
                    have g144 := Array.getD_eq_getD_getElem?.symm.trans h144
                    have k144 := Inv.some_bool g144
                    clear H O
                    obtain ⟨x0, x1, x2, xf⟩ := hR.three
                    go_simp
                    exact hK _ _ (Below.refl _ _) (fun _ => rfl)
                  · intro act wa hC hd H O K hK
                    clear hd
                    obtain ⟨hG, hR, hB⟩ := hC
                    have h148 : act.tmps.getD 148 undef = .pointer (some ⟨r, 0, none⟩) := H 1 20 148 (by kernel_rfl) rfl
                    have g148 := Array.getD_eq_getD_getElem?.symm.trans h148
                    have h144 : act.tmps.getD 144 undef = .bool false := H 1 16 144 (by kernel_rfl) rfl
                    have g144 := Array.getD_eq_getD_getElem?.symm.trans h144
                    have k144 := Inv.some_bool g144
                    clear H O
                    obtain ⟨x0, x1, x2, xf⟩ := hR.three
                    go_simp
                    exact hK _ _ (Below.refl _ _) (fun _ => rfl)
                  · intro act wa hC hd H O K hK
                    clear hd
                    obtain ⟨hG, hR, hB⟩ := hC
                    have h149 : act.tmps.getD 149 undef = .pointer (some ⟨r, 2, none⟩) := H 1 21 149 (by kernel_rfl) rfl
                    have g149 := Array.getD_eq_getD_getElem?.symm.trans h149
                    have h144 : act.tmps.getD 144 undef = .bool false := H 1 16 144 (by kernel_rfl) rfl
                    have g144 := Array.getD_eq_getD_getElem?.symm.trans h144
                    have k144 := Inv.some_bool g144
                    clear H O
                    obtain ⟨x0, x1, x2, xf⟩ := hR.three
                    go_simp
                    exact hK _ _ (Below.refl _ _) (fun _ => rfl)
                  · intro act wa hC hd H O K hK
                    clear hd
                    obtain ⟨hG, hR, hB⟩ := hC
                    have h146 : act.tmps.getD 146 undef = .int .i64 q := H 1 18 146 (by kernel_rfl) rfl
                    have g146 := Array.getD_eq_getD_getElem?.symm.trans h146
                    have h150 : act.tmps.getD 150 undef = .int .i64 q := H 1 22 150 (by kernel_rfl) rfl
                    have g150 := Array.getD_eq_getD_getElem?.symm.trans h150
                    have h144 : act.tmps.getD 144 undef = .bool false := H 1 16 144 (by kernel_rfl) rfl
                    have g144 := Array.getD_eq_getD_getElem?.symm.trans h144
                    have k144 := Inv.some_bool g144
                    clear H O
                    obtain ⟨x0, x1, x2, xf⟩ := hR.three
                    go_simp
                    exact hK _ _ (Below.refl _ _) (fun _ => rfl)
                  · intro act wa hC hd H O K hK
                    clear hd
                    obtain ⟨hG, hR, hB⟩ := hC
                    have h144 : act.tmps.getD 144 undef = .bool false := H 1 16 144 (by kernel_rfl) rfl
                    have g144 := Array.getD_eq_getD_getElem?.symm.trans h144
                    have h151 : act.tmps.getD 151 undef = .bool false := H 1 23 151 (by kernel_rfl) rfl
                    have g151 := Array.getD_eq_getD_getElem?.symm.trans h151
                    clear H O
                    obtain ⟨x0, x1, x2, xf⟩ := hR.three
                    go_simp
                    exact hK _ _ (Below.refl _ _) (fun _ => rfl)
                · intro us w' hC hF
                  obtain ⟨hG, hR, hB⟩ := hC
                  have u152 : us 152 = .bool false := hF 24 152 rfl
                  clear hF
                  simp only [List.foldl]
                  go_simp
                  go_wp2
                  go_roundw
                  case rel => exact HR.out a s q _ HSI.out hG hR hB
                  case measure => simp [intOf]; omega
              · have e0 : (d == 0) = false := by simp; exact hd0
                have e1 : (d == 1) = false := by simp; exact hd1
                have e2 : (d == 2) = false := by simp; exact hd2
                have HBX := HB2
                have HKX := Lib.hid hkA
                have HRX := Lib.hid hrA
                go_wp2
                refine Inv.region_below (fun i v w' => match i with
                    | 0 => v = .pointer (some ⟨g, 0, none⟩)
                    | 1 => v = .int .i64 a
                    | 2 => v = .pointer (some ⟨r, 0, none⟩)
                    | 3 => v = .pointer (some ⟨r, 0, none⟩)
                    | 4 => v = .pointer (some ⟨r, 0, none⟩)
                    | 5 => v = .int .i64 a
                    | 6 => v = .bool false
                    | 7 => v = .bool false
                    | 8 => v = .pointer (some ⟨g, 0, none⟩)
                    | 9 => v = .int .i64 s
                    | 10 => v = .pointer (some ⟨r, 0, none⟩)
                    | 11 => v = .pointer (some ⟨r, 0, none⟩)
                    | 12 => v = .pointer (some ⟨r, 1, none⟩)
                    | 13 => v = .int .i64 s
                    | 14 => v = .bool false
                    | 15 => v = .bool false
                    | 16 => v = .bool false
                    | 17 => v = .pointer (some ⟨g, 0, none⟩)
                    | 18 => v = .int .i64 q
                    | 19 => v = .pointer (some ⟨r, 0, none⟩)
                    | 20 => v = .pointer (some ⟨r, 0, none⟩)
                    | 21 => v = .pointer (some ⟨r, 2, none⟩)
                    | 22 => v = .int .i64 q
                    | 23 => v = .bool false
                    | 24 => v = .bool false
                    | _ => True)
                  (fun w' => Blk w' g 118 (scs a s q) ∧ Blk w' r 84 (scs a s q) ∧ Below w.heap.size w w') 154 [128, 129, 130, 131, 132, 133, 134, 135, 136, 137, 138, 139, 140, 141, 142, 143, 144, 145, 146, 147, 148, 149, 150, 151, 152] (by kernel_rfl) rfl (by kernel_rfl) (by kernel_rfl) ?_ ?_ ?_ ?_
                · intro v v' hC hb
                  obtain ⟨hG, hR, hB⟩ := hC
                  exact ⟨hG.below hb hG.lt, hR.below hb hR.lt, hB.trans (hb.mono hB.size)⟩
                · exact ⟨HKX.out.drew, HRX.out.drew, HBX.out.drew⟩
                · refine ⟨⟨fun _ _ _ h _ => h, ?_⟩, ⟨fun _ _ _ h _ => h, ?_⟩, ⟨fun _ _ _ h _ => h, ?_⟩, ⟨fun _ _ _ h _ => h, ?_⟩, ⟨fun _ _ _ h _ => h, ?_⟩, ⟨fun _ _ _ h _ => h, ?_⟩, ⟨fun _ _ _ h _ => h, ?_⟩, ⟨fun _ _ _ h _ => h, ?_⟩, ⟨fun _ _ _ h _ => h, ?_⟩, ⟨fun _ _ _ h _ => h, ?_⟩, ⟨fun _ _ _ h _ => h, ?_⟩, ⟨fun _ _ _ h _ => h, ?_⟩, ⟨fun _ _ _ h _ => h, ?_⟩, ⟨fun _ _ _ h _ => h, ?_⟩, ⟨fun _ _ _ h _ => h, ?_⟩, ⟨fun _ _ _ h _ => h, ?_⟩, ⟨fun _ _ _ h _ => h, ?_⟩, ⟨fun _ _ _ h _ => h, ?_⟩, ⟨fun _ _ _ h _ => h, ?_⟩, ⟨fun _ _ _ h _ => h, ?_⟩, ⟨fun _ _ _ h _ => h, ?_⟩, ⟨fun _ _ _ h _ => h, ?_⟩, ⟨fun _ _ _ h _ => h, ?_⟩, ⟨fun _ _ _ h _ => h, ?_⟩, ⟨fun _ _ _ h _ => h, ?_⟩, trivial⟩
                  · intro act wa hC hd H O K hK
                    clear hd
                    obtain ⟨hG, hR, hB⟩ := hC
                    have h5 := O 5 (by kernel_rfl)
                    have g5 := Array.getD_eq_getD_getElem?.symm.trans h5
                    clear H O
                    obtain ⟨x0, x1, x2, xf⟩ := hR.three
                    go_simp
                    exact hK _ _ (Below.refl _ _) (fun _ => rfl)
                  · intro act wa hC hd H O K hK
                    clear hd
                    obtain ⟨hG, hR, hB⟩ := hC
                    have h128 : act.tmps.getD 128 undef = .pointer (some ⟨g, 0, none⟩) := H 1 0 128 (by kernel_rfl) rfl
                    have g128 := Array.getD_eq_getD_getElem?.symm.trans h128
                    clear H O
                    obtain ⟨x0, x1, x2, xf⟩ := hR.three
                    go_simp
                    refine ((get_any wa g a s q hG).1).mono ?_
                    rintro e w1 ⟨rfl, rfl⟩
                    exact hK _ _ (Below.refl _ _) (fun _ => rfl)
                  · intro act wa hC hd H O K hK
                    clear hd
                    obtain ⟨hG, hR, hB⟩ := hC
                    have h7 := O 7 (by kernel_rfl)
                    have g7 := Array.getD_eq_getD_getElem?.symm.trans h7
                    clear H O
                    obtain ⟨x0, x1, x2, xf⟩ := hR.three
                    go_simp
                    exact hK _ _ (Below.refl _ _) (fun _ => rfl)
                  · intro act wa hC hd H O K hK
                    clear hd
                    obtain ⟨hG, hR, hB⟩ := hC
                    have h130 : act.tmps.getD 130 undef = .pointer (some ⟨r, 0, none⟩) := H 1 2 130 (by kernel_rfl) rfl
                    have g130 := Array.getD_eq_getD_getElem?.symm.trans h130
                    clear H O
                    obtain ⟨x0, x1, x2, xf⟩ := hR.three
                    go_simp
                    exact hK _ _ (Below.refl _ _) (fun _ => rfl)
                  · intro act wa hC hd H O K hK
                    clear hd
                    obtain ⟨hG, hR, hB⟩ := hC
                    have h131 : act.tmps.getD 131 undef = .pointer (some ⟨r, 0, none⟩) := H 1 3 131 (by kernel_rfl) rfl
                    have g131 := Array.getD_eq_getD_getElem?.symm.trans h131
                    clear H O
                    obtain ⟨x0, x1, x2, xf⟩ := hR.three
                    go_simp
                    exact hK _ _ (Below.refl _ _) (fun _ => rfl)
                  · intro act wa hC hd H O K hK
                    clear hd
                    obtain ⟨hG, hR, hB⟩ := hC
                    have h132 : act.tmps.getD 132 undef = .pointer (some ⟨r, 0, none⟩) := H 1 4 132 (by kernel_rfl) rfl
                    have g132 := Array.getD_eq_getD_getElem?.symm.trans h132
                    clear H O
                    obtain ⟨x0, x1, x2, xf⟩ := hR.three
                    go_simp
                    exact hK _ _ (Below.refl _ _) (fun _ => rfl)
                  · intro act wa hC hd H O K hK
                    clear hd
                    obtain ⟨hG, hR, hB⟩ := hC
                    have h129 : act.tmps.getD 129 undef = .int .i64 a := H 1 1 129 (by kernel_rfl) rfl
                    have g129 := Array.getD_eq_getD_getElem?.symm.trans h129
                    have h133 : act.tmps.getD 133 undef = .int .i64 a := H 1 5 133 (by kernel_rfl) rfl
                    have g133 := Array.getD_eq_getD_getElem?.symm.trans h133
                    clear H O
                    obtain ⟨x0, x1, x2, xf⟩ := hR.three
                    go_simp
                    exact hK _ _ (Below.refl _ _) (fun _ => rfl)
                  · intro act wa hC hd H O K hK
                    clear hd
                    obtain ⟨hG, hR, hB⟩ := hC
                    have h134 : act.tmps.getD 134 undef = .bool false := H 1 6 134 (by kernel_rfl) rfl
                    have g134 := Array.getD_eq_getD_getElem?.symm.trans h134
                    clear H O
                    obtain ⟨x0, x1, x2, xf⟩ := hR.three
                    go_simp
                    exact hK _ _ (Below.refl _ _) (fun _ => rfl)
                  · intro act wa hC hd H O K hK
                    clear hd
                    obtain ⟨hG, hR, hB⟩ := hC
                    have h5 := O 5 (by kernel_rfl)
                    have g5 := Array.getD_eq_getD_getElem?.symm.trans h5
                    have h135 : act.tmps.getD 135 undef = .bool false := H 1 7 135 (by kernel_rfl) rfl
                    have g135 := Array.getD_eq_getD_getElem?.symm.trans h135
                    have k135 := Inv.some_bool g135
                    clear H O
                    obtain ⟨x0, x1, x2, xf⟩ := hR.three
                    go_simp
                    exact hK _ _ (Below.refl _ _) (fun _ => rfl)
                  · intro act wa hC hd H O K hK
                    clear hd
                    obtain ⟨hG, hR, hB⟩ := hC
                    have h136 : act.tmps.getD 136 undef = .pointer (some ⟨g, 0, none⟩) := H 1 8 136 (by kernel_rfl) rfl
                    have g136 := Array.getD_eq_getD_getElem?.symm.trans h136
                    have h135 : act.tmps.getD 135 undef = .bool false := H 1 7 135 (by kernel_rfl) rfl
                    have g135 := Array.getD_eq_getD_getElem?.symm.trans h135
                    have k135 := Inv.some_bool g135
                    clear H O
                    obtain ⟨x0, x1, x2, xf⟩ := hR.three
                    go_simp
                    refine ((get_any wa g a s q hG).2.1).mono ?_
                    rintro e w1 ⟨rfl, rfl⟩
                    exact hK _ _ (Below.refl _ _) (fun _ => rfl)
                  · intro act wa hC hd H O K hK
                    clear hd
                    obtain ⟨hG, hR, hB⟩ := hC
                    have h7 := O 7 (by kernel_rfl)
                    have g7 := Array.getD_eq_getD_getElem?.symm.trans h7
                    have h135 : act.tmps.getD 135 undef = .bool false := H 1 7 135 (by kernel_rfl) rfl
                    have g135 := Array.getD_eq_getD_getElem?.symm.trans h135
                    have k135 := Inv.some_bool g135
                    clear H O
                    obtain ⟨x0, x1, x2, xf⟩ := hR.three
                    go_simp
                    exact hK _ _ (Below.refl _ _) (fun _ => rfl)
                  · intro act wa hC hd H O K hK
                    clear hd
                    obtain ⟨hG, hR, hB⟩ := hC
                    have h138 : act.tmps.getD 138 undef = .pointer (some ⟨r, 0, none⟩) := H 1 10 138 (by kernel_rfl) rfl
                    have g138 := Array.getD_eq_getD_getElem?.symm.trans h138
                    have h135 : act.tmps.getD 135 undef = .bool false := H 1 7 135 (by kernel_rfl) rfl
                    have g135 := Array.getD_eq_getD_getElem?.symm.trans h135
                    have k135 := Inv.some_bool g135
                    clear H O
                    obtain ⟨x0, x1, x2, xf⟩ := hR.three
                    go_simp
                    exact hK _ _ (Below.refl _ _) (fun _ => rfl)
                  · intro act wa hC hd H O K hK
                    clear hd
                    obtain ⟨hG, hR, hB⟩ := hC
                    have h139 : act.tmps.getD 139 undef = .pointer (some ⟨r, 0, none⟩) := H 1 11 139 (by kernel_rfl) rfl
                    have g139 := Array.getD_eq_getD_getElem?.symm.trans h139
                    have h135 : act.tmps.getD 135 undef = .bool false := H 1 7 135 (by kernel_rfl) rfl
                    have g135 := Array.getD_eq_getD_getElem?.symm.trans h135
                    have k135 := Inv.some_bool g135
                    clear H O
                    obtain ⟨x0, x1, x2, xf⟩ := hR.three
                    go_simp
                    exact hK _ _ (Below.refl _ _) (fun _ => rfl)
                  · intro act wa hC hd H O K hK
                    clear hd
                    obtain ⟨hG, hR, hB⟩ := hC
                    have h140 : act.tmps.getD 140 undef = .pointer (some ⟨r, 1, none⟩) := H 1 12 140 (by kernel_rfl) rfl
                    have g140 := Array.getD_eq_getD_getElem?.symm.trans h140
                    have h135 : act.tmps.getD 135 undef = .bool false := H 1 7 135 (by kernel_rfl) rfl
                    have g135 := Array.getD_eq_getD_getElem?.symm.trans h135
                    have k135 := Inv.some_bool g135
                    clear H O
                    obtain ⟨x0, x1, x2, xf⟩ := hR.three
                    go_simp
                    exact hK _ _ (Below.refl _ _) (fun _ => rfl)
                  · intro act wa hC hd H O K hK
                    clear hd
                    obtain ⟨hG, hR, hB⟩ := hC
                    have h137 : act.tmps.getD 137 undef = .int .i64 s := H 1 9 137 (by kernel_rfl) rfl
                    have g137 := Array.getD_eq_getD_getElem?.symm.trans h137
                    have h141 : act.tmps.getD 141 undef = .int .i64 s := H 1 13 141 (by kernel_rfl) rfl
                    have g141 := Array.getD_eq_getD_getElem?.symm.trans h141
                    have h135 : act.tmps.getD 135 undef = .bool false := H 1 7 135 (by kernel_rfl) rfl
                    have g135 := Array.getD_eq_getD_getElem?.symm.trans h135
                    have k135 := Inv.some_bool g135
                    clear H O
                    obtain ⟨x0, x1, x2, xf⟩ := hR.three
                    go_simp
                    exact hK _ _ (Below.refl _ _) (fun _ => rfl)
                  · intro act wa hC hd H O K hK
                    clear hd
                    obtain ⟨hG, hR, hB⟩ := hC
                    have h135 : act.tmps.getD 135 undef = .bool false := H 1 7 135 (by kernel_rfl) rfl
                    have g135 := Array.getD_eq_getD_getElem?.symm.trans h135
                    have h142 : act.tmps.getD 142 undef = .bool false := H 1 14 142 (by kernel_rfl) rfl
                    have g142 := Array.getD_eq_getD_getElem?.symm.trans h142
                    clear H O
                    obtain ⟨x0, x1, x2, xf⟩ := hR.three
                    go_simp
                    exact hK _ _ (Below.refl _ _) (fun _ => rfl)
                  · intro act wa hC hd H O K hK
                    clear hd
                    obtain ⟨hG, hR, hB⟩ := hC
                    have h143 : act.tmps.getD 143 undef = .bool false := H 1 15 143 (by kernel_rfl) rfl
                    have g143 := Array.getD_eq_getD_getElem?.symm.trans h143
                    clear H O
                    obtain ⟨x0, x1, x2, xf⟩ := hR.three
                    go_simp
                    exact hK _ _ (Below.refl _ _) (fun _ => rfl)
                  · intro act wa hC hd H O K hK
                    clear hd
                    obtain ⟨hG, hR, hB⟩ := hC
                    have h5 := O 5 (by kernel_rfl)
                    have g5 := Array.getD_eq_getD_getElem?.symm.trans h5
                    have h144 : act.tmps.getD 144 undef = .bool false := H 1 16 144 (by kernel_rfl) rfl
                    have g144 := Array.getD_eq_getD_getElem?.symm.trans h144
                    have k144 := Inv.some_bool g144
                    clear H O
                    obtain ⟨x0, x1, x2, xf⟩ := hR.three
                    go_simp
                    exact hK _ _ (Below.refl _ _) (fun _ => rfl)
                  · intro act wa hC hd H O K hK
                    clear hd
                    obtain ⟨hG, hR, hB⟩ := hC
                    have h145 : act.tmps.getD 145 undef = .pointer (some ⟨g, 0, none⟩) := H 1 17 145 (by kernel_rfl) rfl
                    have g145 := Array.getD_eq_getD_getElem?.symm.trans h145
                    have h144 : act.tmps.getD 144 undef = .bool false := H 1 16 144 (by kernel_rfl) rfl
                    have g144 := Array.getD_eq_getD_getElem?.symm.trans h144
                    have k144 := Inv.some_bool g144
                    clear H O
                    obtain ⟨x0, x1, x2, xf⟩ := hR.three
                    go_simp
                    refine ((get_any wa g a s q hG).2.2).mono ?_
                    rintro e w1 ⟨rfl, rfl⟩
                    exact hK _ _ (Below.refl _ _) (fun _ => rfl)
                  · intro act wa hC hd H O K hK
                    clear hd
                    obtain ⟨hG, hR, hB⟩ := hC
                    have h7 := O 7 (by kernel_rfl)
                    have g7 := Array.getD_eq_getD_getElem?.symm.trans h7
                    have h144 : act.tmps.getD 144 undef = .bool false := H 1 16 144 (by kernel_rfl) rfl
                    have g144 := Array.getD_eq_getD_getElem?.symm.trans h144
                    have k144 := Inv.some_bool g144
                    clear H O
                    obtain ⟨x0, x1, x2, xf⟩ := hR.three
                    go_simp
                    exact hK _ _ (Below.refl _ _) (fun _ => rfl)
                  · intro act wa hC hd H O K hK
                    clear hd
                    obtain ⟨hG, hR, hB⟩ := hC
                    have h147 : act.tmps.getD 147 undef = .pointer (some ⟨r, 0, none⟩) := H 1 19 147 (by kernel_rfl) rfl
                    have g147 := Array.getD_eq_getD_getElem?.symm.trans h147
                    have h144 : act.tmps.getD 144 undef = .bool false := H 1 16 144 (by kernel_rfl) rfl
                    have g144 := Array.getD_eq_getD_getElem?.symm.trans h144
                    have k144 := Inv.some_bool g144
                    clear H O
                    obtain ⟨x0, x1, x2, xf⟩ := hR.three
                    go_simp
                    exact hK _ _ (Below.refl _ _) (fun _ => rfl)
                  · intro act wa hC hd H O K hK
                    clear hd
                    obtain ⟨hG, hR, hB⟩ := hC
                    have h148 : act.tmps.getD 148 undef = .pointer (some ⟨r, 0, none⟩) := H 1 20 148 (by kernel_rfl) rfl
                    have g148 := Array.getD_eq_getD_getElem?.symm.trans h148
                    have h144 : act.tmps.getD 144 undef = .bool false := H 1 16 144 (by kernel_rfl) rfl
                    have g144 := Array.getD_eq_getD_getElem?.symm.trans h144
                    have k144 := Inv.some_bool g144
                    clear H O
                    obtain ⟨x0, x1, x2, xf⟩ := hR.three
                    go_simp
                    exact hK _ _ (Below.refl _ _) (fun _ => rfl)
                  · intro act wa hC hd H O K hK
                    clear hd
                    obtain ⟨hG, hR, hB⟩ := hC
                    have h149 : act.tmps.getD 149 undef = .pointer (some ⟨r, 2, none⟩) := H 1 21 149 (by kernel_rfl) rfl
                    have g149 := Array.getD_eq_getD_getElem?.symm.trans h149
                    have h144 : act.tmps.getD 144 undef = .bool false := H 1 16 144 (by kernel_rfl) rfl
                    have g144 := Array.getD_eq_getD_getElem?.symm.trans h144
                    have k144 := Inv.some_bool g144
                    clear H O
                    obtain ⟨x0, x1, x2, xf⟩ := hR.three
                    go_simp
                    exact hK _ _ (Below.refl _ _) (fun _ => rfl)
                  · intro act wa hC hd H O K hK
                    clear hd
                    obtain ⟨hG, hR, hB⟩ := hC
                    have h146 : act.tmps.getD 146 undef = .int .i64 q := H 1 18 146 (by kernel_rfl) rfl
                    have g146 := Array.getD_eq_getD_getElem?.symm.trans h146
                    have h150 : act.tmps.getD 150 undef = .int .i64 q := H 1 22 150 (by kernel_rfl) rfl
                    have g150 := Array.getD_eq_getD_getElem?.symm.trans h150
                    have h144 : act.tmps.getD 144 undef = .bool false := H 1 16 144 (by kernel_rfl) rfl
                    have g144 := Array.getD_eq_getD_getElem?.symm.trans h144
                    have k144 := Inv.some_bool g144
                    clear H O
                    obtain ⟨x0, x1, x2, xf⟩ := hR.three
                    go_simp
                    exact hK _ _ (Below.refl _ _) (fun _ => rfl)
                  · intro act wa hC hd H O K hK
                    clear hd
                    obtain ⟨hG, hR, hB⟩ := hC
                    have h144 : act.tmps.getD 144 undef = .bool false := H 1 16 144 (by kernel_rfl) rfl
                    have g144 := Array.getD_eq_getD_getElem?.symm.trans h144
                    have h151 : act.tmps.getD 151 undef = .bool false := H 1 23 151 (by kernel_rfl) rfl
                    have g151 := Array.getD_eq_getD_getElem?.symm.trans h151
                    clear H O
                    obtain ⟨x0, x1, x2, xf⟩ := hR.three
                    go_simp
                    exact hK _ _ (Below.refl _ _) (fun _ => rfl)
                · intro us w' hC hF
                  obtain ⟨hG, hR, hB⟩ := hC
                  have u152 : us 152 = .bool false := hF 24 152 rfl
                  clear hF
                  simp only [List.foldl]
                  go_simp
                  go_wp2
                  go_roundw
                  case rel => exact HR.out a s q _ HSI.out hG hR hB
                  case measure => simp [intOf]; omega
        · obtain rfl : k = cs.length := by omega
          have HP : TruePost18 w (.returned (.bool true)) wr := ⟨rfl, HB.out⟩
          have HPP := Lib.hid HP; clear HP hbel hsi hblk hblr
          go_wp2
          go_ret
          exact HPP.out
    · have HNN := Lib.hid hnn; clear hnn
      go_wp2_with fail
      refine (New_no_at _ n0 HNN.out).mono ?_
      rintro e w3 ⟨rfl, hb3⟩
      have hbw3 := hbw.trans (hb3.mono hbw.size)
      go_wp2_with fail
      refine (RNew_no_at _ n0 HNN.out).mono ?_
      rintro e w4 ⟨rfl, hb4⟩
      have HP : TruePost18 w (.returned (.bool true)) w4 := ⟨rfl, hbw3.trans (hb4.mono hbw3.size)⟩
      have HPP := Lib.hid HP; clear HP hbw hb3 hb4 hbw3
      go_wp2
      go_ret
      exact HPP.out
  · have HP : TruePost18 w (.returned (.bool true)) w2 := ⟨rfl, hbw⟩
    have HPP := Lib.hid HP; clear HP hbw hfine
    go_wp2
    go_ret
    exact HPP.out
end Go.Proofs.Ytignfhdblakcfaa
