/- packetboatref04.Put: the document's bytes of a clock behind another one. -/
import Derived.Test.YtignfhdblakcfaaCput
import Derived.Test.YtignfhdblakcfaaRef1
import Derived.Deep.AppendLies
namespace Go.Proofs.Ytignfhdblakcfaa
open Go.ChangeShapes Go.WideShapes Go.ChangeAt Go.RowKit
set_option linter.unusedVariables false
set_option linter.unusedSimpArgs false

theorem own_drew {w : World} {base : Nat} {e : TypeId} {size : Nat} {v : Value} {n : Nat} {xs : List Value} (h : w.ownsRow base e size v n xs) : w.drew.ownsRow base e size v n xs := h
theorem RPut_some (w : World) (n : Nat) (hn : n ≤ 18446744073709551615) : Calls Try.prog 58 #[.int .u64 (n : Int)] w fun e w' =>
    ∃ g c, e = .returned (.slice (some ⟨g, 0, none⟩) (Vm.enc n).length c) ∧ (∀ j u, (u8s (Vm.enc n))[j]? = some u → w'.cell? ((⟨g, 0, none⟩ : Addr).add j) = some u) ∧ Below w.heap.size w w' := by
  refine (RPut_any w n hn).mono ?_
  rintro e w' ⟨v, rfl, ho, hb, hne⟩
  rcases ho.2 with ⟨hv, _⟩ | ⟨g, cap, cur, rfl, _⟩
  · exact absurd hv hne
  · refine ⟨g, cap, by simp, fun j u hu => ?_, hb⟩
    exact ho.cells (g := g) rfl j u (by simpa using hu)
theorem RZig_at (w : World) (n : Int) (h0 : -9223372036854775808 ≤ n) (h1 : n ≤ 9223372036854775807) :
    Calls Try.prog 59 #[.int .i64 n] w fun e w' => e = .returned (.int .u64 (Vm.zig n : Int)) ∧ w = w' := RZig_any w n h0 h1

set_option maxRecDepth 100000 in
set_option maxHeartbeats 4000000 in
theorem RCput_any (w : World) (p0 p1 p2 c0 c1 c2 : Int) :
    Calls Try.prog 16 #[.agg #[.int .i64 p0, .int .i64 p1, .int .i64 p2], .agg #[.int .i64 c0, .int .i64 c1, .int .i64 c2]] w (CputPost w (p0, p1, p2) (c0, c1, c2)) := by
  have hB : Below w.heap.size w ((w.alloc (Obj.cells #[.int .i64 p0, .int .i64 p1, .int .i64 p2] 23)).alloc (Obj.cells #[.int .i64 c0, .int .i64 c1, .int .i64 c2] 23)) := ((Below.refl _ _).alloc (Nat.le_refl _) _).alloc (by simp) _
  have HB := Lib.hid hB; clear hB
  have HK : ∀ w1, Below ((w.alloc (Obj.cells #[.int .i64 p0, .int .i64 p1, .int .i64 p2] 23)).alloc (Obj.cells #[.int .i64 c0, .int .i64 c1, .int .i64 c2] 23)).heap.size ((w.alloc (Obj.cells #[.int .i64 p0, .int .i64 p1, .int .i64 p2] 23)).alloc (Obj.cells #[.int .i64 c0, .int .i64 c1, .int .i64 c2] 23)) w1 → Blk w1 w.heap.size 23 #[.int .i64 p0, .int .i64 p1, .int .i64 p2] ∧ Blk w1 (w.heap.size + 1) 23 #[.int .i64 c0, .int .i64 c1, .int .i64 c2] :=
    fun w1 hb => ⟨((Blk.new w _ _).alloc _).below hb (by simp; omega), (Blk.new' _ _ _ (by simp)).below hb (by simp)⟩
  have HKK := Lib.hid HK; clear HK
  cases hp : rightB p0 p1 p2
  · have HR : ∀ w', Below w.heap.size w w' → CputPost w (p0, p1, p2) (c0, c1, c2) (.returned (.tuple #[.slice none 0 0, .int .i64 1])) w' := fun w' hb => cputPost_no (by simp [hp]) hb
    have HRR := Lib.hid HR; clear HR
    go_enter Try.func16, Try.ntmps16
    go_wp2_with fail
    refine (RRight_any _ _ _ _).mono ?_
    rintro e w1 ⟨rfl, hb1⟩
    rw [hp]
    go_wp2
    go_ret2
    exact HRR.out _ (HB.out.trans (hb1.mono HB.out.size))
  · cases hc : rightB c0 c1 c2
    · have HR : ∀ w', Below w.heap.size w w' → CputPost w (p0, p1, p2) (c0, c1, c2) (.returned (.tuple #[.slice none 0 0, .int .i64 1])) w' := fun w' hb => cputPost_no (by simp [hc]) hb
      have HRR := Lib.hid HR; clear HR
      go_enter Try.func16, Try.ntmps16
      go_wp2_with fail
      refine (RRight_any _ _ _ _).mono ?_
      rintro e w1 ⟨rfl, hb1⟩
      obtain ⟨r0, r1, r2, rf⟩ := (HKK.out _ hb1).2.three
      rw [hp]
      go_wp2_with fail
      refine (RRight_any _ _ _ _).mono ?_
      rintro e w2 ⟨rfl, hb2⟩
      rw [hc]
      go_wp2
      go_ret2
      exact HRR.out _ ((HB.out.trans (hb1.mono HB.out.size)).trans (hb2.mono (Nat.le_trans HB.out.size hb1.size)))
    · obtain ⟨⟨pa0, pa1⟩, ⟨pb0, pb1⟩, ⟨pc0, pc1⟩⟩ := right_le hp
      obtain ⟨⟨ca0, ca1⟩, ⟨cb0, cb1⟩, ⟨cc0, cc1⟩⟩ := right_le hc
      obtain ⟨i0, hi, hz0, hz1, hz2⟩ := info_parts Try.infoB
      have HE := Lib.hid (fun (w' : World) (base n : Nat) (v : Value) => cput_end (w := w) (w' := w') (base := base) (n := n) (v := v) hp hc)
      have L0 := put1_le p0 c0
      have L1 := put1_le p1 c1
      have L2 := put1_le p2 c2
      have P0 : 0 < (put1 p0 c0).length := Vm.enc_pos _
      have P1 : 0 < (put1 p1 c1).length := Vm.enc_pos _
      have P2 : 0 < (put1 p2 c2).length := Vm.enc_pos _
      have Z0 : Vm.zig (c0 - p0) < 18446744073709551616 := Vm.zig_lt (by omega) (by omega)
      have Z1 : Vm.zig (c1 - p1) < 18446744073709551616 := Vm.zig_lt (by omega) (by omega)
      have Z2 : Vm.zig (c2 - p2) < 18446744073709551616 := Vm.zig_lt (by omega) (by omega)
      go_enter Try.func16, Try.ntmps16
      go_wp2_with fail
      refine (RRight_any _ _ _ _).mono ?_
      rintro e w1 ⟨rfl, hb1⟩
      obtain ⟨r0, r1, r2, rf⟩ := (HKK.out _ hb1).2.three
      rw [hp]
      go_wp2_with fail
      refine (RRight_any _ _ _ _).mono ?_
      rintro e w2 ⟨rfl, hb2⟩
      rw [hc]
      have hb02 := hb1.trans (hb2.mono hb1.size)
      have HB2 := Lib.hid (HB.out.trans (hb02.mono HB.out.size))
      have hk1 := (HKK.out _ hb02).1
      have hk2 := (HKK.out _ hb02).2
      have s2 := hk2.lt
      clear r0 r1 r2 rf HB HKK hb1 hb2 hb02
      have ho0 := own_lit0 w2 5 w2.heap.size (Nat.le_refl _)
      have hb0 : Below w2.heap.size w2 (w2.alloc (.cells #[] 5)) := (Below.refl _ _).alloc (Nat.le_refl _) _
      go_wp2
      refine wp_loop_rounds 4 ?_
      rw [rounds_succ]
      have q0 : (w2.alloc (.cells #[] 5)).cell? ⟨w.heap.size, 0, none⟩ = some (.int .i64 p0) := ((hk1.below hb0 (by omega)).cell 0)
      have r0 : (w2.alloc (.cells #[] 5)).cell? ⟨w.heap.size + 1, 0, none⟩ = some (.int .i64 c0) := ((hk2.below hb0 (by omega)).cell 0)
      have z0 := hb0.size
      have wr0 : IntKind.i64.wrap (c0 - p0) = c0 - p0 := IntWalk.i64_in _ ⟨by omega, by omega⟩
      go_wp2
      go_region_held3 (fun w' => w'.cell? ⟨w.heap.size, 0, none⟩ = some (.int .i64 p0) ∧ w'.cell? ⟨w.heap.size + 1, 0, none⟩ = some (.int .i64 c0))
        (first | (obtain ⟨x1, x2⟩ := (‹w1a.cell? ⟨w.heap.size, 0, none⟩ = some (.int .i64 p0) ∧ w1a.cell? ⟨w.heap.size + 1, 0, none⟩ = some (.int .i64 c0)›); exact ⟨(hB1.cell (p := ⟨w.heap.size, 0, none⟩) (by simp; omega)).trans x1, (hB1.cell (p := ⟨w.heap.size + 1, 0, none⟩) (by simp; omega)).trans x2⟩) | (exact ⟨(hb1.cell (p := ⟨w.heap.size, 0, none⟩) (by simp; omega)).trans q0, (hb1.cell (p := ⟨w.heap.size + 1, 0, none⟩) (by simp; omega)).trans r0⟩) | go_keep)
        (first
          | (go_at_call 59; refine (RZig_at _ (c0 - p0) (by omega) (by omega)).mono ?_; rintro e w' ⟨rfl, rfl⟩)
          | (go_at_call 58; refine (RPut_some _ (Vm.zig (c0 - p0)) (by omega)).mono ?_; rintro e w1a ⟨gx1, cc1, rfl, hn1, hb1⟩)
          | ((refine step_append_lies _ (by rfl) _ _ _ (by rfl) w2.heap.size 5 i0 (.int .u8 0) 1 1 Try.underlying25 hi hz0 hz1 hz2 rfl (by omega) (.slice (some ⟨w2.heap.size, 0, none⟩) 0 0) _ _ (by rfl) (own_below (own_drew ho0) hb1) ⟨gx1, 0, none⟩ (put1 p0 c0).length cc1 (u8s (put1 p0 c0)) (by rfl) (by simp) hn1 (u8s_one _) P0 (by unfold maxLen; omega) (by omega) (Nat.le_trans z0 hb1.size) _ rfl ?_; intro g1 cap1 wx1 ho1 hg1 hat1 hlt1; have hB1 := (Below.refl w2.heap.size w1a).grown hg1 (Nat.le_trans z0 hb1.size) (fun k hk => ((ho0).lt k hk).1))))
      have hbn1 : Below w2.heap.size w2 wx1 := (hb0.drew.trans (hb1.mono z0)).trans hB1
      clear wr0 q0 r0
      try simp only [Nat.zero_add, List.nil_append] at ho1
      go_wp2
      rw [rounds_succ]
      have q1 : wx1.cell? ⟨w.heap.size, 1, none⟩ = some (.int .i64 p1) := ((hk1.below hbn1 (by omega)).cell 1)
      have r1 : wx1.cell? ⟨w.heap.size + 1, 1, none⟩ = some (.int .i64 c1) := ((hk2.below hbn1 (by omega)).cell 1)
      have z1 := hbn1.size
      have wr1 : IntKind.i64.wrap (c1 - p1) = c1 - p1 := IntWalk.i64_in _ ⟨by omega, by omega⟩
      go_wp2
      go_region_held3 (fun w' => w'.cell? ⟨w.heap.size, 1, none⟩ = some (.int .i64 p1) ∧ w'.cell? ⟨w.heap.size + 1, 1, none⟩ = some (.int .i64 c1))
        (first | (obtain ⟨x1, x2⟩ := (‹w2a.cell? ⟨w.heap.size, 1, none⟩ = some (.int .i64 p1) ∧ w2a.cell? ⟨w.heap.size + 1, 1, none⟩ = some (.int .i64 c1)›); exact ⟨(hB2.cell (p := ⟨w.heap.size, 1, none⟩) (by simp; omega)).trans x1, (hB2.cell (p := ⟨w.heap.size + 1, 1, none⟩) (by simp; omega)).trans x2⟩) | (exact ⟨(hb2.cell (p := ⟨w.heap.size, 1, none⟩) (by simp; omega)).trans q1, (hb2.cell (p := ⟨w.heap.size + 1, 1, none⟩) (by simp; omega)).trans r1⟩) | go_keep)
        (first
          | (go_at_call 59; refine (RZig_at _ (c1 - p1) (by omega) (by omega)).mono ?_; rintro e w' ⟨rfl, rfl⟩)
          | (go_at_call 58; refine (RPut_some _ (Vm.zig (c1 - p1)) (by omega)).mono ?_; rintro e w2a ⟨gx2, cc2, rfl, hn2, hb2⟩)
          | ((refine step_append_lies _ (by rfl) _ _ _ (by rfl) w2.heap.size 5 i0 (.int .u8 0) 1 1 Try.underlying25 hi hz0 hz1 hz2 rfl (by omega) (.slice (some ⟨g1, 0, none⟩) _ _) _ _ (by rfl) (own_below (own_drew ho1) hb2) ⟨gx2, 0, none⟩ (put1 p1 c1).length cc2 (u8s (put1 p1 c1)) (by rfl) (by simp) hn2 (u8s_one _) P1 (by unfold maxLen; omega) (by omega) (Nat.le_trans z1 hb2.size) _ rfl ?_; intro g2 cap2 wx2 ho2 hg2 hat2 hlt2; have hB2 := (Below.refl w2.heap.size w2a).grown hg2 (Nat.le_trans z1 hb2.size) (fun k hk => ((ho1).lt k hk).1))))
      have hbn2 : Below w2.heap.size w2 wx2 := (hbn1.drew.trans (hb2.mono z1)).trans hB2
      clear wr1 q1 r1
      try simp only [Nat.zero_add, List.nil_append] at ho2
      go_wp2
      rw [rounds_succ]
      have q2 : wx2.cell? ⟨w.heap.size, 2, none⟩ = some (.int .i64 p2) := ((hk1.below hbn2 (by omega)).cell 2)
      have r2 : wx2.cell? ⟨w.heap.size + 1, 2, none⟩ = some (.int .i64 c2) := ((hk2.below hbn2 (by omega)).cell 2)
      have z2 := hbn2.size
      have wr2 : IntKind.i64.wrap (c2 - p2) = c2 - p2 := IntWalk.i64_in _ ⟨by omega, by omega⟩
      go_wp2
      go_region_held3 (fun w' => w'.cell? ⟨w.heap.size, 2, none⟩ = some (.int .i64 p2) ∧ w'.cell? ⟨w.heap.size + 1, 2, none⟩ = some (.int .i64 c2))
        (first | (obtain ⟨x1, x2⟩ := (‹w3a.cell? ⟨w.heap.size, 2, none⟩ = some (.int .i64 p2) ∧ w3a.cell? ⟨w.heap.size + 1, 2, none⟩ = some (.int .i64 c2)›); exact ⟨(hB3.cell (p := ⟨w.heap.size, 2, none⟩) (by simp; omega)).trans x1, (hB3.cell (p := ⟨w.heap.size + 1, 2, none⟩) (by simp; omega)).trans x2⟩) | (exact ⟨(hb3.cell (p := ⟨w.heap.size, 2, none⟩) (by simp; omega)).trans q2, (hb3.cell (p := ⟨w.heap.size + 1, 2, none⟩) (by simp; omega)).trans r2⟩) | go_keep)
        (first
          | (go_at_call 59; refine (RZig_at _ (c2 - p2) (by omega) (by omega)).mono ?_; rintro e w' ⟨rfl, rfl⟩)
          | (go_at_call 58; refine (RPut_some _ (Vm.zig (c2 - p2)) (by omega)).mono ?_; rintro e w3a ⟨gx3, cc3, rfl, hn3, hb3⟩)
          | ((refine step_append_lies _ (by rfl) _ _ _ (by rfl) w2.heap.size 5 i0 (.int .u8 0) 1 1 Try.underlying25 hi hz0 hz1 hz2 rfl (by omega) (.slice (some ⟨g2, 0, none⟩) _ _) _ _ (by rfl) (own_below (own_drew ho2) hb3) ⟨gx3, 0, none⟩ (put1 p2 c2).length cc3 (u8s (put1 p2 c2)) (by rfl) (by simp) hn3 (u8s_one _) P2 (by unfold maxLen; omega) (by omega) (Nat.le_trans z2 hb3.size) _ rfl ?_; intro g3 cap3 wx3 ho3 hg3 hat3 hlt3; have hB3 := (Below.refl w2.heap.size w3a).grown hg3 (Nat.le_trans z2 hb3.size) (fun k hk => ((ho2).lt k hk).1))))
      have hbn3 : Below w2.heap.size w2 wx3 := (hbn2.drew.trans (hb3.mono z2)).trans hB3
      clear wr2 q2 r2
      try simp only [Nat.zero_add, List.nil_append] at ho3
      go_wp2
      rw [rounds_succ]
      go_wp2
      go_ret2
      exact HE.out _ _ _ _ (by simpa using ho3) (HB2.out.trans (hbn3.mono HB2.out.size))
end Go.Proofs.Ytignfhdblakcfaa
