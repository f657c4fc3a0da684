/- packetboatref04.Take: the document's clock of bytes behind another one. -/
import Derived.Test.YtignfhdblakcfaaCtake
import Derived.Test.YtignfhdblakcfaaRef1
namespace Go.Proofs.Ytignfhdblakcfaa
open Go.ChangeShapes Go.WideShapes Go.ChangeAt Go.RowKit
set_option linter.unusedVariables false
set_option linter.unusedSimpArgs false

theorem RZag_at (w : World) (u : Nat) (m : Int) (h : u ≤ 18446744073709551615) (hm : Vm.zag u = m) :
    Calls Try.prog 62 #[.int .u64 (u : Int)] w fun e w' => e = .returned (.int .i64 m) ∧ w = w' := by subst hm; exact RZag_any w u h
set_option maxRecDepth 100000 in
set_option maxHeartbeats 6000000 in
theorem RCtake_any (w : World) (p0 p1 p2 : Int) (A : Option Addr) (n c : Nat) (bs : List Nat) (hr : Rd w w.heap.size A (u8s bs)) (h256 : ∀ b ∈ bs, b < 256) (hn : bs.length = n) (hc : n ≤ c) (hm : c ≤ maxLen) (hnone : A = none → c = 0) :
    Calls Try.prog 18 #[.agg #[.int .i64 p0, .int .i64 p1, .int .i64 p2], .slice A n c] w (CtakePost w (takeC (p0, p1, p2) bs)) := by
  have hB : Below w.heap.size w ((w.alloc (Obj.cells #[Value.int IntKind.i64 p0, Value.int IntKind.i64 p1, Value.int IntKind.i64 p2] 23)).alloc (Obj.cells #[Value.int IntKind.i64 0, Value.int IntKind.i64 0, Value.int IntKind.i64 0] 23)) := ((Below.refl _ _).alloc (Nat.le_refl _) _).alloc (by simp) _
  have HB := Lib.hid hB; clear hB
  have HK : ∀ w1, Below ((w.alloc (Obj.cells #[Value.int IntKind.i64 p0, Value.int IntKind.i64 p1, Value.int IntKind.i64 p2] 23)).alloc (Obj.cells #[Value.int IntKind.i64 0, Value.int IntKind.i64 0, Value.int IntKind.i64 0] 23)).heap.size ((w.alloc (Obj.cells #[Value.int IntKind.i64 p0, Value.int IntKind.i64 p1, Value.int IntKind.i64 p2] 23)).alloc (Obj.cells #[Value.int IntKind.i64 0, Value.int IntKind.i64 0, Value.int IntKind.i64 0] 23)) w1 → Blk w1 w.heap.size 23 #[Value.int IntKind.i64 p0, Value.int IntKind.i64 p1, Value.int IntKind.i64 p2] ∧ Blk w1 (w.heap.size + 1) 23 #[Value.int IntKind.i64 0, Value.int IntKind.i64 0, Value.int IntKind.i64 0] :=
    fun w1 hb => ⟨((Blk.new w _ _).alloc _).below hb (by simp; omega), (Blk.new' _ _ _ (by simp)).below hb (by simp)⟩
  have HKK := Lib.hid HK; clear HK
  have HM := Lib.hid hm; unfold maxLen at hm
  have H256 := Lib.hid h256; clear h256
  have HN := Lib.hid hn; clear hn
  cases hp : rightB p0 p1 p2
  · have HR := Lib.hid (show takeC (p0, p1, p2) bs = ((0, 0, 0), 0, 1) by rw [takeC, if_pos hp])
    go_enter Try.func18, Try.ntmps18
    go_wp2_with fail
    refine (RRight_any _ _ _ _).mono ?_
    rintro e w1 ⟨rfl, hb1⟩
    obtain ⟨q0, q1, q2, qf⟩ := (HKK.out _ hb1).1.three
    obtain ⟨r0, r1, r2, rf⟩ := (HKK.out _ hb1).2.three
    rw [hp]
    go_wp2
    refine bodyPost_ret (v := .tuple #[.agg #[.int .i64 0, .int .i64 0, .int .i64 0], .int .i64 0, .int .i64 1]) (by simp [results, Try.results18, go_sem, *]) rfl (ctakePost HR.out rfl rfl ?_)
    exact (((HB.out.trans (hb1.mono HB.out.size)).setCell (by simp) _).setCell (by simp) _).setCell (by simp) _
  · obtain ⟨⟨pa0, pa1⟩, ⟨pb0, pb1⟩, ⟨pc0, pc1⟩⟩ := right_le hp
    have HE0 := Lib.hid (fun (d : Nat) => takeC_e0 (p0 := p0) (p1 := p1) (p2 := p2) (bs := bs) (d := d) hp)
    have HE1 := Lib.hid (fun (n0 : Int) (s0 d : Nat) => takeC_e1 (p0 := p0) (p1 := p1) (p2 := p2) (bs := bs) (n0 := n0) (s0 := s0) (d := d) hp)
    have HE2 := Lib.hid (fun (n0 n1 : Int) (s0 s1 d : Nat) => takeC_e2 (p0 := p0) (p1 := p1) (p2 := p2) (bs := bs) (n0 := n0) (n1 := n1) (s0 := s0) (s1 := s1) (d := d) hp)
    have HOK := Lib.hid (fun (n0 n1 n2 : Int) (s0 s1 s2 : Nat) => takeC_ok (p0 := p0) (p1 := p1) (p2 := p2) (bs := bs) (n0 := n0) (n1 := n1) (n2 := n2) (s0 := s0) (s1 := s1) (s2 := s2) hp)
    go_enter Try.func18, Try.ntmps18
    go_wp2_with fail
    refine (RRight_any _ _ _ _).mono ?_
    rintro e w1 ⟨rfl, hb1⟩
    have kp := (HKK.out _ hb1).1
    have kr := (HKK.out _ hb1).2
    have hsz : w.heap.size + 1 < w1.heap.size := by have := hb1.size; simp at this; omega
    have hB1 := HB.out.trans (hb1.mono HB.out.size)
    have kp1 := kp.alloc (.cells #[Value.int IntKind.i64 0, Value.int IntKind.i64 0, Value.int IntKind.i64 0] 23)
    have kr1 := kr.alloc (.cells #[Value.int IntKind.i64 0, Value.int IntKind.i64 0, Value.int IntKind.i64 0] 23)
    have ko1 := Blk.new w1 23 #[Value.int IntKind.i64 0, Value.int IntKind.i64 0, Value.int IntKind.i64 0]
    have hBa := hB1.alloc hB1.size (.cells #[Value.int IntKind.i64 0, Value.int IntKind.i64 0, Value.int IntKind.i64 0] 23)
    have rd0 := hr.below hBa
    obtain ⟨g, hg⟩ : ∃ g, g = w1.heap.size := ⟨_, rfl⟩
    obtain ⟨wa0, hwa⟩ : ∃ wa, wa = w1.alloc (.cells #[Value.int IntKind.i64 0, Value.int IntKind.i64 0, Value.int IntKind.i64 0] 23) := ⟨_, rfl⟩
    have g1 : w.heap.size + 1 < g := by rw [hg]; exact hsz
    rw [← hwa] at kp1 kr1 ko1 hBa rd0
    rw [← hg] at ko1
    have HG := Lib.hid hg; have HWA := Lib.hid hwa; have HRD0 := Lib.hid rd0; have HBa0 := Lib.hid hBa
    have ka0 := kp1; have kb0 := kr1; have kc0 := ko1
    clear hb1 HB HKK kp kr hB1 hg hwa rd0 hBa kp1 kr1 ko1
    rw [hp]
    go_wp2
    rw [← HWA.out, ← HG.out]
    clear HWA HG hsz
    refine wp_loop_rounds 4 ?_
    rw [rounds_succ]
    go_wp2_with fail
    obtain ⟨u0, s0, d0, ht0⟩ : ∃ u s d, Vm.take bs = (u, s, d) := ⟨_, _, _, rfl⟩
    have HT0 := Lib.hid ht0
    have hu0 := (take_range bs).1
    rw [ht0] at hu0
    simp only at hu0
    clear ht0
    have hq0 : u0 < 18446744073709551616 := by omega
    have zl0 := Vm.zag_lo hq0
    have zh0 := Vm.zag_hi hq0
    refine (rtake_at _ _ _ bs _ u0 s0 d0 (HRD0.out.more HBa0.out.size) H256.out (by omega) (by have := HM.out; omega) HN.out HT0.out).mono ?_
    rintro e v0 ⟨rfl, hb⟩
    have HBv0 := Lib.hid (HBa0.out.trans (hb.mono HBa0.out.size))
    have va0 := ka0.below hb ka0.lt
    have vb0 := kb0.below hb kb0.lt
    have vc0 := kc0.below hb kc0.lt
    obtain ⟨q0, q1, q2, qf⟩ := va0.three
    obtain ⟨r0, r1, r2, rf⟩ := vb0.three
    obtain ⟨t0, t1, t2, tf⟩ := vc0.three
    clear hb
    by_cases hd0 : d0 = 0
    · subst hd0
      have hs0 := take_le HT0.out H256.out
      simp only [List.length_drop, HN.out] at hs0
      obtain ⟨m0x, hm0⟩ : ∃ m, m = Vm.zag u0 := ⟨_, rfl⟩
      rw [← hm0] at zl0 zh0
      have HM0 := Lib.hid hm0; clear hm0
      by_cases hlo0 : m0x < -p0
      · have HX := Lib.hid (HE0.out _ (take1_out HT0.out (by rw [← HM0.out]; omega)) (by omega))
        have hlo2 : m0x < 0 - p0 := by omega
        go_wp2_with fail
        refine (RZag_at _ u0 m0x (by omega) HM0.out.symm).mono ?_
        rintro e w' ⟨rfl, rfl⟩
        go_wp2
        refine bodyPost_ret (v := .tuple #[.agg #[.int .i64 (0), .int .i64 (0), .int .i64 (0)], .int .i64 (0), .int .i64 (3)]) (by simp [results, Try.results18, go_sem, *]) rfl (ctakePost HX.out (by first | rfl | omega | (simp; omega)) rfl ?_)
        repeat' (first | exact HBv0.out | refine Below.setCell ?_ ?_ _ | (simp [World.setCell]; done) | (simp [World.setCell]; omega))
      by_cases hhi0 : 4611686018427387903 - p0 < m0x
      · have HX := Lib.hid (HE0.out _ (take1_out HT0.out (by rw [← HM0.out]; omega)) (by omega))
        go_wp2_with fail
        refine (RZag_at _ u0 m0x (by omega) HM0.out.symm).mono ?_
        rintro e w' ⟨rfl, rfl⟩
        go_wp2
        refine bodyPost_ret (v := .tuple #[.agg #[.int .i64 (0), .int .i64 (0), .int .i64 (0)], .int .i64 (0), .int .i64 (3)]) (by simp [results, Try.results18, go_sem, *]) rfl (ctakePost HX.out (by first | rfl | omega | (simp; omega)) rfl ?_)
        repeat' (first | exact HBv0.out | refine Below.setCell ?_ ?_ _ | (simp [World.setCell]; done) | (simp [World.setCell]; omega))
      have hlo2 : ¬ m0x < 0 - p0 := by omega
      have E0 := Lib.hid (take1_ok (p := p0) HT0.out (by rw [← HM0.out]; omega))
      have e0 := E0.out; rw [← HM0.out] at e0; clear E0; have E0 := Lib.hid e0; clear e0
      obtain ⟨A1, hsl1, hrd1, hnn1⟩ := slice_from (P := Try.prog) 25 5 Try.underlying25 Try.sizeOf5 A n c s0 ((s0 : Int)) (by omega) (by omega) hc
      have HBa1 := Lib.hid (HBv0.out.setCell (p := ⟨g, 0, none⟩) (by simp; omega) (.int .i64 (p0 + m0x)))
      have ka1 := va0.far (p := ⟨g, 0, none⟩) (by simp; omega) (.int .i64 (p0 + m0x))
      have kb1 := vb0.far (p := ⟨g, 0, none⟩) (by simp; omega) (.int .i64 (p0 + m0x))
      have kc1 := vc0.set 0 (.int .i64 (p0 + m0x))
      have rd1 := hrd1 _ _ (u8s bs) (by simpa using HN.out) (hr.below HBa1.out)
      have HRD1 := Lib.hid (show Rd _ w.heap.size A1 (u8s (bs.drop s0)) by simpa [u8s] using rd1); clear rd1 hrd1
      go_wp2_with fail
      refine (RZag_at _ u0 m0x (by omega) HM0.out.symm).mono ?_
      rintro e w' ⟨rfl, rfl⟩
      go_wp2
      clear q0 q1 q2 qf r0 r1 r2 rf t0 t1 t2 tf hlo2
      rw [rounds_succ]
      go_wp2_with fail
      obtain ⟨u1, s1, d1, ht1⟩ : ∃ u s d, Vm.take (bs.drop s0) = (u, s, d) := ⟨_, _, _, rfl⟩
      have HT1 := Lib.hid ht1
      have hu1 := (take_range (bs.drop s0)).1
      rw [ht1] at hu1
      simp only at hu1
      clear ht1
      have hq1 : u1 < 18446744073709551616 := by omega
      have zl1 := Vm.zag_lo hq1
      have zh1 := Vm.zag_hi hq1
      refine (rtake_at _ _ _ (bs.drop s0) _ u1 s1 d1 (HRD1.out.more HBa1.out.size) (drop_byte H256.out s0) (by omega) (by have := HM.out; omega) (by simp [HN.out]) HT1.out).mono ?_
      rintro e v1 ⟨rfl, hb⟩
      have HBv1 := Lib.hid (HBa1.out.trans (hb.mono HBa1.out.size))
      have va1 := ka1.below hb ka1.lt
      have vb1 := kb1.below hb kb1.lt
      have vc1 := kc1.below hb kc1.lt
      obtain ⟨q0, q1, q2, qf⟩ := va1.three
      obtain ⟨r0, r1, r2, rf⟩ := vb1.three
      obtain ⟨t0, t1, t2, tf⟩ := vc1.three
      clear hb
      by_cases hd1 : d1 = 0
      · subst hd1
        have hs1 := take_le HT1.out (drop_byte H256.out s0)
        simp only [List.length_drop, HN.out] at hs1
        obtain ⟨m1x, hm1⟩ : ∃ m, m = Vm.zag u1 := ⟨_, rfl⟩
        rw [← hm1] at zl1 zh1
        have HM1 := Lib.hid hm1; clear hm1
        by_cases hlo1 : m1x < -p1
        · have HX := Lib.hid (HE1.out _ _ _ E0.out (take1_out HT1.out (by rw [← HM1.out]; omega)) (by omega))
          have hlo2 : m1x < 0 - p1 := by omega
          go_wp2_with fail
          refine (RZag_at _ u1 m1x (by omega) HM1.out.symm).mono ?_
          rintro e w' ⟨rfl, rfl⟩
          go_wp2
          refine bodyPost_ret (v := .tuple #[.agg #[.int .i64 (0), .int .i64 (0), .int .i64 (0)], .int .i64 (0), .int .i64 (3)]) (by simp [results, Try.results18, go_sem, *]) rfl (ctakePost HX.out (by first | rfl | omega | (simp; omega)) rfl ?_)
          repeat' (first | exact HBv1.out | refine Below.setCell ?_ ?_ _ | (simp [World.setCell]; done) | (simp [World.setCell]; omega))
        by_cases hhi1 : 4611686018427387903 - p1 < m1x
        · have HX := Lib.hid (HE1.out _ _ _ E0.out (take1_out HT1.out (by rw [← HM1.out]; omega)) (by omega))
          go_wp2_with fail
          refine (RZag_at _ u1 m1x (by omega) HM1.out.symm).mono ?_
          rintro e w' ⟨rfl, rfl⟩
          go_wp2
          refine bodyPost_ret (v := .tuple #[.agg #[.int .i64 (0), .int .i64 (0), .int .i64 (0)], .int .i64 (0), .int .i64 (3)]) (by simp [results, Try.results18, go_sem, *]) rfl (ctakePost HX.out (by first | rfl | omega | (simp; omega)) rfl ?_)
          repeat' (first | exact HBv1.out | refine Below.setCell ?_ ?_ _ | (simp [World.setCell]; done) | (simp [World.setCell]; omega))
        have hlo2 : ¬ m1x < 0 - p1 := by omega
        have E1 := Lib.hid (take1_ok (p := p1) HT1.out (by rw [← HM1.out]; omega))
        have e1 := E1.out; rw [← HM1.out] at e1; clear E1; have E1 := Lib.hid e1; clear e1
        obtain ⟨A2, hsl2, hrd2, hnn2⟩ := slice_from (P := Try.prog) 25 5 Try.underlying25 Try.sizeOf5 A n c (s0 + s1) ((s0 : Int) + (s1 : Int)) (by omega) (by omega) hc
        have HBa2 := Lib.hid (HBv1.out.setCell (p := ⟨g, 1, none⟩) (by simp; omega) (.int .i64 (p1 + m1x)))
        have ka2 := va1.far (p := ⟨g, 1, none⟩) (by simp; omega) (.int .i64 (p1 + m1x))
        have kb2 := vb1.far (p := ⟨g, 1, none⟩) (by simp; omega) (.int .i64 (p1 + m1x))
        have kc2 := vc1.set 1 (.int .i64 (p1 + m1x))
        have rd2 := hrd2 _ _ (u8s bs) (by simpa using HN.out) (hr.below HBa2.out)
        have HRD2 := Lib.hid (show Rd _ w.heap.size A2 (u8s (bs.drop (s0 + s1))) by simpa [u8s] using rd2); clear rd2 hrd2
        go_wp2_with fail
        refine (RZag_at _ u1 m1x (by omega) HM1.out.symm).mono ?_
        rintro e w' ⟨rfl, rfl⟩
        go_wp2
        clear q0 q1 q2 qf r0 r1 r2 rf t0 t1 t2 tf hlo2
        rw [rounds_succ]
        go_wp2_with fail
        obtain ⟨u2, s2, d2, ht2⟩ : ∃ u s d, Vm.take (bs.drop (s0 + s1)) = (u, s, d) := ⟨_, _, _, rfl⟩
        have HT2 := Lib.hid ht2
        have hu2 := (take_range (bs.drop (s0 + s1))).1
        rw [ht2] at hu2
        simp only at hu2
        clear ht2
        have hq2 : u2 < 18446744073709551616 := by omega
        have zl2 := Vm.zag_lo hq2
        have zh2 := Vm.zag_hi hq2
        refine (rtake_at _ _ _ (bs.drop (s0 + s1)) _ u2 s2 d2 (HRD2.out.more HBa2.out.size) (drop_byte H256.out (s0 + s1)) (by omega) (by have := HM.out; omega) (by simp [HN.out]) HT2.out).mono ?_
        rintro e v2 ⟨rfl, hb⟩
        have HBv2 := Lib.hid (HBa2.out.trans (hb.mono HBa2.out.size))
        have va2 := ka2.below hb ka2.lt
        have vb2 := kb2.below hb kb2.lt
        have vc2 := kc2.below hb kc2.lt
        obtain ⟨q0, q1, q2, qf⟩ := va2.three
        obtain ⟨r0, r1, r2, rf⟩ := vb2.three
        obtain ⟨t0, t1, t2, tf⟩ := vc2.three
        clear hb
        by_cases hd2 : d2 = 0
        · subst hd2
          have hs2 := take_le HT2.out (drop_byte H256.out (s0 + s1))
          simp only [List.length_drop, HN.out] at hs2
          obtain ⟨m2x, hm2⟩ : ∃ m, m = Vm.zag u2 := ⟨_, rfl⟩
          rw [← hm2] at zl2 zh2
          have HM2 := Lib.hid hm2; clear hm2
          by_cases hlo2 : m2x < -p2
          · have HX := Lib.hid (HE2.out _ _ _ _ _ E0.out E1.out (take1_out HT2.out (by rw [← HM2.out]; omega)) (by omega))
            have hlo2 : m2x < 0 - p2 := by omega
            go_wp2_with fail
            refine (RZag_at _ u2 m2x (by omega) HM2.out.symm).mono ?_
            rintro e w' ⟨rfl, rfl⟩
            go_wp2
            refine bodyPost_ret (v := .tuple #[.agg #[.int .i64 (0), .int .i64 (0), .int .i64 (0)], .int .i64 (0), .int .i64 (3)]) (by simp [results, Try.results18, go_sem, *]) rfl (ctakePost HX.out (by first | rfl | omega | (simp; omega)) rfl ?_)
            repeat' (first | exact HBv2.out | refine Below.setCell ?_ ?_ _ | (simp [World.setCell]; done) | (simp [World.setCell]; omega))
          by_cases hhi2 : 4611686018427387903 - p2 < m2x
          · have HX := Lib.hid (HE2.out _ _ _ _ _ E0.out E1.out (take1_out HT2.out (by rw [← HM2.out]; omega)) (by omega))
            go_wp2_with fail
            refine (RZag_at _ u2 m2x (by omega) HM2.out.symm).mono ?_
            rintro e w' ⟨rfl, rfl⟩
            go_wp2
            refine bodyPost_ret (v := .tuple #[.agg #[.int .i64 (0), .int .i64 (0), .int .i64 (0)], .int .i64 (0), .int .i64 (3)]) (by simp [results, Try.results18, go_sem, *]) rfl (ctakePost HX.out (by first | rfl | omega | (simp; omega)) rfl ?_)
            repeat' (first | exact HBv2.out | refine Below.setCell ?_ ?_ _ | (simp [World.setCell]; done) | (simp [World.setCell]; omega))
          have hlo2 : ¬ m2x < 0 - p2 := by omega
          have E2 := Lib.hid (take1_ok (p := p2) HT2.out (by rw [← HM2.out]; omega))
          have e2 := E2.out; rw [← HM2.out] at e2; clear E2; have E2 := Lib.hid e2; clear e2
          go_wp2_with fail
          refine (RZag_at _ u2 m2x (by omega) HM2.out.symm).mono ?_
          rintro e w' ⟨rfl, rfl⟩
          go_wp2
          rw [rounds_succ]
          go_wp2
          refine bodyPost_ret (v := .tuple #[.agg #[.int .i64 (p0 + m0x), .int .i64 (p1 + m1x), .int .i64 (p2 + m2x)], .int .i64 (((s0 + s1 + s2 : Nat) : Int)), .int .i64 (0)]) (by simp [results, Try.results18, go_sem, *]) rfl (ctakePost (HOK.out _ _ _ _ _ _ E0.out E1.out E2.out) (by first | rfl | omega | (simp; omega)) rfl ?_)
          repeat' (first | exact HBv2.out | refine Below.setCell ?_ ?_ _ | (simp [World.setCell]; done) | (simp [World.setCell]; omega))
        · have HX := Lib.hid (HE2.out _ _ _ _ _ E0.out E1.out (take1_err HT2.out hd2) hd2)
          have hdd : ((d2 : Int) != 0) = true := by simp; exact hd2
          go_wp2
          refine bodyPost_ret (v := .tuple #[.agg #[.int .i64 (0), .int .i64 (0), .int .i64 (0)], .int .i64 (0), .int .i64 ((d2 : Int))]) (by simp [results, Try.results18, go_sem, *]) rfl (ctakePost HX.out (by first | rfl | omega | (simp; omega)) rfl ?_)
          repeat' (first | exact HBv2.out | refine Below.setCell ?_ ?_ _ | (simp [World.setCell]; done) | (simp [World.setCell]; omega))
      · have HX := Lib.hid (HE1.out _ _ _ E0.out (take1_err HT1.out hd1) hd1)
        have hdd : ((d1 : Int) != 0) = true := by simp; exact hd1
        go_wp2
        refine bodyPost_ret (v := .tuple #[.agg #[.int .i64 (0), .int .i64 (0), .int .i64 (0)], .int .i64 (0), .int .i64 ((d1 : Int))]) (by simp [results, Try.results18, go_sem, *]) rfl (ctakePost HX.out (by first | rfl | omega | (simp; omega)) rfl ?_)
        repeat' (first | exact HBv1.out | refine Below.setCell ?_ ?_ _ | (simp [World.setCell]; done) | (simp [World.setCell]; omega))
    · have HX := Lib.hid (HE0.out _ (take1_err HT0.out hd0) hd0)
      have hdd : ((d0 : Int) != 0) = true := by simp; exact hd0
      go_wp2
      refine bodyPost_ret (v := .tuple #[.agg #[.int .i64 (0), .int .i64 (0), .int .i64 (0)], .int .i64 (0), .int .i64 ((d0 : Int))]) (by simp [results, Try.results18, go_sem, *]) rfl (ctakePost HX.out (by first | rfl | omega | (simp; omega)) rfl ?_)
      repeat' (first | exact HBv0.out | refine Below.setCell ?_ ?_ _ | (simp [World.setCell]; done) | (simp [World.setCell]; omega))
end Go.Proofs.Ytignfhdblakcfaa
