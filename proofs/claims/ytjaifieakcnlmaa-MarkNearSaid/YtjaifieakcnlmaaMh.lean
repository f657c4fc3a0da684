/- law 10: own, packetboatref10.Same of the same marks. -/
import Derived.Test.YtjaifieakcnlmaaMg
import Derived.Laws.StructEq
import Derived.BigQuiet
namespace Go.Proofs.Ytjaifieakcnlmaa
open Go.ChangeShapes Go.WideShapes Go.ChangeAt Go.RowKit Go.Maps
set_option linter.unusedVariables false
set_option linter.unusedSimpArgs false

theorem stood_mk : Try.prog.stoodInHeld 29 = false := by kernel_rfl
theorem stood_rmk : Try.prog.stoodInHeld 42 = false := by kernel_rfl
theorem eqm_in (a1 a2 a3 b1 b2 b3 : Int) (w : World) : (Op.equalIn 10000 29 (.agg #[.int .i64 a1, .int .i64 a2, .int .i64 a3]) (.agg #[.int .i64 b1, .int .i64 b2, .int .i64 b3])).run Try.prog w = .ok (decide (a1 = b1 ∧ a2 = b2 ∧ a3 = b3)) w := by
  rw [show (10000 : Nat) = 9999 + 1 from rfl, run_equalIn_struct (P := Try.prog) w 9999 29 _ _ (by simp [Program.fieldsOf, Try.underlying29]) stood_mk]
  simp only [Program.fieldsOf, Try.underlying29, Op.eqFields]
  have u3 := Try.underlying2
  have a3' := Try.isAgg2
  have z3 := Try.sizeOf2
  have u4 := Try.underlying3
  have a4' := Try.isAgg3
  have z4 := Try.sizeOf3
  go_simp
  by_cases h1 : a1 = b1
  · by_cases h2 : a2 = b2
    · by_cases h3 : a3 = b3 <;> simp [h1, h2, h3]
    · by_cases h3 : a3 = b3 <;> simp [h1, h2, h3]
  · simp [h1]
theorem eqr_in (a1 a2 a3 : Int) (w : World) : (Op.equalIn 10000 42 (.agg #[.int .i64 a1, .int .i64 a2, .int .i64 a3]) (.agg #[.int .i64 a1, .int .i64 a2, .int .i64 a3])).run Try.prog w = .ok true w := by
  rw [show (10000 : Nat) = 9999 + 1 from rfl, run_equalIn_struct (P := Try.prog) w 9999 42 _ _ (by simp [Program.fieldsOf, Try.underlying42]) stood_rmk]
  simp only [Program.fieldsOf, Try.underlying42, Op.eqFields]
  have u3 := Try.underlying2
  have a3' := Try.isAgg2
  have z3 := Try.sizeOf2
  have u4 := Try.underlying3
  have a4' := Try.isAgg3
  have z4 := Try.sizeOf3
  go_simp
theorem infoRMark : (Try.prog.info? 42).map (fun i => (i.zero, i.size, i.bytes)) = some (some (.agg #[.int .i64 0, .int .i64 0, .int .i64 0]), 3, 24) := by kernel_rfl
set_option maxHeartbeats 3000000 in
set_option maxRecDepth 100000 in
theorem Mown1 (w : World) (q o c B : Nat) (m1 m2 m3 : Int) (h : Rd w B (some ⟨q, o, none⟩) (flm [(m1, m2, m3)])) (hB : B ≤ w.heap.size) (hc : 1 ≤ c) (hcm : c ≤ maxLen) :
    Calls Try.prog 13 #[.slice (some ⟨q, o, none⟩) 1 c] w (fun en w' => ∃ A' c', en = .returned (.slice A' 1 c') ∧ Rd w' w'.heap.size A' (flm [(m1, m2, m3)]) ∧ Below w.heap.size w w') := by
  obtain ⟨i0, hi, hz0, hz1, hz2⟩ := info_parts infoRMark
  obtain ⟨q', o', e, hq, hcell⟩ := h (by simp [flm, mkv])
  injection e with e
  injection e with e1 e2
  subst e1 e2
  have c0 := hcell 0 _ rfl
  have c1 := hcell 1 _ rfl
  have c2 := hcell 2 _ rfl
  simp only [Nat.add_zero] at c0
  have hqw : q < w.heap.size := by omega
  unfold maxLen at hcm
  clear h hcell
  have HB1 := Lib.hid ((((Below.refl w.heap.size w).alloc (Nat.le_refl _) (.cells #[] 42)).alloc (by simp) (.cells #[.int .i64 m1, .int .i64 m2, .int .i64 m3] 29)).alloc (by simp; omega) (.cells #[.int .i64 m1, .int .i64 m2, .int .i64 m3] 42))
  have HS := Lib.hid (Src.of_blk (Blk.new' ((w.alloc (.cells #[] 42)).alloc (.cells #[.int .i64 m1, .int .i64 m2, .int .i64 m3] 29)) 42 #[.int .i64 m1, .int .i64 m2, .int .i64 m3] (g := w.heap.size + 2) (by simp)))
  have HL := Lib.hid (((Blk.new w 42 #[]).alloc (.cells #[.int .i64 m1, .int .i64 m2, .int .i64 m3] 29)).alloc (.cells #[.int .i64 m1, .int .i64 m2, .int .i64 m3] 42))
  go_enter Try.func13, Try.ntmps13
  go_wp2_with fail
  refine wp_loop_rounds 2 ?_
  rw [rounds_succ]
  go_wp2_with (at_builtin; go_must (refine wpList_app0 rfl (.tmp 13) (.tmp 15) 38 rfl w.heap.size 42 i0 (.agg #[.int .i64 0, .int .i64 0, .int .i64 0]) 3 24 Try.underlying38 hi hz0 hz1 hz2 rfl (by decide) w.heap.size rfl HL.out (Nat.le_refl _) (some ⟨w.heap.size + 2, 0, none⟩) 1 1 [.int .i64 m1, .int .i64 m2, .int .i64 m3] rfl rfl HS.out (by intro u hu; simp at hu; rcases hu with rfl | rfl | rfl <;> rfl) (by decide) (by decide) ?_; intro v2 w2 ho2 hb2 hn2; obtain ⟨A2, c2', rfl⟩ := own_sl ho2; have HO2 := Lib.hid ho2; have HB2 := Lib.hid hb2; clear ho2 hb2 hn2))
  rw [rounds_succ]
  go_wp2
  go_ret
  exact ⟨A2, c2', rfl, by simpa [flm, mkv] using rd_of_own3 HO2.out, HB1.out.trans (HB2.out.mono (by simp; omega))⟩
set_option maxHeartbeats 3000000 in
set_option maxRecDepth 100000 in
theorem RSame1 (w : World) (A1 A2 : Option Addr) (c1 c2 B1 B2 : Nat) (m1 m2 m3 : Int) (h1 : Rd w B1 A1 (flm [(m1, m2, m3)])) (h2 : Rd w B2 A2 (flm [(m1, m2, m3)])) :
    Calls Try.prog 12 #[.slice A1 1 c1, .slice A2 1 c2] w (fun en w' => en = .returned (.bool true) ∧ Below w.heap.size w w') := by
  obtain ⟨q, o, rfl, hq, hc⟩ := h1 (by simp [flm, mkv])
  obtain ⟨q2, o2, rfl, hq2, hc'⟩ := h2 (by simp [flm, mkv])
  have x0 := hc 0 _ rfl
  have x1 := hc 1 _ rfl
  have x2 := hc 2 _ rfl
  have y0 := hc' 0 _ rfl
  have y1 := hc' 1 _ rfl
  have y2 := hc' 2 _ rfl
  simp only [Nat.add_zero] at x0 y0
  have qe := fun w => eqr_in m1 m2 m3 w
  have HB : Hid (∀ q, Below w.heap.size w (w.drewN q)) := Lib.hid (fun q => below_drewN (Below.refl _ w) q)
  clear h1 h2 hc hc'
  go_enter Try.func12, Try.ntmps12
  go_wp2_with fail
  refine wp_loop_rounds 2 ?_
  rw [rounds_succ]
  go_wp2_with fail
  go_quiet (fail)
  go_wp2_with fail
  rw [rounds_succ]
  go_wp2
  go_ret
  exact ⟨rfl, by first | exact HB.out _ | exact (HB.out _).drew⟩
end Go.Proofs.Ytjaifieakcnlmaa
