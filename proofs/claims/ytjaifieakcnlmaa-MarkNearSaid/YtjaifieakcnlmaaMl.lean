/- law 10: MarkNear, the walk. -/
import Derived.Test.YtjaifieakcnlmaaMk
namespace Go.Proofs.Ytjaifieakcnlmaa
open Go.ChangeShapes Go.WideShapes Go.ChangeAt Go.RowKit Go.Maps
set_option linter.unusedVariables false
set_option linter.unusedSimpArgs false

def LN (w : World) (g many : Nat) (f : Int) (s : Value) (wr : World) : Prop :=
  ∃ (k : Nat) (S : Nat → Prop), s = .int .i64 (k : Int) ∧ k ≤ many ∧ IM wr S g (mmk f ((k + 1) / 2)) (moP f k) ∧ (∀ j, S j → w.heap.size ≤ j) ∧ Below w.heap.size w wr
theorem MRes_some {w w' : World} {S : Nat → Prop} {g : Nat} {r : (Bool × Nat) × List Mk × Int} {en : Ending} (h : MRes w S g r en w') {ms : List Mk} {most : Int} (hr : ∃ b, r = ((b, 0), ms, most)) : ∃ b, en = .returned (.tuple #[.bool b, .int .i64 0]) ∧ ∃ S', IM w' S' g ms most ∧ Turned w S S' w' := by
  obtain ⟨b, rfl⟩ := hr
  obtain ⟨e, S', h4, h5⟩ := h
  exact ⟨b, e, S', h4, h5⟩
set_option maxRecDepth 100000 in
set_option maxHeartbeats 8000000 in
theorem MarkNear_walk (w : World) (f : Int) (hf : (Lit.int .i64 f).wf = true) (mn : Int) (hmn : (Lit.int .u8 mn).wf = true) (wh : Int) (hwh : (Lit.int .u8 wh).wf = true) :
    Calls Try.prog 3 #[.int .i64 f, .int .u8 mn, .int .u8 wh] w (TrueM w) := by
  obtain ⟨f0, f1⟩ : -9223372036854775808 ≤ f ∧ f ≤ 9223372036854775807 := by simpa [Lit.wf, IntKind.min, IntKind.max, IntKind.signed, IntKind.bits] using hf
  obtain ⟨m0, m1⟩ : 0 ≤ mn ∧ mn ≤ 255 := by simpa [Lit.wf, IntKind.min, IntKind.max, IntKind.signed, IntKind.bits] using hmn
  obtain ⟨x0, x1⟩ : 0 ≤ wh ∧ wh ≤ 255 := by simpa [Lit.wf, IntKind.min, IntKind.max, IntKind.signed, IntKind.bits] using hwh
  clear hf hmn hwh
  go_enter Try.func3, Try.ntmps3
  go_wp2_with fail
  refine (awake10_any w).mono ?_
  rintro en w1 ⟨rfl, hb1⟩
  have B1 := Lib.hid hb1; clear hb1
  have HP := Lib.hid (show TrueM w (.returned (.bool true)) w1 from ⟨rfl, B1.out⟩)
  have hcase : f < 1 ∨ (1 ≤ f ∧ 1099511627776 < f) ∨ (1 ≤ f ∧ f ≤ 1099511627776 ∧ mn < 1) ∨ (1 ≤ f ∧ f ≤ 1099511627776 ∧ 1 ≤ mn ∧ 100 < mn) ∨ (1 ≤ f ∧ f ≤ 1099511627776 ∧ 1 ≤ mn ∧ mn ≤ 100) := by omega
  rcases hcase with q1 | ⟨q1, q2⟩ | ⟨q1, q2, q3⟩ | ⟨q1, q2, q3, q4⟩ | ⟨q1, q2, q3, q4⟩
  · go_wp2
    go_ret
    exact HP.out
  · go_wp2
    go_ret
    exact HP.out
  · go_wp2
    go_ret
    exact HP.out
  · go_wp2
    go_ret
    exact HP.out
  · clear HP
    obtain ⟨many, rfl⟩ : ∃ many : Nat, mn = (many : Int) := ⟨mn.toNat, by omega⟩
    obtain ⟨wn, rfl⟩ : ∃ wn : Nat, wh = (wn : Int) := ⟨wh.toNat, by omega⟩
    go_wp2_with fail
    refine (MNew_any w1).mono ?_
    rintro en w2 ⟨rfl, hd, hb⟩
    obtain ⟨g, hg⟩ : ∃ g, g = w1.heap.size := ⟨_, rfl⟩
    rw [← hg] at hd ⊢
    have START := Lib.hid (show LN w g many f (.int .i64 0) w2 from ⟨0, _, rfl, Nat.zero_le _, by simpa [mmk, moP] using hd, fun j hj => by have := B1.out.size; omega, B1.out.trans (hb.mono B1.out.size)⟩)
    clear hd hb hg
    go_wp2
    go_loopw [37] (fun s37 wr => LN w g many f s37 wr) (fun s37 _ => many - (intOf s37).toNat)
    case atStart => exact START.out
    case round =>
      clear START
      obtain ⟨k, S, rfl, hk, hd, hS, hbel⟩ := hrel
      have HB := Lib.hid hbel; have D0 := Lib.hid hd; have AS := Lib.hid hS
      by_cases hlt : k < many
      · have hltI : (k : Int) < (many : Int) := by omega
        have HST := Lib.hid (add_step f k q1 q2 (by omega))
        have HR := Lib.hid (mmk_ris f ((k + 1) / 2) q1 q2 (by omega))
        have HLE : Hid ((mmk f ((k + 1) / 2)).length ≤ 999) := Lib.hid (by rw [mmk_len]; omega)
        have HLT := Lib.hid hlt
        clear hd hS hbel hk hlt
        go_wp2_with fail
        refine (Add_any wr S g _ _ (f + (k : Int)) 3 ((k : Int) * 7) D0.out HR.out HLE.out).mono ?_
        intro en w5 hres
        obtain ⟨b, rfl, S5, hd5, hT⟩ := MRes_some hres HST.out
        have R := Lib.hid (show LN w g many f (.int .i64 ((k : Int) + 1)) w5 from ⟨k + 1, S5, by go_num, HLT.out, hd5, hT.1.above HB.out.size AS.out, HB.out.trans (hT.2.to_below HB.out.size AS.out)⟩)
        clear hres hd5 hT
        go_wp2
        go_roundw
        case rel => exact R.out
        case measure => simp [intOf]; have := HLT.out; omega
      · obtain rfl : k = many := by omega
        have HR := Lib.hid (mmk_ris f ((k + 1) / 2) q1 q2 (by omega))
        have HLE : Hid ((mmk f ((k + 1) / 2)).length ≤ 1000) := Lib.hid (by rw [mmk_len]; omega)
        obtain ⟨o, ho, hok⟩ : ∃ o : Nat, (wn : Int) % (k : Int) = (o : Int) ∧ o < k := ⟨wn % k, by omega, Nat.mod_lt _ (by omega)⟩
        obtain ⟨s, hs⟩ : ∃ s : Int, s = f + 2 * ((o / 2 : Nat) : Int) := ⟨_, rfl⟩
        have hs1 : s ≤ f + (o : Int) := by omega
        have hs2 : f + (o : Int) - s < 2 := by omega
        have hs3 : f ≤ s := by omega
        have hs4 : s ≤ 1099511627776 + 100 := by omega
        have hs5 : 14 * ((o / 2 : Nat) : Int) = (s - f) * 7 := by omega
        have FI := Lib.hid (find_in f ((k + 1) / 2) o (by omega))
        rw [← hs, hs5] at FI
        have FB := Lib.hid (find_before f ((k + 1) / 2))
        have B2 := HB; have D2 := D0; have w2e := hk
        clear hd hS hbel hs hs5 hk HB D0 w2e AS
        go_wp2_with fail
        refine (Find_any wr S g _ _ (f + (o : Int)) D2.out HR.out HLE.out).mono ?_
        rintro en w3 ⟨rfl, hb⟩
        rw [FI.out]
        simp only [mkA]
        have D3 := Lib.hid (D2.out.below hb); have B3 := Lib.hid (B2.out.trans (hb.mono B2.out.size))
        clear hb
        go_wp2_with fail
        generalize hW : w3.alloc (.cells #[.int .i64 s, .int .i64 3, .int .i64 ((s - f) * 7)] 29) = w4
        have hb : Below w3.heap.size w3 w4 := by rw [← hW]; exact (Below.refl _ w3).alloc (Nat.le_refl _) _
        have K4 : Hid (Blk w4 w3.heap.size 29 #[.int .i64 s, .int .i64 3, .int .i64 ((s - f) * 7)]) := Lib.hid (by rw [← hW]; exact Blk.new _ _ _)
        obtain ⟨qK, hqK⟩ : ∃ q, w3.heap.size = q := ⟨_, rfl⟩
        rw [hqK] at K4
        try rw [hqK]
        clear hqK
        have D4 := Lib.hid (D3.out.below hb); have B4 := Lib.hid (B3.out.trans (hb.mono B3.out.size))
        clear hb hW
        go_wp2_with fail
        refine (Find_any w4 S g _ _ (f - 1) D4.out HR.out HLE.out).mono ?_
        rintro en w5 ⟨rfl, hb⟩
        rw [FB.out]
        simp only [mkA]
        have K5 := Lib.hid (K4.out.below hb K4.out.lt)
        have B5 := Lib.hid (B4.out.trans (hb.mono B4.out.size))
        clear hb
        have B6 := Lib.hid (B5.out.trans (((Below.refl _ w5).alloc (Nat.le_refl _) (.cells #[.int .i64 0, .int .i64 0, .int .i64 0] 29)).mono B5.out.size))
        have k0 := K5.out.cell 0; have k1 := K5.out.cell 1; have k2 := K5.out.cell 2
        simp at k0 k1 k2
        have kl := K5.out.lt
        have HV := Lib.hid (show ((s - f) * 7 == 7 * (s - f)) = true from by rw [Int.mul_comm]; exact beq_self_eq_true _)
        go_wp2
        go_ret
        exact ⟨congrArg (fun b => Ending.returned (.bool b)) HV.out, by first | exact B6.out | exact B6.out.drew⟩
end Go.Proofs.Ytjaifieakcnlmaa
