/- packetboatref08: Cut. -/
import Derived.Test.YtahichieakdbnaaEn
import Derived.Test.YtahichieakdbnaaSl3
namespace Go.Proofs.Ytahichieakdbnaa
open Go.ChangeShapes Go.WideShapes Go.ChangeAt Go.RowKit Go.Maps Go.Deep
set_option linter.unusedVariables false
set_option linter.unusedSimpArgs false

set_option maxHeartbeats 4000000 in
set_option maxRecDepth 100000 in
theorem RCut_any (w : World) (S : Nat → Prop) (g room : Nat) (vs : List Value) (d : Pd) (x n : Int) (h : RM w S g room vs d) (hS : ∀ j, S j → j < w.heap.size) (hok : OkP room d) :
    Calls Try.prog 20 #[.pointer (some ⟨g, 0, none⟩), .int .i64 x, .int .i64 n] w (RRes w S g room (cutP d x n)) := by
  have gl := h.lt
  have HT := Lib.hid (there_any w x)
  obtain ⟨i0, hi, hz0, hz1, hz2⟩ := info_parts infoU8
  by_cases hx : inF x
  · obtain ⟨i, rfl⟩ : ∃ i : Nat, x = (i : Int) := ⟨x.toNat, by unfold inF at hx; omega⟩
    have hi64 : i < 64 := by unfold inF at hx; omega
    have hiI : (i : Int) < 64 := by omega
    obtain ⟨A9, c9, f, hv, hf, hmm⟩ := h.made hi64
    have b0 := h.bytes hv
    have hfd : d.1[((i : Int)).toNat]?.getD ([], 0) = f := by rw [Int.toNat_natCast, hf]; rfl
    have hd : decide (inF (i : Int)) = true := decide_eq_true hx
    have H := Lib.hid h
    rw [hd] at HT
    by_cases hin : 0 ≤ n ∧ n ≤ (f.1.length : Int)
    · obtain ⟨k, rfl⟩ : ∃ k : Nat, n = (k : Int) := ⟨n.toNat, by omega⟩
      have hkl : k ≤ f.1.length := by omega
      have hk1 : ¬ (f.1.length : Int) < (k : Int) := by omega
      have e : cutP d (i : Int) (k : Int) = stepP d (i : Int) (cutF d.1 i k, 0) := by
        unfold cutP
        rw [if_neg (by rw [hfd]; intro hh; exact hh.2 hin)]
        simp
      rw [e]
      have HST := Lib.hid (Rstep_any w S g room vs d h hok.2.2.2.2)
      have hL := Nat.le_trans (totF_mem hf) (Nat.le_trans hok.2.1 hok.1)
      clear h hd e hin hfd hmm hok
      obtain ⟨⟨d1, b⟩, hsr⟩ : ∃ r, stepR d = r := ⟨_, rfl⟩
      rw [hsr] at HST
      cases b with
      | false =>
        have e : stepP d (i : Int) (cutF d.1 i k, 0) = (d1, 8) := by rw [stepP_off hx (by rw [hsr]), hsr]
        rw [e]
        clear hsr e hx hf hv
        go_enter Try.func20, Try.ntmps20
        go_wp2_with fail
        refine HT.out.mono ?_
        rintro en w1 ⟨rfl, hw⟩
        rw [hw]; clear hw w1
        go_wp2_with fail
        refine HST.out.mono ?_
        rintro en w2 ⟨rfl, h1, h2⟩
        have H1 := Lib.hid h1; have H2 := Lib.hid h2
        clear h1 h2
        go_wp2
        go_ret
        exact ⟨rfl, vs, H1.out, H2.out⟩
      | true =>
        have hon := stepP_on (r := (cutF d.1 i k, 0)) hx (by rw [hsr])
        rw [hsr] at hon
        have hd1 : d1.1 = d.1 := hon.2
        rw [hon.1]
        have hf1 : d1.1[i]? = some f := by rw [hd1]; exact hf
        have hcf : cutF d.1 i k = d1.1.set i (f.1.take k, min f.2 k) := by unfold cutF; rw [hf, hd1]; rfl
        rw [hcf]
        have HF1 := Lib.hid hf1; have HV := Lib.hid hv
        clear hsr hx hf hon hd1 hcf hv hf1
        go_enter Try.func20, Try.ntmps20
        go_wp2_with fail
        refine HT.out.mono ?_
        rintro en w1 ⟨rfl, hw⟩
        rw [hw]; clear hw w1
        go_wp2_with fail
        refine HST.out.mono ?_
        rintro en W ⟨rfl, r1, h2⟩
        have R1 := Lib.hid r1
        have R2 := Lib.hid h2
        have HSW : Hid (∀ j, S j → j < W.heap.size) := Lib.hid (fun j hj => Nat.lt_of_lt_of_le (hS j hj) R2.out.size)
        have b1 := r1.bytes HV.out
        have gl2 := r1.lt
        have HBY := Lib.hid (r1.byt HV.out HF1.out)
        have hm1 := (r1.2.2.2.2 i _ f HV.out HF1.out).1
        obtain ⟨A9', c9', hve, hr9, hq1, hq2, hq3, hq4, hq5⟩ := hm1
        injection hve with q1 q2 q3
        subst q1 q3
        obtain ⟨AP, hAP, hAR, hAN⟩ := slice_h (P := Try.prog) 32 5 Try.underlying32 one8d A9 f.1.length c9 k (k : Int) rfl (by omega)
        have hrk := hAR W.drew _ _ (by simp [u8s]; exact hkl) (hr9.below (Below.refl _ W).drew)
        have hrk2 : Rd W.drew W.heap.size AP (u8s (f.1.take k)) := by simpa [u8s, List.map_take] using hrk
        have htl : (f.1.take k).length = k := by rw [List.length_take, Nat.min_eq_left hkl]
        have hnn : AP = none → c9 = 0 := by
          intro hap
          cases A9 with
          | none => exact hq5 rfl
          | some a => exact absurd hap (hAN (by simp))
        have SA := Lib.hid (src_alloc (show Src W.drew AP k c9 (u8s (f.1.take k)) from Src.of_rd' hrk2 hnn (by omega) (by simp [u8s]; omega)) (.cells #[] 5))
        obtain ⟨fl, hfl⟩ : ∃ fl, f.1.length = fl := ⟨_, rfl⟩
        rw [hfl] at b1 hAP b0 hk1 hL
        have LAY := Lib.hid (fun w3 A3 c3 (hb : Below W.heap.size W w3) ho => RM.lay (w3 := w3) (A := A3) (c := c3) (n := k) (bs := f.1.take k) r1 HSW.out HF1.out hb ho htl (fun b hb => HBY.out b (List.mem_of_mem_take hb)))
        have HTL := Lib.hid htl
        clear r1 h2 hr9 hq1 hq2 hq3 hq4 hq5 hAR hAN hrk hrk2 htl hnn hfl hkl
        go_wp2_with fail
        go_region_law (first
          | (go_must (refine step_app0 rfl (.tmp 30) (.tmp 38) 32 rfl W.heap.size 5 i0 (.int .u8 0) 1 1 Try.underlying32 hi hz0 hz1 hz2 rfl (by decide) W.heap.size (by simp [Act.eval, Act.put]) (Blk.new' W.drew _ _ rfl) (Nat.le_refl _) AP k c9 (u8s (f.1.take k)) (by simp [Act.eval, Act.put]) (by simp only [u8s, List.length_map, HTL.out, Nat.mul_one]) SA.out (u8s_one _) (by unfold maxLen; omega) (by omega) ?_; intro v2 w4 ho3 hb2 _hn2; obtain ⟨A4, c4, rfl⟩ := own_sl ho3; obtain ⟨⟨y4, hy4⟩, z4, l4, hRM, hOn⟩ := LAY.out w4 A4 c4 (((Below.refl W.heap.size W).drew.alloc (by simp) _).trans (hb2.mono (by simp))) ho3; have HRM := Lib.hid hRM; have HON := Lib.hid hOn; clear ho3 hb2 hRM hOn _hn2; go_simp)))
        all_goals (
          have hw5 := HRM.out
          have hfx : (d1.1.set i (f.1.take k, f.2))[i]? = some (f.1.take k, f.2) := by rw [List.getElem?_set_self (List.getElem?_eq_some_iff.1 HF1.out).1]
          have s5 := hw5.sure hfx
          have z5 := hw5.2.2.1.frozen (64 + i)
          have l5 := hw5.lt
          have HX := Lib.hid (hw5.setS hfx k)
          have HXO := Lib.hid (Only.set (S := fun j => j = g) HON.out rfl (64 + i) (.int .i64 (k : Int)))
          obtain ⟨s, hs⟩ : ∃ s, f.2 = s := ⟨_, rfl⟩
          rw [hs] at s5
          have HS := Lib.hid hs
          clear hw5 hfx hs
          by_cases hsk : k < s
          · have hskI : (k : Int) < (s : Int) := by omega
            go_wp2
            go_ret
            refine ⟨rfl, vs.set i (.slice A4 k c4), ?_, R2.out.trans HXO.out (Sub.refl _ _)⟩
            have h9 := HX.out
            have h8 := HS.out
            rw [show min f.2 k = k by omega]
            simp only [List.set_set] at h9
            exact h9
          · have hskI : ¬ (k : Int) < (s : Int) := by omega
            go_wp2
            go_ret
            refine ⟨rfl, vs.set i (.slice A4 k c4), ?_, R2.out.trans HON.out (Sub.refl _ _)⟩
            have h9 := HRM.out
            have h8 := HS.out
            rw [show min f.2 k = f.2 by omega]
            exact h9)
    · have e : cutP d (i : Int) n = (d, 1) := by
        unfold cutP
        rw [if_pos ⟨hx, by rw [hfd]; exact hin⟩]
      rw [e]
      clear h hd e hfd hmm hok hf hv
      by_cases hn0 : n < 0
      · go_enter Try.func20, Try.ntmps20
        go_wp2_with fail
        refine HT.out.mono ?_
        rintro en w1 ⟨rfl, hw⟩
        rw [hw]; clear hw w1
        go_wp2
        go_ret
        exact ⟨rfl, vs, H.out, Only.refl _ _⟩
      · have hn1 : (f.1.length : Int) < n := by omega
        have hn2 : 0 ≤ n := by omega
        clear hin
        go_enter Try.func20, Try.ntmps20
        go_wp2_with fail
        refine HT.out.mono ?_
        rintro en w1 ⟨rfl, hw⟩
        rw [hw]; clear hw w1
        go_wp2
        go_ret
        exact ⟨rfl, vs, H.out, Only.refl _ _⟩
  · have hd : decide (inF x) = false := decide_eq_false hx
    rw [hd] at HT
    have e : cutP d x n = (d, 1) := by unfold cutP; rw [if_neg (fun hh => hx hh.1)]; exact stepP_out hx
    rw [e]
    have H := Lib.hid h
    clear h hd hx e
    go_enter Try.func20, Try.ntmps20
    go_wp2_with fail
    refine HT.out.mono ?_
    rintro en w1 ⟨rfl, hw⟩
    rw [hw]; clear hw w1
    go_wp2
    go_ret
    exact ⟨rfl, vs, H.out, Only.refl _ _⟩
end Go.Proofs.Ytahichieakdbnaa
