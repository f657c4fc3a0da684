/- packetboatref08: Crash. -/
import Derived.Test.YtahichieakdbnaaEo
namespace Go.Proofs.Ytahichieakdbnaa
open Go.ChangeShapes Go.WideShapes Go.ChangeAt Go.RowKit Go.Maps Go.Deep
set_option linter.unusedVariables false
set_option linter.unusedSimpArgs false

set_option maxHeartbeats 6000000 in
set_option maxRecDepth 100000 in
theorem RCrash_any (w : World) (S : Nat → Prop) (g room : Nat) (vs : List Value) (d : Pd) (A0 : Option Addr) (n0 cap0 B : Nat) (ks : List Int) (h : RM w S g room vs d) (hS : ∀ j, S j → j < w.heap.size) (hok : OkP room d)
    (hr : Rd w B A0 (i64i ks)) (hB : B ≤ w.heap.size) (hl : ks.length = n0) (hn : n0 ≤ 60) (hne : ∀ q o, A0 = some ⟨q, o, none⟩ → i64i ks ≠ [] → q ≠ g) :
    Calls Try.prog 22 #[.pointer (some ⟨g, 0, none⟩), .slice A0 n0 cap0] w (fun en w' => en = .returned (.tuple #[]) ∧ ∃ vs', RM w' S g room vs' (crashP ks d) ∧ Only (fun j => j = g) w w') := by
  have gl := h.lt
  obtain ⟨i0, hi, hz0, hz1, hz2⟩ := info_parts infoU8
  have H := Lib.hid h
  have HOK := Lib.hid hok
  have HR := Lib.hid hr
  have HSB := Lib.hid hS
  clear h hok hr hS
  go_enter Try.func22, Try.ntmps22
  go_wp2
  go_loopw [4] (fun s4 wr => ∃ (i : Nat), s4 = .int .i64 (i : Int) ∧ i ≤ 64 ∧ ∃ vs', Hid (RM wr S g room vs' (crashU ks d.1 i, d.2)) ∧ Hid (Only (fun j => j = g) w wr)) (fun s4 _ => 64 - (intOf s4).toNat)
  case atStart => exact ⟨0, rfl, by omega, vs, Lib.hid (by rw [crashU_zero]; exact H.out), Lib.hid (Only.refl _ _)⟩
  case round =>
    obtain ⟨i, rfl, hi64, vs', HD, HO⟩ := hrel
    generalize wr = W at *
    by_cases hlt : i < 64
    · have hiI : (i : Int) < 64 := by omega
      obtain ⟨A9, c9, f', hv, hf', hmm⟩ := HD.out.made hlt
      obtain ⟨f, hf⟩ : ∃ f, d.1[i]? = some f := ⟨_, List.getElem?_eq_getElem (by rw [HOK.out.2.2.1]; exact hlt)⟩
      have hf2 := crashU_get (ks := ks) hf
      obtain rfl : f' = f := by
        have h9 : (crashU ks d.1 i)[i]? = some f' := hf'
        rw [hf2] at h9
        injection h9 with h9
        exact h9.symm
      have b0 := HD.out.bytes hv
      have s0 := HD.out.sure hf'
      have gl2 := HD.out.lt
      have hs := (HOK.out.2.2.2.1 f' (List.mem_of_getElem? hf)).1
      have hL := Nat.le_trans (totF_mem hf) (Nat.le_trans HOK.out.2.1 HOK.out.1)
      have HBY := Lib.hid (HD.out.byt hv hf')
      obtain ⟨M, hM⟩ : ∃ M, min (moreK ks i) (f'.1.length - f'.2) = M := ⟨_, rfl⟩
      have hkL : f'.2 + M ≤ f'.1.length := by omega
      have hc1 : crash1 ks i f' = (f'.1.take (f'.2 + M), f'.2 + M) := by unfold crash1; rw [hM]
      obtain ⟨A9', c9', hve, hr9, hq1, hq2, hq3, hq4, hq5⟩ := hmm.1
      injection hve with q1 q2 q3
      subst q1 q3
      have htl : (f'.1.take (f'.2 + M)).length = f'.2 + M := by rw [List.length_take, Nat.min_eq_left hkL]
      obtain ⟨AP, hAP, hAR, hAN⟩ := slice_h (P := Try.prog) 32 5 Try.underlying32 one8d A9 f'.1.length c9 (f'.2 + M) ((f'.2 : Int) + (M : Int)) (by omega) (by omega)
      have hrk := hAR W.drew _ _ (by simp [u8s]; exact hkL) (hr9.below (Below.refl _ W).drew)
      have hrk2 : Rd W.drew W.heap.size AP (u8s (f'.1.take (f'.2 + M))) := by simpa [u8s, List.map_take] using hrk
      have hnn : AP = none → c9 = 0 := by
        intro hap
        cases A9 with
        | none => exact hq5 rfl
        | some a => exact absurd hap (hAN (by simp))
      have SA := Lib.hid (src_alloc (show Src W.drew AP (f'.2 + M) c9 (u8s (f'.1.take (f'.2 + M))) from Src.of_rd' hrk2 hnn (by omega) (by simp [u8s]; omega)) (.cells #[] 5))
      have LAY := Lib.hid (fun w3 A3 c3 (hb : Below W.heap.size W w3) ho => RM.lay (w3 := w3) (A := A3) (c := c3) (n := f'.2 + M) (bs := f'.1.take (f'.2 + M)) HD.out (fun j hj => Nat.lt_of_lt_of_le (HSB.out j hj) HO.out.size) hf' hb ho htl (fun b hb => HBY.out b (List.mem_of_mem_take hb)))
      have HTL := Lib.hid htl
      have HFIN : Hid (∀ w4 A4 c4, RM w4 S g room (vs'.set i (.slice A4 (f'.2 + M) c4)) ((crashU ks d.1 i).set i (f'.1.take (f'.2 + M), f'.2), d.2) → RM (w4.setCell ⟨g, 64 + i, none⟩ (.int .i64 ((f'.2 + M : Nat) : Int))) S g room (vs'.set i (.slice A4 (f'.2 + M) c4)) (crashU ks d.1 (i + 1), d.2)) := Lib.hid (by
        intro w4 A4 c4 h4
        have hfx : ((crashU ks d.1 i).set i (f'.1.take (f'.2 + M), f'.2))[i]? = some (f'.1.take (f'.2 + M), f'.2) := by rw [List.getElem?_set_self (List.getElem?_eq_some_iff.1 hf2).1]
        have h5 := h4.setS hfx (f'.2 + M)
        simp only [List.set_set] at h5
        rw [← hc1, ← crashU_succ hf] at h5
        exact h5)
      have HGET : Hid (∀ w4 A4 c4, RM w4 S g room (vs'.set i (.slice A4 (f'.2 + M) c4)) ((crashU ks d.1 i).set i (f'.1.take (f'.2 + M), f'.2), d.2) → w4.cell? ⟨g, 64 + i, none⟩ = some (.int .i64 (f'.2 : Int)) ∧ w4.frozen? ⟨g, 64 + i, none⟩ = false) := Lib.hid (by
        intro w4 A4 c4 h4
        have hfx : ((crashU ks d.1 i).set i (f'.1.take (f'.2 + M), f'.2))[i]? = some (f'.1.take (f'.2 + M), f'.2) := by rw [List.getElem?_set_self (List.getElem?_eq_some_iff.1 hf2).1]
        exact ⟨h4.sure (f := (f'.1.take (f'.2 + M), f'.2)) hfx, h4.2.2.1.frozen _⟩)
      -- what the inner loop asks
      have HKV : Hid ((n0 = 0 ∧ M = 0) ∨ (0 < n0 ∧ ∃ q o kv, A0 = some ⟨q, o, none⟩ ∧ W.cell? ⟨q, o + i % n0, none⟩ = some (.int .i64 kv) ∧ M = min kv.toNat (f'.1.length - f'.2) ∧ q < W.heap.size)) := Lib.hid (by
        by_cases hn0 : n0 = 0
        · left
          refine ⟨hn0, ?_⟩
          have hks : ks = [] := List.eq_nil_of_length_eq_zero (by omega)
          rw [← hM]; unfold moreK; rw [if_pos hks]; simp
        · right
          refine ⟨by omega, ?_⟩
          have hne2 : i64i ks ≠ [] := by intro e; have h9 := congrArg List.length e; simp only [i64i, List.length_map, List.length_nil] at h9; omega
          obtain ⟨q, o, hA, hq, hc⟩ := (HR.out) hne2
          have hqw : q < w.heap.size := by omega
          have hqg := hne q o hA hne2
          have hlt2 : i % n0 < n0 := Nat.mod_lt _ (by omega)
          obtain ⟨kv, hkv⟩ : ∃ kv, ks[i % n0]? = some kv := ⟨_, List.getElem?_eq_getElem (by rw [hl]; exact hlt2)⟩
          refine ⟨q, o, kv, hA, ?_, ?_, Nat.lt_of_lt_of_le hqw HO.out.size⟩
          · rw [show W.cell? ⟨q, o + i % n0, none⟩ = w.cell? ⟨q, o + i % n0, none⟩ from by unfold World.cell?; rw [HO.out.2.2.2.2 q hqw hqg]]
            exact hc _ _ (by simp [i64i, hkv])
          · rw [← hM]; unfold moreK; rw [if_neg (by rintro rfl; simp at hl; omega), hl, hkv]; rfl)
      obtain ⟨s, hsv⟩ : ∃ s, f'.2 = s := ⟨_, rfl⟩
      obtain ⟨L, hLv⟩ : ∃ L, f'.1.length = L := ⟨_, rfl⟩
      rw [hLv] at b0 hL hAP
      rw [hsv] at s0 hAP
      have HSV := Lib.hid hsv; have HLV := Lib.hid hLv
      have hsL : s ≤ L := by omega
      have hML : s + M ≤ L := by omega
      have hrem : Int.tmod (i : Int) (n0 : Int) = ((i % n0 : Nat) : Int) := by rw [← Int.ofNat_tmod]
      clear hv hf hf' hf2 hmm hs hM hkL hc1 hr9 hq1 hq2 hq3 hq4 hq5 htl hAR hAN hrk hrk2 hnn hsv hLv
      go_wp2
      go_loop [5, 6] (fun s5 s6 => ∃ k : Nat, s6 = .int .i64 (k : Int) ∧ s5 = .int .i64 ((s + k : Nat) : Int) ∧ k ≤ M) (fun _ s6 => M - (intOf s6).toNat)
      case atStart => exact ⟨0, rfl, by simp, Nat.zero_le _⟩
      case round =>
        obtain ⟨k, rfl, rfl, hkM⟩ := hrel
        have HAPc : (c9 : Int) < 0 ∨ True := .inr trivial
        by_cases hk : k < M
        · rcases HKV.out with ⟨h1, h2⟩ | ⟨hn1, q, o, kv, rfl, k0, hMk, hqw⟩
          · omega
          · rw [HSV.out, HLV.out] at hMk
            have hlt2 : i % n0 < n0 := Nat.mod_lt _ hn1
            have c1 : (0 : Int) < (n0 : Int) := by omega
            have c2 : (k : Int) < kv := by omega
            have c3 : ((s + k : Nat) : Int) < (L : Int) := by omega
            have w1 : IntKind.i64.wrap (((s + k : Nat) : Int) + 1) = ((s + (k + 1) : Nat) : Int) := by rw [IntWalk.i64_in _ ⟨by omega, by omega⟩]; omega
            have hn0z : ¬ ((n0 : Int) = 0) := by omega
            clear hMk HAPc
            go_wp2
            go_round
            case rel => exact ⟨k + 1, by go_num, by first | (congr 1; omega) | congr 1, by omega⟩
            case measure => simp [intOf]; omega
        · have hkM2 : k = M := by omega
          have hcase : (n0 = 0) ∨ (∃ q o kv, 0 < n0 ∧ A0 = some ⟨q, o, none⟩ ∧ W.cell? ⟨q, o + i % n0, none⟩ = some (.int .i64 kv) ∧ q < W.heap.size ∧ ¬ (k : Int) < kv) ∨ (∃ q o kv, 0 < n0 ∧ A0 = some ⟨q, o, none⟩ ∧ W.cell? ⟨q, o + i % n0, none⟩ = some (.int .i64 kv) ∧ q < W.heap.size ∧ (k : Int) < kv ∧ ¬ ((s + k : Nat) : Int) < (L : Int)) := by
            rcases HKV.out with ⟨h1, h2⟩ | ⟨hn1, q, o, kv, hA, k0, hMk, hqw⟩
            · exact .inl h1
            · rw [HSV.out, HLV.out] at hMk
              by_cases hkk : (k : Int) < kv
              · exact .inr (.inr ⟨q, o, kv, hn1, hA, k0, hqw, hkk, by omega⟩)
              · exact .inr (.inl ⟨q, o, kv, hn1, hA, k0, hqw, hkk⟩)
          subst hkM2
          have e5 : ((s + k : Nat) : Int) = (s : Int) + (k : Int) := by omega
          have HE5 := Lib.hid e5
          clear e5
          rw [HSV.out] at LAY SA HTL HFIN HGET
          rcases hcase with rfl | ⟨q, o, kv, hn1, rfl, k0, hqw, c2⟩ | ⟨q, o, kv, hn1, rfl, k0, hqw, c2, c3⟩
          all_goals (
            try have hlt2 : i % n0 < n0 := Nat.mod_lt _ hn1
            try have c1 : (0 : Int) < (n0 : Int) := by omega
            try have hn0z : ¬ ((n0 : Int) = 0) := by omega
            go_wp2_with fail
            go_region_law (first
              | (go_must (refine step_app0 rfl (.tmp 48) (.tmp 56) 32 rfl W.heap.size 5 i0 (.int .u8 0) 1 1 Try.underlying32 hi hz0 hz1 hz2 rfl (by decide) W.heap.size (by simp [Act.eval, Act.put]) (Blk.new' W.drew _ _ rfl) (Nat.le_refl _) AP (s + k) c9 (u8s (f'.1.take (s + k))) (by simp [Act.eval, Act.put]) (by simp only [u8s, List.length_map, HTL.out, Nat.mul_one]) SA.out (u8s_one _) (by unfold maxLen; omega) (by omega) ?_; intro v2 w4 ho3 hb2 _hn2; obtain ⟨A4, c4, rfl⟩ := own_sl ho3; obtain ⟨⟨y4, hy4⟩, z4, l4, hRM, hOn⟩ := LAY.out w4 A4 c4 (((Below.refl W.heap.size W).drew.alloc (by simp) _).trans (hb2.mono (by simp))) ho3; have HRM := Lib.hid hRM; have HON := Lib.hid hOn; obtain ⟨s5, z5⟩ := HGET.out _ A4 c4 hRM; have l5 := hRM.lt; have h9 := HFIN.out _ A4 c4 hRM; have h8 := Only.set (S := fun j => j = g) hOn rfl (64 + i) (.int .i64 ((s + k : Nat) : Int)); rw [HE5.out] at h9 h8; have HX := Lib.hid h9; have HXO := Lib.hid (HO.out.trans h8 (Sub.refl _ _)); clear ho3 hb2 hRM hOn _hn2 h9 h8; go_simp)))
            all_goals (
              go_wp2
              go_roundw
              case rel => exact ⟨i + 1, by go_num, by omega, _, HX, HXO⟩
              case measure => simp [intOf]; omega))
    · obtain rfl : i = 64 := by omega
      have a9 := HD.out.dn0
      have z9 := HD.out.2.2.1.frozen 130
      have b9 := HD.out.fu0
      have y9 := HD.out.2.2.1.frozen 129
      have gl9 := HD.out.lt
      have hA := HD.out.setDn false
      have hA2 := hA.setFu (b := false) (n := 0) (-1) rfl
      have HA := Lib.hid hA2
      have HOO := Lib.hid (Only.set (S := fun j => j = g) (Only.set (S := fun j => j = g) HO.out rfl 130 (.bool false)) rfl 129 (.int .i64 (-1)))
      clear hA hA2
      go_wp2
      go_end0
      exact ⟨rfl, ⟨vs', HA.out⟩, HOO.out⟩
end Go.Proofs.Ytahichieakdbnaa
