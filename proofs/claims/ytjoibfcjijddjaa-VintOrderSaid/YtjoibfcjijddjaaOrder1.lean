/- law 1, VintOrder: the walk. -/
import Derived.Test.YtjoibfcjijddjaaAwake1
namespace Go.Proofs.Ytjoibfcjijddjaa
open Go.ChangeShapes Go.WideShapes Go.ChangeAt Go.RowKit
set_option linter.unusedVariables false

theorem wrap64_lo {n : Nat} (h : n ≤ 18446744073709551615) : -9223372036854775808 ≤ wrap64 (n : Int) ∧ wrap64 (n : Int) ≤ 9223372036854775807 := by unfold wrap64; omega

set_option maxHeartbeats 4000000 in
set_option maxRecDepth 100000 in
/-- the law behind awake, at two numbers of which the first is no greater -/
theorem order_tail (w : World) (a b : Nat) (swap : Bool) (hab : a ≤ b) (hsw : swap = true → a < b) (hb : b ≤ 18446744073709551615) :
    Calls Try.prog 5 #[.int .u64 (if swap then (b : Int) else (a : Int)), .int .u64 (if swap then (a : Int) else (b : Int))] w (TruePost w) := by
  obtain ⟨pa, hpa⟩ : ∃ pa, Vm.enc a = pa := ⟨_, rfl⟩
  obtain ⟨pb, hpb⟩ : ∃ pb, Vm.enc b = pb := ⟨_, rfl⟩
  obtain ⟨la, hla⟩ : ∃ la, pa.length = la := ⟨_, rfl⟩
  obtain ⟨lb, hlb⟩ : ∃ lb, pb.length = lb := ⟨_, rfl⟩
  have hlab : la ≤ lb := by rw [← hla, ← hlb, ← hpa, ← hpb]; exact Vm.enc_mono hab
  have hlb10 : lb ≤ 10 := by rw [← hlb, ← hpb]; exact Vm.enc_le b
  have cA := Lib.hid (awake_any w)
  have cP := Lib.hid (fun w => Put_at w (a : Int) pa la (by omega) (by omega) hpa hla)
  have cQ := Lib.hid (fun w => Put_at w (b : Int) pb lb (by omega) (by omega) hpb hlb)
  have cSa := Lib.hid (fun w => Size_at w (a : Int) (la : Int) (by omega) (by omega) (by rw [Int.toNat_natCast, hpa, hla]))
  have cSb := Lib.hid (fun w => Size_at w (b : Int) (lb : Int) (by omega) (by omega) (by rw [Int.toNat_natCast, hpb, hlb]))
  have cZ1 := Lib.hid (fun w => Zag_at w (a : Int) (Vm.zag a) (by omega) (by omega) rfl)
  have cZ2 := Lib.hid (fun w => Zig_at w (Vm.zag a) (a : Int) (Vm.zag_lo (by omega)) (Vm.zag_hi (by omega)) (by rw [Vm.zig_zag]))
  have hw := wrap64_lo hb
  have cZ3 := Lib.hid (fun w => Zig_at w (wrap64 (b : Int)) (Vm.zig (wrap64 (b : Int)) : Int) hw.1 hw.2 rfl)
  have hz := Vm.zig_lt hw.1 hw.2
  have cZ4 := Lib.hid (fun w => Zag_at w (Vm.zig (wrap64 (b : Int)) : Int) (wrap64 (b : Int)) (by omega) (by omega) (by rw [Int.toNat_natCast, Vm.zag_zig]))
  clear hz hw
  have hsame : a ≠ b → decide (pa = pb.take la) = false := by
    intro hne
    simp only [decide_eq_false_iff_not]
    intro h
    apply hne
    exact Vm.enc_free (by rw [hpa, hpb, hla]; exact h)
  have cS := Lib.hid (fun (hne : a ≠ b) (w : World) (A1 A2 : Option Addr) (c1 c2 B1 B2 : Nat) (h1 : Rd w B1 A1 (u8s pa)) (h2 : Rd w B2 A2 (u8s pb)) =>
    same_at w A1 A2 c1 c2 pa (pb.take la) B1 B2 la la false h1 (by rw [show u8s (pb.take la) = (u8s pb).take la by simp [u8s, List.map_take]]; exact h2.take la) (by rw [hla]; unfold maxLen; omega) hla (by rw [List.length_take]; omega) (hsame hne))
  clear hsame hpa hpb hla hlb
  have hle : (la : Int) ≤ (lb : Int) := by omega
  have hN : 0 ≤ la := by omega
  cases swap
  all_goals simp only [Bool.false_eq_true, if_false, if_true]
  all_goals
    try (have hsw' := hsw rfl; clear hsw)
    go_enter Try.func5, Try.ntmps5
    go_wp2_with fail
    refine cA.out.mono ?_
    rintro e w1 ⟨rfl, hb1⟩
    go_wp2_with fail
    refine (cP.out _).mono ?_
    rintro e w2 ⟨v, rfl, hm, hb⟩
    have hb2 := hb1.trans (hb.mono hb1.size)
    clear hb hb1
    go_wp2_with fail
    refine (cQ.out _).mono ?_
    rintro e w3 ⟨v3, rfl, hm3, hb⟩
    have hb3 := hb2.trans (hb.mono hb2.size)
    have hm2 := hm.keep hb
    clear hb hb2 hm
    obtain ⟨A1, c1, rfl, hr1, _, _, _, _, _⟩ := hm2
    obtain ⟨A2, c2, rfl, hr2, _, hc2, hc3, _, _⟩ := hm3
    go_wp2_with fail
    refine (cSa.out _).mono ?_
    rintro e w' ⟨rfl, rfl⟩
    go_wp2_with fail
    refine (cSb.out _).mono ?_
    rintro e w' ⟨rfl, rfl⟩
    go_wp2_with fail
    refine (cSa.out _).mono ?_
    rintro e w' ⟨rfl, rfl⟩
    by_cases heq : a = b
    · have he : ((a : Int) != (b : Int)) = false := by simp [heq]
      have HE := Lib.hid heq; clear heq
      go_wp2_with fail
      refine (cZ1.out _).mono ?_
      rintro e w' ⟨rfl, rfl⟩
      go_wp2_with fail
      refine (cZ2.out _).mono ?_
      rintro e w' ⟨rfl, rfl⟩
      go_wp2_with fail
      refine (cZ3.out _).mono ?_
      rintro e w' ⟨rfl, rfl⟩
      go_wp2_with fail
      refine (cZ4.out _).mono ?_
      rintro e w' ⟨rfl, rfl⟩
      go_wp2
      go_ret
      exact ⟨rfl, hb3⟩
    · have he : ((a : Int) != (b : Int)) = true := by simp; omega
      have HE := Lib.hid heq; clear heq
      go_wp2_with fail
      refine (cS.out HE.out _ _ _ _ _ _ _ hr1 hr2).mono ?_
      rintro e w' ⟨rfl, q, hq⟩
      have hb4 : Below w.heap.size w w' := by rw [hq]; exact below_drewN hb3 q
      clear hq hb3 hr1 hr2
      go_wp2_with fail
      refine (cZ1.out _).mono ?_
      rintro e w' ⟨rfl, rfl⟩
      go_wp2_with fail
      refine (cZ2.out _).mono ?_
      rintro e w' ⟨rfl, rfl⟩
      go_wp2_with fail
      refine (cZ3.out _).mono ?_
      rintro e w' ⟨rfl, rfl⟩
      go_wp2_with fail
      refine (cZ4.out _).mono ?_
      rintro e w' ⟨rfl, rfl⟩
      go_wp2
      go_ret
      exact ⟨rfl, hb4⟩
end Go.Proofs.Ytjoibfcjijddjaa
