/- law 2's CrcBursts and CrcParts: the walks. -/
import Derived.Test.YtjoibfcjijddjaaDoorAwake2
namespace Go.Proofs.YtjoibfcjijddjaaDoor
open Go.ChangeShapes Go.WideShapes Go.ChangeAt Go.RowKit
set_option linter.unusedVariables false

theorem sealed_len (bs : List Nat) : (Cm.sealed bs).length = bs.length + 4 := by simp [Cm.sealed, Cm.le4]
set_option maxHeartbeats 40000000 in
set_option maxRecDepth 100000 in
theorem bursts_walk (w : World) (hT : Tab w) (A : Option Addr) (len cap : Nat) (bs : List Nat) (p : Int) (m : Nat) (hp0 : -9223372036854775808 ≤ p) (hp1 : p ≤ 9223372036854775807) (hm : m < 4294967296)
    (hl : bs.length = len) (h256 : ∀ b ∈ bs, b < 256) (hr : Rd w w.heap.size A (u8s bs)) (hlc : len ≤ cap) (hcm : cap ≤ maxLen) (hnone : A = none → cap = 0) :
    Calls Tryd.prog 4 #[.slice A len cap, .int .i64 p, .int .u32 (m : Int)] w (TruePost w) := by
  have cA := Lib.hid (awake_any w hT)
  by_cases hlong : 300 < len
  · clear hp0 hp1 hm
    go_enter Tryd.func4, Tryd.ntmps4
    go_wp2_with fail
    refine cA.out.mono ?_
    rintro e w1 ⟨rfl, hb1⟩
    go_wp2
    go_ret
    exact ⟨rfl, hb1⟩
  obtain ⟨ss, hss⟩ : ∃ ss, Cm.sealed bs = ss := ⟨_, rfl⟩
  obtain ⟨tt, htt⟩ : ∃ tt, Cm.turn ss p m = tt := ⟨_, rfl⟩
  obtain ⟨k, hk⟩ : ∃ k, ss.length = k := ⟨_, rfl⟩
  have hk4 : k = len + 4 := by rw [← hk, ← hss, sealed_len, hl]
  have hk304 : k ≤ 304 := by omega
  have hs256 : ∀ b ∈ ss, b < 256 := by rw [← hss]; exact sealed_byte h256
  have ht256 : ∀ b ∈ tt, b < 256 := by rw [← htt]; exact Cm.turn_byte hs256 p m
  have htl : tt.length = k := by rw [← htt, Cm.turn_length, hk]
  have hback : Cm.turn tt p m = ss := by rw [← htt]; exact Cm.turn_turn hs256 p m
  have hcase : (tt = ss ∧ Cm.openE tt = 0 ∧ Cm.openB tt = bs) ∨ (tt ≠ ss ∧ Cm.openE tt = 5 ∧ Cm.openB tt = []) := by
    by_cases h : tt = ss
    · refine Or.inl ⟨h, ?_, ?_⟩
      · rw [h, ← hss]; exact (Cm.sealed_open bs).1
      · rw [h, ← hss]; exact (Cm.sealed_open bs).2
    · have h5 : Cm.openE tt = 5 := by
        rw [← htt, ← hss]
        refine Cm.burst h256 p m ?_
        rw [hss, htt]
        exact h
      exact Or.inr ⟨h, h5, by unfold Cm.openB; rw [if_neg (by omega)]⟩
  have K0 := (Know.start hT).add hr
  have cS := Lib.hid (fun (w : World) (hT : Tab w) (hr : Rd w w.heap.size A (u8s bs)) => Seal_at w A len cap bs hT hr h256 hl (by omega) hnone ss k hss hk)
  have cT := Lib.hid (fun (w : World) (A : Option Addr) (c : Nat) (hr : Rd w w.heap.size A (u8s ss)) (hn : A = none → c = 0) => Turn_at w A k c ss p m hr hs256 hk (by omega) hn hp0 hp1 hm tt htt)
  have cT2 := Lib.hid (fun (w : World) (A : Option Addr) (c : Nat) (hr : Rd w w.heap.size A (u8s tt)) (hn : A = none → c = 0) => Turn_at w A k c tt p m hr ht256 htl (by omega) hn hp0 hp1 hm ss hback)
  have HK := Lib.hid hk
  have HTL := Lib.hid htl
  have HL := Lib.hid hl
  have HM : k ≤ maxLen := by unfold maxLen; omega
  have HM2 : len ≤ maxLen := by unfold maxLen; omega
  have cE := Lib.hid (fun (w : World) (A : Option Addr) (c : Nat) (hT : Tab w) (hr : Rd w w.heap.size A (u8s tt)) (hkc : k ≤ c) (hcm : c ≤ maxLen) (hn : A = none → c = 0) (d : Nat) (ob : List Nat) (j : Nat) (hd : Cm.openE tt = d) (ho : Cm.openB tt = ob) (hj : ob.length = j) => Open_at w A k c tt hT hr ht256 htl hkc hcm (by omega) hn d ob j hd ho hj)
  clear hss htt hk hk4 hs256 ht256 htl hback hp0 hp1 hm hl h256 hr hlc hcm hnone
  rcases hcase with ⟨hx, hd, ho⟩ | ⟨hx, hd, ho⟩
  · have HX : Hid (decide (tt = ss) = true) := Lib.hid (by simp [hx])
    have HD := Lib.hid hd
    have HO := Lib.hid ho
    clear hx hd ho
    go_enter Tryd.func4, Tryd.ntmps4
    go_wp2_with fail
    refine cA.out.mono ?_
    rintro e w1 ⟨rfl, hb⟩
    have K1 := K0.step tab_keeps hb
    clear hb K0
    go_wp2_with fail
    refine (cS.out w1 K1.has (K1.rd (by simp))).mono ?_
    rintro e w2 ⟨v, rfl, ⟨A2, c2, rfl, hp2, _, hc2, hm2, _, hn2⟩, hb⟩
    have K2 := (K1.step tab_keeps hb).add hp2
    clear hb hp2 K1
    go_wp2_with fail
    refine (cT.out w2 A2 c2 (K2.rd (by simp)) hn2).mono ?_
    rintro e w3 ⟨v, rfl, ⟨A3, c3, rfl, hp3, _, hc3, hm3, _, hn3⟩, hb⟩
    have K3 := (K2.step tab_keeps hb).add hp3
    clear hb hp3 K2
    go_wp2_with fail
    refine (cT2.out w3 A3 c3 (K3.rd (by simp)) hn3).mono ?_
    rintro e w4 ⟨v, rfl, ⟨A4, c4, rfl, hp4, _, hc4, hm4, _, hn4⟩, hb⟩
    have K4 := (K3.step tab_keeps hb).add hp4
    clear hb hp4 K3
    go_wp2_with fail
    refine (cE.out w4 A3 c3 K4.has (K4.rd (by simp)) hc3 hm3 hn3 0 bs len HD.out HO.out HL.out).mono ?_
    rintro e w5 ⟨v, rfl, ⟨A5, c5, rfl, hp5, _, hc5, hm5, _, hn5⟩, hb⟩
    have K5 := (K4.step tab_keeps hb).add hp5
    clear hb hp5 K4
    go_wp2_with fail
    refine (same_at _ _ _ _ _ tt ss _ _ k k true (K5.rd (A := A3) (by simp)) (K5.rd (A := A2) (by simp)) (by rw [HTL.out]; exact HM) HTL.out HK.out HX.out).mono ?_
    rintro e w6 ⟨rfl, q, hq⟩
    have K6 := K5.drewN tab_keeps q
    rw [← hq] at K6
    clear hq K5
    go_wp2_with fail
    refine (same_at _ _ _ _ _ bs bs _ _ len len true (K6.rd (A := A5) (by simp)) (K6.rd (A := A) (by simp)) (by rw [HL.out]; exact HM2) HL.out HL.out (by simp)).mono ?_
    rintro e w7 ⟨rfl, q, hq⟩
    have K7 := K6.drewN tab_keeps q
    rw [← hq] at K7
    clear hq K6
    go_wp2
    go_ret
    exact ⟨rfl, K7.below⟩
  · have HX : Hid (decide (tt = ss) = false) := Lib.hid (by simp [hx])
    have HD := Lib.hid hd
    have HO := Lib.hid ho
    clear hx hd ho
    go_enter Tryd.func4, Tryd.ntmps4
    go_wp2_with fail
    refine cA.out.mono ?_
    rintro e w1 ⟨rfl, hb⟩
    have K1 := K0.step tab_keeps hb
    clear hb K0
    go_wp2_with fail
    refine (cS.out w1 K1.has (K1.rd (by simp))).mono ?_
    rintro e w2 ⟨v, rfl, ⟨A2, c2, rfl, hp2, _, hc2, hm2, _, hn2⟩, hb⟩
    have K2 := (K1.step tab_keeps hb).add hp2
    clear hb hp2 K1
    go_wp2_with fail
    refine (cT.out w2 A2 c2 (K2.rd (by simp)) hn2).mono ?_
    rintro e w3 ⟨v, rfl, ⟨A3, c3, rfl, hp3, _, hc3, hm3, _, hn3⟩, hb⟩
    have K3 := (K2.step tab_keeps hb).add hp3
    clear hb hp3 K2
    go_wp2_with fail
    refine (cT2.out w3 A3 c3 (K3.rd (by simp)) hn3).mono ?_
    rintro e w4 ⟨v, rfl, ⟨A4, c4, rfl, hp4, _, hc4, hm4, _, hn4⟩, hb⟩
    have K4 := (K3.step tab_keeps hb).add hp4
    clear hb hp4 K3
    go_wp2_with fail
    refine (cE.out w4 A3 c3 K4.has (K4.rd (by simp)) hc3 hm3 hn3 5 [] 0 HD.out HO.out rfl).mono ?_
    rintro e w5 ⟨v, rfl, ⟨A5, c5, rfl, hp5, _, hc5, hm5, _, hn5⟩, hb⟩
    have K5 := (K4.step tab_keeps hb)
    clear hb hp5 K4
    go_wp2_with fail
    refine (same_at _ _ _ _ _ tt ss _ _ k k false (K5.rd (A := A3) (by simp)) (K5.rd (A := A2) (by simp)) (by rw [HTL.out]; exact HM) HTL.out HK.out HX.out).mono ?_
    rintro e w6 ⟨rfl, q, hq⟩
    have K6 := K5.drewN tab_keeps q
    rw [← hq] at K6
    clear hq K5
    go_wp2_with fail
    refine (same_at _ _ _ _ _ ss ss _ _ k k true (K6.rd (A := A4) (by simp)) (K6.rd (A := A2) (by simp)) (by rw [HK.out]; exact HM) HK.out HK.out (by simp)).mono ?_
    rintro e w7 ⟨rfl, q, hq⟩
    have K7 := K6.drewN tab_keeps q
    rw [← hq] at K7
    clear hq K6
    go_wp2
    go_ret
    exact ⟨rfl, K7.below⟩
end Go.Proofs.YtjoibfcjijddjaaDoor
