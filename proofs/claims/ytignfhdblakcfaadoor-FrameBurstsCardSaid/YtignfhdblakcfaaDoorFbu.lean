/- law 3's FrameBursts: the walk. -/
import Derived.Test.YtignfhdblakcfaaDoorAw3
namespace Go.Proofs.YtignfhdblakcfaaDoor
open Go.ChangeShapes Go.WideShapes Go.ChangeAt Go.RowKit
set_option linter.unusedVariables false

set_option maxHeartbeats 4000000 in
set_option maxRecDepth 100000 in
theorem fbursts_walk (w : World) (hT : Tab w) (A : Option Addr) (len cap : Nat) (bs : List Nat) (p : Int) (m : Nat) (hp0 : -9223372036854775808 ≤ p) (hp1 : p ≤ 9223372036854775807) (hm : m < 4294967296)
    (hl : bs.length = len) (h256 : ∀ b ∈ bs, b < 256) (hr : Rd w w.heap.size A (u8s bs)) (hlc : len ≤ cap) (hcm : cap ≤ maxLen) (hnone : A = none → cap = 0) :
    Calls Tryd.prog 5 #[.slice A len cap, .int .i64 p, .int .u32 (m : Int)] w (TrueP w) := by
  have cA := Lib.hid (awake3_any w hT)
  by_cases hlong : 600 < len
  · clear hp0 hp1 hm
    go_enter Tryd.func5, Tryd.ntmps5
    go_wp2_with fail
    refine cA.out.mono ?_
    rintro e w1 ⟨rfl, hb1⟩
    go_wp2
    go_ret
    exact ⟨rfl, hb1⟩
  obtain ⟨fs, hfs⟩ : ∃ fs, Fm.fr bs = fs := ⟨_, rfl⟩
  obtain ⟨tt, htt⟩ : ∃ tt, Cm.turn fs p m = tt := ⟨_, rfl⟩
  obtain ⟨k, hk⟩ : ∃ k, fs.length = k := ⟨_, rfl⟩
  have hk2 : k ≤ 614 := by
    have h1 := Fm.fr_length bs
    have h2 := Vm.enc_le bs.length
    rw [hfs, hk, hl] at h1
    rw [hl] at h2
    omega
  have hf256 : ∀ b ∈ fs, b < 256 := by rw [← hfs]; exact Fm.fr_byte h256 (by omega)
  have ht256 : ∀ b ∈ tt, b < 256 := by rw [← htt]; exact Cm.turn_byte hf256 p m
  have htl : tt.length = k := by rw [← htt, Cm.turn_length, hk]
  obtain ⟨⟨q, s, d⟩, hq⟩ : ∃ r, Fm.next tt = r := ⟨_, rfl⟩
  obtain ⟨lq, hlq⟩ : ∃ lq, q.length = lq := ⟨_, rfl⟩
  have hle := Fm.next_le tt
  rw [hq] at hle
  simp only [htl, hlq] at hle
  have cW := Lib.hid (fun (w : World) (hT : Tab w) (hr : Rd w w.heap.size A (u8s bs)) => Wrap_at w A len cap bs hT hr h256 hl (by omega) hnone fs k hfs hk)
  have cT := Lib.hid (fun (w : World) (A : Option Addr) (c : Nat) (hr : Rd w w.heap.size A (u8s fs)) (hn : A = none → c = 0) => Turn_at w A k c fs p m hr hf256 hk (by omega) hn hp0 hp1 hm tt htt)
  have cN := Lib.hid (fun (w : World) (A : Option Addr) (c : Nat) (hT : Tab w) (hr : Rd w w.heap.size A (u8s tt)) (hkc : k ≤ c) (hcm : c ≤ maxLen) => Next_at w A k c tt hT hr ht256 htl hkc hcm (by omega) q s d lq hq hlq)
  have HT := Lib.hid hT; have HR := Lib.hid hr; have HK := Lib.hid hk; have HTL := Lib.hid htl; have HL := Lib.hid hl; have HLQ := Lib.hid hlq
  have HML : Hid (k ≤ maxLen) := Lib.hid (by unfold maxLen; omega)
  have HMQ : Hid (len ≤ maxLen) := Lib.hid (by unfold maxLen; omega)
  have hcase : (tt = fs ∧ q = bs ∧ s = k ∧ d = 0) ∨ (tt ≠ fs ∧ ((d ≠ 0 ∧ s = 0 ∧ lq = 0) ∨ (d = 0 ∧ s < k))) := by
    by_cases h : tt = fs
    · have h2 := Fm.next_fr h256 (by omega) []
      rw [List.append_nil, hfs, ← h, hq] at h2
      injection h2 with e1 e2
      injection e2 with e2 e3
      exact .inl ⟨h, e1, by rw [e2, htl], e3⟩
    · have h2 := Fm.burst h256 (by omega) p m (by rw [hfs, htt]; exact h)
      rw [hfs, htt, hq] at h2
      simp only at h2
      refine .inr ⟨h, ?_⟩
      rcases h2 with ⟨a1, a2, a3⟩ | ⟨a1, a2⟩
      · exact .inl ⟨a1, a2, by rw [← hlq, a3]; rfl⟩
      · exact .inr ⟨a1, by omega⟩
  clear hT hr hfs htt hk hf256 ht256 htl hq hlq hp0 hp1 hm h256 hl hnone hcm
  rcases hcase with ⟨h1, h2, h3, h4⟩ | ⟨h1, h2⟩
  · have HX : Hid (decide (tt = fs) = true) := Lib.hid (by simp [h1])
    have HQB : Hid (decide (q = bs) = true) := Lib.hid (by simp [h2])
    have hlqn : lq = len := by rw [← HLQ.out, h2, HL.out]
    subst h3 h4 hlqn
    clear h1 h2
    go_enter Tryd.func5, Tryd.ntmps5
    go_wp2_with fail
    refine cA.out.mono ?_
    rintro e w1 ⟨rfl, hb⟩
    have B1 := Lib.hid hb; have R1 := Lib.hid ((HR.out.below hb).more hb.size)
    clear hb
    go_wp2_with fail
    refine (cW.out w1 (HT.out.below B1.out) R1.out).mono ?_
    rintro e w2 ⟨v, rfl, ⟨A2, c2, rfl, hr2, _, hc2, hm2, _, hn2⟩, hb⟩
    have B2 := Lib.hid (B1.out.trans (hb.mono B1.out.size)); have R2 := Lib.hid ((R1.out.below hb).more hb.size); have F2 := Lib.hid hr2; have HN2 := Lib.hid hn2
    clear hb hr2 hn2
    go_wp2_with fail
    refine (cT.out w2 A2 c2 F2.out HN2.out).mono ?_
    rintro e w3 ⟨v, rfl, ⟨A3, c3, rfl, hr3, _, hc3, hm3, _, hn3⟩, hb⟩
    have B3 := Lib.hid (B2.out.trans (hb.mono B2.out.size)); have R3 := Lib.hid ((R2.out.below hb).more hb.size); have F3 := Lib.hid ((F2.out.below hb).more hb.size); have T3 := Lib.hid hr3; have HC3 := Lib.hid hc3; have HM3 := Lib.hid hm3
    clear hb hr3 hn3 hm3
    go_wp2_with fail
    refine (cN.out w3 A3 c3 (HT.out.below B3.out) T3.out HC3.out HM3.out).mono ?_
    rintro e w4 ⟨v, rfl, ⟨A4, c4, rfl, hr4, _, hc4, hm4, _, hn4⟩, hb⟩
    have B4 := Lib.hid (B3.out.trans (hb.mono B3.out.size)); have R4 := Lib.hid ((R3.out.below hb).more hb.size); have F4 := Lib.hid ((F3.out.below hb).more hb.size); have T4 := Lib.hid ((T3.out.below hb).more hb.size); have Q4 := Lib.hid hr4
    clear hb hr4 hn4
    go_wp2_with fail
    refine (same_at w4 A3 A2 c3 c2 tt fs _ _ _ _ true T4.out F4.out (by rw [HTL.out]; exact HML.out) HTL.out HK.out HX.out).mono ?_
    rintro e w5 ⟨rfl, x, hx⟩
    have hb5 : Below w4.heap.size w4 w5 := by rw [hx]; exact below_drewN (Below.refl _ _) x
    have B5 := Lib.hid (B4.out.trans (hb5.mono B4.out.size)); have R5 := Lib.hid ((R4.out.below hb5).more hb5.size); have Q5 := Lib.hid ((Q4.out.below hb5).more hb5.size)
    clear hb5 hx
    go_wp2_with fail
    refine (same_at w5 A4 A c4 cap q bs _ _ _ _ true Q5.out R5.out (by rw [HLQ.out]; exact HMQ.out) HLQ.out HL.out HQB.out).mono ?_
    rintro e w6 ⟨rfl, x, hx⟩
    have HP := Lib.hid (show TrueP w (.returned (.bool true)) w6 from ⟨rfl, B5.out.trans ((show Below w5.heap.size w5 w6 by rw [hx]; exact below_drewN (Below.refl _ _) x).mono B5.out.size)⟩)
    clear hx
    go_wp2
    go_ret
    exact HP.out
  · have HX : Hid (decide (tt = fs) = false) := Lib.hid (by simp [h1])
    clear h1
    rcases h2 with ⟨d0, rfl, rfl⟩ | ⟨rfl, hs⟩
    all_goals
      try have hdn : ((d : Int) == 0) = false := by simp; omega
      try have hsl : (s : Int) < (k : Int) := by omega
      go_enter Tryd.func5, Tryd.ntmps5
      go_wp2_with fail
      refine cA.out.mono ?_
      rintro e w1 ⟨rfl, hb⟩
      have B1 := Lib.hid hb; have R1 := Lib.hid ((HR.out.below hb).more hb.size)
      clear hb
      go_wp2_with fail
      refine (cW.out w1 (HT.out.below B1.out) R1.out).mono ?_
      rintro e w2 ⟨v, rfl, ⟨A2, c2, rfl, hr2, _, hc2, hm2, _, hn2⟩, hb⟩
      have B2 := Lib.hid (B1.out.trans (hb.mono B1.out.size)); have F2 := Lib.hid hr2; have HN2 := Lib.hid hn2
      clear hb hr2 hn2
      go_wp2_with fail
      refine (cT.out w2 A2 c2 F2.out HN2.out).mono ?_
      rintro e w3 ⟨v, rfl, ⟨A3, c3, rfl, hr3, _, hc3, hm3, _, hn3⟩, hb⟩
      have B3 := Lib.hid (B2.out.trans (hb.mono B2.out.size)); have F3 := Lib.hid ((F2.out.below hb).more hb.size); have T3 := Lib.hid hr3; have HC3 := Lib.hid hc3; have HM3 := Lib.hid hm3
      clear hb hr3 hn3 hm3
      go_wp2_with fail
      refine (cN.out w3 A3 c3 (HT.out.below B3.out) T3.out HC3.out HM3.out).mono ?_
      rintro e w4 ⟨v, rfl, ⟨A4, c4, rfl, hr4, _, hc4, hm4, _, hn4⟩, hb⟩
      have B4 := Lib.hid (B3.out.trans (hb.mono B3.out.size)); have F4 := Lib.hid ((F3.out.below hb).more hb.size); have T4 := Lib.hid ((T3.out.below hb).more hb.size)
      clear hb hr4 hn4
      go_wp2_with fail
      refine (same_at w4 A3 A2 c3 c2 tt fs _ _ _ _ false T4.out F4.out (by rw [HTL.out]; exact HML.out) HTL.out HK.out HX.out).mono ?_
      rintro e w5 ⟨rfl, x, hx⟩
      have hb5 : Below w4.heap.size w4 w5 := by rw [hx]; exact below_drewN (Below.refl _ _) x
      have HP := Lib.hid (show TrueP w (.returned (.bool true)) w5 from ⟨rfl, B4.out.trans (hb5.mono B4.out.size)⟩)
      clear hx hb5
      go_wp2
      go_ret
      exact HP.out
end Go.Proofs.YtignfhdblakcfaaDoor
