/- law 3's FrameBack: the walk. -/
import Derived.Test.YtignfhdblakcfaaDoorFtel
import Derived.Test.YtignfhdblakcfaaDoorFm3
namespace Go.Proofs.YtignfhdblakcfaaDoor
open Go.ChangeShapes Go.WideShapes Go.ChangeAt Go.RowKit
set_option linter.unusedVariables false

theorem sizeU8 : ∀ w, (sizeOf 5).run Tryd.prog w = .ok 1 w := fun w => by kernel_rfl
theorem sizeS8 : ∀ w, (sizeOf 22).run Tryd.prog w = .ok 1 w := fun w => by kernel_rfl
def FbRel (ps : List (List Nat)) (part : Nat) (W : World) (s18 s19 : Value) (wr : World) : Prop := ∃ k e : Nat, s18 = .int .i64 (k : Int) ∧ s19 = .int .i64 (e : Int) ∧ Fm.CutI ps part k e ∧ Below W.heap.size W wr
set_option maxHeartbeats 4000000 in
set_option maxRecDepth 100000 in
theorem fback_walk (w : World) (hT : Tab w) (L : Option Addr) (lenL capL : Nat) (ps : List (List Nat)) (hlL : ps.length = lenL) (hrL : RowsB w w.heap.size L ps) (hlcL : lenL ≤ capL) (hcmL : capL ≤ maxLen) (c : Nat) (hc16 : c < 65536)
    (B : Option Addr) (lenB capB : Nat) (cs : List Nat) (hlB : cs.length = lenB) (h256B : ∀ b ∈ cs, b < 256) (hrB : Rd w w.heap.size B (u8s cs)) (hlcB : lenB ≤ capB) (hcmB : capB ≤ maxLen) (hnoneB : B = none → capB = 0) :
    Calls Tryd.prog 4 #[.slice L lenL capL, .int .u16 (c : Int), .slice B lenB capB] w (TrueP w) := by
  have cA := Lib.hid (awake3_any w hT)
  have hbyte := rows_byte hrL
  obtain ⟨hs1, hs2, hs3, hs4⟩ := scan_all h256B
  have hs5 := Fm.scan_len cs
  obtain ⟨⟨qs, s3, d3⟩, hsc⟩ : ∃ r, Fm.scan cs = r := ⟨_, rfl⟩
  rw [hsc] at hs1 hs2 hs3 hs4 hs5
  simp only at hs1 hs2 hs3 hs4 hs5
  rw [hlB] at hs3 hs5
  obtain ⟨dA, hdA⟩ : ∃ dA, allE ps = dA := ⟨_, rfl⟩
  obtain ⟨bA, hbA⟩ : ∃ bA, allB ps = bA := ⟨_, rfl⟩
  obtain ⟨kA, hkA⟩ : ∃ kA, bA.length = kA := ⟨_, rfl⟩
  have HT := Lib.hid hT; have HRL := Lib.hid hrL; have HRB := Lib.hid hrB; have HLL := Lib.hid hlL; have HLB := Lib.hid hlB
  have H256B := Lib.hid h256B; have HNB := Lib.hid hnoneB; have HBY := Lib.hid hbyte
  have HCL := Lib.hid (And.intro hlcL hcmL); have HCB := Lib.hid (And.intro hlcB hcmB)
  have HSC := Lib.hid hsc; have HS1 := Lib.hid hs1; have HS2 := Lib.hid hs2; have HS3 := Lib.hid hs3; have HS4 := Lib.hid hs4; have HS5 := Lib.hid hs5
  have HDA := Lib.hid hdA; have HBA := Lib.hid hbA; have HKA := Lib.hid hkA
  have HTK : Hid ((cs.take s3).length = s3) := Lib.hid (by rw [List.length_take]; omega)
  have HLEA : Hid (ps.length ≤ 20 → kA ≤ 164120) := Lib.hid (fun h => by have := allB_le ps; rw [HBA.out, HKA.out] at this; omega)
  clear hT hrL hrB hlL hlB h256B hnoneB hcmL hcmB hlcL hlcB hsc hs1 hs2 hs4 hs5 hdA hbA hkA hbyte
  go_enter Tryd.func4, Tryd.ntmps4
  go_wp2_with fail
  refine cA.out.mono ?_
  rintro e w1 ⟨rfl, hb⟩
  have B1 := Lib.hid hb; clear hb
  go_wp2_with fail
  refine (large3_any w1 L lenL capL ps ((HRL.out.below B1.out).more B1.out.size) HLL.out HCL.out.1 HCL.out.2).mono ?_
  rintro e w2 ⟨⟨lb, rfl, hfine⟩, hb⟩
  have B2 := Lib.hid (B1.out.trans (hb.mono B1.out.size)); have HFI := Lib.hid hfine; clear hb hfine
  cases lb
  · obtain ⟨h20, hsh⟩ := HFI.out rfl
    have HSH := Lib.hid hsh; clear hsh
    by_cases hlB9 : 9000 < lenB
    · have HP := Lib.hid (show TrueP w (.returned (.bool true)) w2 from ⟨rfl, B2.out⟩)
      clear hs3
      go_wp2
      go_ret
      exact HP.out
    have C2 := Lib.hid ((HRB.out.below B2.out).more B2.out.size); have L2 := Lib.hid (HRL.out.below B2.out |>.more B2.out.size)
    go_wp2_with fail
    refine (Scan_any w2 B lenB capB cs (HT.out.below B2.out) C2.out H256B.out HLB.out HCB.out.1 HCB.out.2 (by omega)).mono ?_
    rintro e w3 ⟨v, rfl, ⟨A3, c3, rfl, hm, hc3, hm3, -⟩, hb⟩
    rw [HSC.out] at hm hc3 ⊢
    simp only at hm hc3
    have B3 := Lib.hid (B2.out.trans (hb.mono B2.out.size))
    have C3 := Lib.hid ((C2.out.below hb).more hb.size)
    have L3 := Lib.hid ((L2.out.below hb).more hb.size)
    have S3 := Lib.hid hm; have HC3 := Lib.hid hc3; have HM3 := Lib.hid hm3
    clear hm hc3 hm3 hb
    go_wp2_with fail
    refine (All_any w3 A3 qs.length c3 qs (HT.out.below B3.out) S3.out rfl HC3.out HM3.out (by have := HS5.out; omega) (fun j p hp => by have := HS4.out p (List.mem_of_getElem? hp); omega)).mono ?_
    rintro e w4 ⟨v, rfl, hmd, hb⟩
    rw [HS1.out]
    rw [HS2.out, HTK.out] at hmd
    obtain ⟨A4, c4, rfl, hm, _, hc4, hmx, _, hnx⟩ := hmd
    have B4 := Lib.hid (B3.out.trans (hb.mono B3.out.size))
    have C4 := Lib.hid ((C3.out.below hb).more hb.size)
    have L4 := Lib.hid ((L3.out.below hb).more hb.size)
    have F4 := Lib.hid hm
    clear hm hnx hb hmx
    obtain ⟨AB, q1, q2, -⟩ := slice_h (P := Tryd.prog) 22 5 Tryd.underlying22 sizeU8 B lenB capB s3 (s3 : Int) rfl (by have := HCB.out.1; omega)
    have G4 := Lib.hid (q2 w4 w4.heap.size (u8s cs) (by simp [HLB.out]; omega) C4.out)
    clear q2
    have hs3' : (s3 : Int) ≤ (lenB : Int) := by omega
    go_wp2_with fail
    refine (same_at w4 A4 AB c4 capB (cs.take s3) (cs.take s3) _ _ s3 s3 true F4.out (by have := G4.out; rwa [show (u8s cs).take s3 = u8s (cs.take s3) by simp [u8s, List.map_take]] at this) (by rw [HTK.out]; unfold maxLen; omega) HTK.out HTK.out (by simp)).mono ?_
    rintro e w5 ⟨rfl, y, hy⟩
    have hb : Below w4.heap.size w4 w5 := by rw [hy]; exact below_drewN (Below.refl _ _) y
    clear hy q1
    have B5 := Lib.hid (B4.out.trans (hb.mono B4.out.size))
    have L5 := Lib.hid ((L4.out.below hb).more hb.size)
    clear hb hs3' G4 F4 C4
    go_wp2_with fail
    refine (All_any w5 L lenL capL ps (HT.out.below B5.out) L5.out HLL.out HCL.out.1 HCL.out.2 (by have := HLL.out; omega) (fun j p hp => by have := HSH.out j p hp; omega)).mono ?_
    rintro e w6 ⟨v, rfl, hmd, hb⟩
    rw [HBA.out, HKA.out] at hmd
    rw [HDA.out]
    obtain ⟨A6, c6, rfl, hm, _, hc6, hm6, _, hnx⟩ := hmd
    have B6 := Lib.hid (B5.out.trans (hb.mono B5.out.size))
    have L6 := Lib.hid ((L5.out.below hb).more hb.size)
    have F6 := Lib.hid hm
    clear hm hnx hb
    by_cases hd0 : dA = 0
    · have hfine := back_ok (HDA.out.trans hd0) HBY.out
      rw [HBA.out] at hfine
      obtain ⟨hok, hbA2⟩ := hfine
      have HOK := Lib.hid hok
      have HFR := Lib.hid hbA2.symm
      clear hok hbA2
      subst hd0
      have HKL := HLEA.out h20
      have HSF := Lib.hid (Fm.scan_frs ps HOK.out)
      have H256A : Hid (∀ b ∈ bA, b < 256) := Lib.hid (by
        rw [← HFR.out]
        intro b hb
        unfold frs at hb
        obtain ⟨p, hp, hb⟩ := List.mem_flatMap.1 hb
        exact Fm.fr_byte (HOK.out p hp).2 (by have := (HOK.out p hp).1; omega) b hb)
      have HCM6 := Lib.hid hm6; clear hm6
      go_wp2_with fail
      refine (Scan_any w6 A6 kA c6 bA (HT.out.below B6.out) F6.out H256A.out HKA.out hc6 HCM6.out (by omega)).mono ?_
      rintro e w7 ⟨v, rfl, ⟨A7, c7, rfl, hm, hc7, hm7, -⟩, hb⟩
      rw [← HFR.out, HSF.out] at hm hc7 ⊢
      simp only at hm hc7
      rw [HFR.out, HKA.out]
      have B7 := Lib.hid (B6.out.trans (hb.mono B6.out.size))
      have L7 := Lib.hid ((L6.out.below hb).more hb.size)
      have F7 := Lib.hid ((F6.out.below hb).more hb.size)
      have S7 := Lib.hid hm; have HC7 := Lib.hid hc7; have HM7 := Lib.hid hm7
      clear hm hc7 hm7 hb
      go_wp2_with fail
      refine (RSame_any w7 A7 L c7 capL ps.length lenL ps ps S7.out L7.out rfl HLL.out (by omega) HC7.out HCL.out.1 HM7.out HCL.out.2 true (by simp)).mono ?_
      rintro e w8 ⟨rfl, hb⟩
      have B8 := Lib.hid (B7.out.trans (hb.mono B7.out.size))
      have L8 := Lib.hid ((L7.out.below hb).more hb.size)
      have F8 := Lib.hid ((F7.out.below hb).more hb.size)
      clear hb S7 HC7 HM7
      obtain ⟨part, hpart⟩ : ∃ part : Nat, (c : Int) % ((kA : Int) + 1) = (part : Int) := ⟨c % (kA + 1), by simp⟩
      have hpk : part ≤ kA := by
        have h1 := Int.emod_lt_of_pos (c : Int) (show (0 : Int) < (kA : Int) + 1 by omega)
        rw [hpart] at h1
        omega
      go_wp2
      rw [hpart]
      clear hpart
      have B0 := Lib.hid (Below.refl w8.heap.size w8)
      go_loopw [18, 19] (fun s18 s19 wr => FbRel ps part w8 s18 s19 wr) (fun s18 _ _ => ps.length - (intOf s18).toNat)
      case atStart => exact ⟨0, 0, rfl, rfl, Fm.CutI.start _ _, B0.out⟩
      case round =>
        clear B0
        obtain ⟨k, e, rfl, rfl, hci, hbel⟩ := hrel
        have HB := Lib.hid hbel; have HCI := Lib.hid hci
        have hkl := hci.1
        have hep := hci.2.1
        clear hbel hci
        by_cases hlt : k < ps.length
        · obtain ⟨g, o, Ak, ck, p, rfl, hg, hp, d0, hrk, hkc, hkm, hkn, hk256⟩ := (L8.out.below HB.out).row hlt
          have hgw : g < wr.heap.size := World.block_lt_of_cell? _ _ d0
          have hltL : (k : Int) < (lenL : Int) := by have := HLL.out; omega
          obtain ⟨lp, hlp⟩ : ∃ lp, p.length = lp := ⟨_, rfl⟩
          obtain ⟨fl, hfl⟩ : ∃ fl, (Fm.fr p).length = fl := ⟨_, rfl⟩
          have hfl2 : ((Vm.enc lp).length : Int) + lp + 4 = (fl : Int) := by have := Fm.fr_length p; rw [hfl, hlp] at this; omega
          have hlp2 : lp ≤ 8192 := by have := (HOK.out p (List.mem_of_getElem? hp)).1; omega
          rw [hlp] at d0 hkc
          have cS := Lib.hid (fun w => FSize_at w Ak lp ck (fl : Int) (by omega) hfl2)
          have HP1 := Lib.hid hp; have HFL := Lib.hid hfl
          have hfl3 : fl ≤ 8206 := by have := Fm.fr_length p; rw [hfl, hlp] at this; have := Vm.enc_le lp; omega
          clear hp hfl hfl2 hlp hrk hk256 hkn
          by_cases hfit : e + fl ≤ part
          · have R := Lib.hid (show FbRel ps part w8 (.int .i64 ((k : Int) + 1)) (.int .i64 ((e : Int) + (fl : Int))) wr from ⟨k + 1, e + fl, by go_num, by go_num, by have := HCI.out.step HP1.out (by rw [HFL.out]; exact hfit); rwa [HFL.out] at this, HB.out⟩)
            have hfit' : (e : Int) + (fl : Int) ≤ (part : Int) := by omega
            go_wp2_with fail
            refine (cS.out _).mono ?_
            rintro e1 w' ⟨rfl, rfl⟩
            go_wp2_with fail
            refine (cS.out _).mono ?_
            rintro e1 w' ⟨rfl, rfl⟩
            go_wp2
            go_roundw
            case rel => exact R.out
            case measure => simp [intOf]; omega
          · have hfit' : (part : Int) < (e : Int) + (fl : Int) := by omega
            go_wp2_with fail
            refine (cS.out _).mono ?_
            rintro e1 w' ⟨rfl, rfl⟩
            have hcut := HCI.out.stop HP1.out (by rw [HFL.out]; omega)
            obtain ⟨k1, k2, k3⟩ := Fm.scan_cut ps part HOK.out (by rw [HFR.out, HKA.out]; exact hpk)
            rw [hcut] at k1 k2 k3
            simp only at k1 k2 k3
            rw [HFR.out] at k1 k2 k3
            obtain ⟨⟨q9, s9, d9⟩, hsc9⟩ : ∃ r, Fm.scan (bA.take part) = r := ⟨_, rfl⟩
            rw [hsc9] at k1 k2 k3
            simp only at k1 k2 k3
            subst k1 k2
            have HSC9 := Lib.hid hsc9
            have hlk : Hid ((ps.take k).length = k) := Lib.hid (by rw [List.length_take]; omega)
            have F9 := Lib.hid ((F8.out.below HB.out).more HB.out.size)
            have L9 := Lib.hid ((L8.out.below HB.out).more HB.out.size)
            have B9 := Lib.hid (B8.out.trans (HB.out.mono B8.out.size))
            have HK3 := Lib.hid k3
            obtain ⟨AP, q1, q2, -⟩ := slice_h (P := Tryd.prog) 22 5 Tryd.underlying22 sizeU8 A6 kA c6 part (part : Int) rfl (by omega)
            have P9 := Lib.hid (q2 wr wr.heap.size (u8s bA) (by simp [HKA.out]; omega) F9.out)
            have hpk' : (part : Int) ≤ (kA : Int) := by omega
            clear hcut hsc9 k3 q2 F9 HB HCI
            go_wp2_with fail
            refine (Scan_any wr AP part c6 (bA.take part) (HT.out.below B9.out) (by have := P9.out; rwa [show (u8s bA).take part = u8s (bA.take part) by simp [u8s, List.map_take]] at this) (fun b hb => H256A.out b (List.mem_of_mem_take hb)) (by rw [List.length_take, HKA.out]; omega) (by omega) HCM6.out (by omega)).mono ?_
            rintro e w9 ⟨v, rfl, ⟨A9, c9, rfl, hm, hc9, hm9, -⟩, hb⟩
            rw [HSC9.out] at hm hc9 ⊢
            simp only at hm hc9 ⊢
            rw [hlk.out] at hc9 ⊢
            have B10 := Lib.hid (B9.out.trans (hb.mono B9.out.size))
            have L10 := Lib.hid ((L9.out.below hb).more hb.size)
            have S10 := Lib.hid hm; have HC10 := Lib.hid hc9; have HM10 := Lib.hid hm9
            clear hm hc9 hm9 hb q1
            obtain ⟨AL, q3, q4, -⟩ := slice_h (P := Tryd.prog) 23 22 Tryd.underlying23 sizeS8 (some ⟨g, o, none⟩) lenL capL k (k : Int) rfl (by have := HCL.out.1; have := HLL.out; omega)
            have X10 := Lib.hid (rows_take L10.out k (q4 _ _) (by omega))
            have hkk : (k : Int) ≤ (lenL : Int) := by have := HLL.out; omega
            clear q4
            go_wp2_with fail
            refine (RSame_any w9 A9 AL c9 capL k k (ps.take k) (ps.take k) S10.out X10.out hlk.out hlk.out (by omega) HC10.out (by have := HCL.out.1; have := HLL.out; omega) HM10.out HCL.out.2 true (by simp)).mono ?_
            rintro e w10 ⟨rfl, hb⟩
            have HP := Lib.hid (show TrueP w (.returned (.bool true)) w10 from ⟨rfl, B10.out.trans (hb.mono B10.out.size)⟩)
            clear hb q3 hkk hpk'
            by_cases hd9 : d9 = 0
            · have hse : s9 = part := HK3.out.1 hd9
              subst hd9 hse
              go_wp2
              go_ret
              exact HP.out
            · have hne : s9 ≠ part := fun h => hd9 (HK3.out.2 h)
              have h1 : ((d9 : Int) == 0) = false := by simp; omega
              have h2 : ((s9 : Int) == (part : Int)) = false := by simp; omega
              have h3 : decide (d9 = 0) = false := by simp; omega
              have h4 : decide (s9 = part) = false := by simp; omega
              go_wp2
              go_ret
              exact HP.out
        · have hkl2 : (lenL : Int) ≤ (k : Int) := by have := HLL.out; omega
          have HKE := Lib.hid (show ps.length ≤ k by omega)
          clear hlt
          have hcut := HCI.out.fin HKE.out
          obtain ⟨k1, k2, k3⟩ := Fm.scan_cut ps part HOK.out (by rw [HFR.out, HKA.out]; exact hpk)
          rw [hcut] at k1 k2 k3
          simp only at k1 k2 k3
          rw [HFR.out] at k1 k2 k3
          obtain ⟨⟨q9, s9, d9⟩, hsc9⟩ : ∃ r, Fm.scan (bA.take part) = r := ⟨_, rfl⟩
          rw [hsc9] at k1 k2 k3
          simp only at k1 k2 k3
          subst k1 k2
          have HSC9 := Lib.hid hsc9
          have hlk : Hid ((ps.take k).length = k) := Lib.hid (by rw [List.length_take]; omega)
          have F9 := Lib.hid ((F8.out.below HB.out).more HB.out.size)
          have L9 := Lib.hid ((L8.out.below HB.out).more HB.out.size)
          have B9 := Lib.hid (B8.out.trans (HB.out.mono B8.out.size))
          have HK3 := Lib.hid k3
          obtain ⟨AP, q1, q2, -⟩ := slice_h (P := Tryd.prog) 22 5 Tryd.underlying22 sizeU8 A6 kA c6 part (part : Int) rfl (by omega)
          have P9 := Lib.hid (q2 wr wr.heap.size (u8s bA) (by simp [HKA.out]; omega) F9.out)
          have hpk' : (part : Int) ≤ (kA : Int) := by omega
          clear hcut hsc9 k3 q2 F9 HB HCI
          go_wp2_with fail
          refine (Scan_any wr AP part c6 (bA.take part) (HT.out.below B9.out) (by have := P9.out; rwa [show (u8s bA).take part = u8s (bA.take part) by simp [u8s, List.map_take]] at this) (fun b hb => H256A.out b (List.mem_of_mem_take hb)) (by rw [List.length_take, HKA.out]; omega) (by omega) HCM6.out (by omega)).mono ?_
          rintro e w9 ⟨v, rfl, ⟨A9, c9, rfl, hm, hc9, hm9, -⟩, hb⟩
          rw [HSC9.out] at hm hc9 ⊢
          simp only at hm hc9 ⊢
          rw [hlk.out] at hc9 ⊢
          have B10 := Lib.hid (B9.out.trans (hb.mono B9.out.size))
          have L10 := Lib.hid ((L9.out.below hb).more hb.size)
          have S10 := Lib.hid hm; have HC10 := Lib.hid hc9; have HM10 := Lib.hid hm9
          clear hm hc9 hm9 hb q1
          obtain ⟨AL, q3, q4, -⟩ := slice_h (P := Tryd.prog) 23 22 Tryd.underlying23 sizeS8 L lenL capL k (k : Int) rfl (by have := HCL.out.1; have := HLL.out; omega)
          have X10 := Lib.hid (rows_take L10.out k (q4 _ _) (by omega))
          have hkk : (k : Int) ≤ (lenL : Int) := by have := HLL.out; omega
          clear q4
          go_wp2_with fail
          refine (RSame_any w9 A9 AL c9 capL k k (ps.take k) (ps.take k) S10.out X10.out hlk.out hlk.out (by omega) HC10.out (by have := HCL.out.1; have := HLL.out; omega) HM10.out HCL.out.2 true (by simp)).mono ?_
          rintro e w10 ⟨rfl, hb⟩
          have HP := Lib.hid (show TrueP w (.returned (.bool true)) w10 from ⟨rfl, B10.out.trans (hb.mono B10.out.size)⟩)
          clear hb q3 hkk hpk'
          by_cases hd9 : d9 = 0
          · have hse : s9 = part := HK3.out.1 hd9
            subst hd9 hse
            go_wp2
            go_ret
            exact HP.out
          · have hne : s9 ≠ part := fun h => hd9 (HK3.out.2 h)
            have h1 : ((d9 : Int) == 0) = false := by simp; omega
            have h2 : ((s9 : Int) == (part : Int)) = false := by simp; omega
            have h3 : decide (d9 = 0) = false := by simp; omega
            have h4 : decide (s9 = part) = false := by simp; omega
            go_wp2
            go_ret
            exact HP.out
    · obtain ⟨h4, hbz⟩ := back_no (ps := ps) (by rw [HDA.out]; exact hd0)
      rw [HDA.out] at h4
      rw [HBA.out] at hbz
      have hk0 := HKA.out
      rw [hbz] at hk0
      simp at hk0
      subst h4 hk0
      have HP := Lib.hid (show TrueP w (.returned (.bool true)) w6 from ⟨rfl, B6.out⟩)
      clear hbz hd0 hm6 hc6 F6 HKA HBA HDA
      go_wp2
      go_ret
      exact HP.out
  · have HP := Lib.hid (show TrueP w (.returned (.bool true)) w2 from ⟨rfl, B2.out⟩)
    clear hs3
    go_wp2
    go_ret
    exact HP.out
end Go.Proofs.YtignfhdblakcfaaDoor
