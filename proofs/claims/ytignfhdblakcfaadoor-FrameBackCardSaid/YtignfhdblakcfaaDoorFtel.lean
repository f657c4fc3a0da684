/- law 3's FrameTells: the walk. -/
import Derived.Test.YtignfhdblakcfaaDoorLg3
import Derived.Test.YtignfhdblakcfaaDoorRsc
namespace Go.Proofs.YtignfhdblakcfaaDoor
open Go.ChangeShapes Go.WideShapes Go.ChangeAt Go.RowKit
set_option linter.unusedVariables false

theorem Fm.scanF_len : ∀ (f : Nat) (b : List Nat), (Fm.scanF f b).1.length ≤ f
  | 0, b => by simp [Fm.scanF]
  | f + 1, b => by
    unfold Fm.scanF
    split
    · simp
    · split
      · simp
      · simp only [List.length_cons]
        have := Fm.scanF_len f (b.drop (Fm.next b).2.1)
        omega
theorem Fm.scan_len (b : List Nat) : (Fm.scan b).1.length ≤ b.length := Fm.scanF_len _ _
theorem frs_le : ∀ (ps : List (List Nat)), (∀ p ∈ ps, p.length ≤ 8192) → (frs ps).length ≤ 8206 * ps.length
  | [], _ => by simp [frs]
  | p :: r, h => by
    have h1 := frs_le r (fun q hq => h q (List.mem_cons_of_mem _ hq))
    have h2 := Fm.fr_length p
    have h3 := Vm.enc_le p.length
    have h4 := h p (by simp)
    have e : frs (p :: r) = Fm.fr p ++ frs r := rfl
    rw [e, List.length_append, List.length_cons]
    omega
theorem allB_le (ps : List (List Nat)) : (allB ps).length ≤ 8206 * ps.length := by
  unfold allB
  split
  · next h => exact frs_le ps h
  · simp
/-- what Wrap answers, of any length -/
theorem Wrap_all (w : World) (A : Option Addr) (len cap : Nat) (bs : List Nat) (hT : Tab w) (hr : Rd w w.heap.size A (u8s bs)) (h256 : ∀ b ∈ bs, b < 256) (hn : bs.length = len) (hl : len ≤ 9000) (hnone : A = none → cap = 0) (ts : List Nat) (k d : Nat) (ht : (if len ≤ 8192 then Fm.fr bs else []) = ts) (hk : ts.length = k) (hd : (if len ≤ 8192 then 0 else 4) = d) :
    Calls Tryd.prog 8 #[.slice A len cap] w fun e w' => ∃ v, e = .returned (.tuple #[v, .int .i64 (d : Int)]) ∧ Made w' v ts k ∧ Below w.heap.size w w' := by
  by_cases h : len ≤ 8192
  · rw [if_pos h] at ht hd
    subst hd
    exact Wrap_at w A len cap bs hT hr h256 hn h hnone ts k ht hk
  · rw [if_neg h] at ht hd
    subst ht hd hk
    refine (Wrap_no_at w A len cap (by omega) (by omega)).mono ?_
    rintro e w' ⟨rfl, rfl⟩
    exact ⟨_, rfl, made_nil _, Below.refl _ _⟩
theorem RWrap_all (w : World) (A : Option Addr) (len cap : Nat) (bs : List Nat) (hr : Rd w w.heap.size A (u8s bs)) (h256 : ∀ b ∈ bs, b < 256) (hn : bs.length = len) (hl : len ≤ 9000) (hnone : A = none → cap = 0) (ts : List Nat) (k d : Nat) (ht : (if len ≤ 8192 then Fm.fr bs else []) = ts) (hk : ts.length = k) (hd : (if len ≤ 8192 then 0 else 4) = d) :
    Calls Tryd.prog 9 #[.slice A len cap] w fun e w' => ∃ v, e = .returned (.tuple #[v, .int .i64 (d : Int)]) ∧ Made w' v ts k ∧ Below w.heap.size w w' := by
  by_cases h : len ≤ 8192
  · rw [if_pos h] at ht hd
    subst hd
    exact RWrap_at w A len cap bs hr h256 hn h hnone ts k ht hk
  · rw [if_neg h] at ht hd
    subst ht hd hk
    refine (RWrap_no_at w A len cap (by omega) (by omega)).mono ?_
    rintro e w' ⟨rfl, rfl⟩
    exact ⟨_, rfl, made_nil _, Below.refl _ _⟩
set_option maxHeartbeats 4000000 in
set_option maxRecDepth 100000 in
theorem ftells_walk (w : World) (hT : Tab w) (A : Option Addr) (len cap : Nat) (bs : List Nat) (hl : bs.length = len) (h256 : ∀ b ∈ bs, b < 256) (hr : Rd w w.heap.size A (u8s bs)) (hlc : len ≤ cap) (hcm : cap ≤ maxLen) (hnone : A = none → cap = 0)
    (L : Option Addr) (lenL capL : Nat) (ps : List (List Nat)) (hlL : ps.length = lenL) (hrL : RowsB w w.heap.size L ps) (hlcL : lenL ≤ capL) (hcmL : capL ≤ maxLen)
    (B : Option Addr) (lenB capB : Nat) (cs : List Nat) (hlB : cs.length = lenB) (h256B : ∀ b ∈ cs, b < 256) (hrB : Rd w w.heap.size B (u8s cs)) (hlcB : lenB ≤ capB) (hcmB : capB ≤ maxLen) (hnoneB : B = none → capB = 0) :
    Calls Tryd.prog 3 #[.slice A len cap, .slice L lenL capL, .slice B lenB capB] w (TrueP w) := by
  have cA := Lib.hid (awake3_any w hT)
  have HT := Lib.hid hT; have HR := Lib.hid hr; have HRL := Lib.hid hrL; have HRB := Lib.hid hrB; have HL := Lib.hid hl; have HLL := Lib.hid hlL; have HLB := Lib.hid hlB
  have H256 := Lib.hid h256; have H256B := Lib.hid h256B; have HN := Lib.hid hnone; have HNB := Lib.hid hnoneB
  have HC := Lib.hid (And.intro hlc hcm); have HCL := Lib.hid (And.intro hlcL hcmL); have HCB := Lib.hid (And.intro hlcB hcmB)
  clear hT hr hrL hrB hl hlL hlB h256 h256B hnone hnoneB hcm hcmL hcmB hlc hlcL hlcB
  by_cases hlong : 9000 < len
  · go_enter Tryd.func3, Tryd.ntmps3
    go_wp2_with fail
    refine cA.out.mono ?_
    rintro e w1 ⟨rfl, hb1⟩
    go_wp2
    go_ret
    exact ⟨rfl, hb1⟩
  obtain ⟨ts, hts⟩ : ∃ ts, (if len ≤ 8192 then Fm.fr bs else []) = ts := ⟨_, rfl⟩
  obtain ⟨k, hk⟩ : ∃ k, ts.length = k := ⟨_, rfl⟩
  obtain ⟨d, hd⟩ : ∃ d : Nat, (if len ≤ 8192 then 0 else 4) = d := ⟨_, rfl⟩
  have hk2 : k ≤ 9014 := by
    rw [← hk, ← hts]
    split
    · have h1 := Fm.fr_length bs
      have h2 := Vm.enc_le bs.length
      rw [HL.out] at h1 h2
      omega
    · simp
  obtain ⟨⟨q, s, d2⟩, hq⟩ : ∃ r, Fm.next cs = r := ⟨_, rfl⟩
  obtain ⟨lq, hlq⟩ : ∃ lq, q.length = lq := ⟨_, rfl⟩
  obtain ⟨⟨qs, s3, d3⟩, hsc⟩ : ∃ r, Fm.scan cs = r := ⟨_, rfl⟩
  obtain ⟨el, hel⟩ : ∃ el, el = (Vm.enc len).length := ⟨_, rfl⟩
  obtain ⟨dA, hdA⟩ : ∃ dA, allE ps = dA := ⟨_, rfl⟩
  obtain ⟨bA, hbA⟩ : ∃ bA, allB ps = bA := ⟨_, rfl⟩
  obtain ⟨kA, hkA⟩ : ∃ kA, bA.length = kA := ⟨_, rfl⟩
  have HTS := Lib.hid hts; have HK := Lib.hid hk; have HD := Lib.hid hd; have HQ := Lib.hid hq; have HLQ := Lib.hid hlq; have HSC := Lib.hid hsc; have HEL := Lib.hid hel
  have HDA := Lib.hid hdA; have HBA := Lib.hid hbA; have HKA := Lib.hid hkA
  clear hts hk hd hq hlq hsc hel hdA hbA hkA
  have HLEQ : Hid (lq ≤ lenB) := Lib.hid (by have := (Fm.next_le cs).2; rw [HQ.out] at this; simp only at this; have h1 := HLQ.out; have h2 := HLB.out; omega)
  have HLES : Hid (lenB ≤ 9000 → qs.length ≤ 9000) := Lib.hid (fun h => by have := Fm.scan_len cs; rw [HSC.out] at this; simp only at this; have h2 := HLB.out; omega)
  have HLEA : Hid (ps.length ≤ 20 → kA ≤ 164120) := Lib.hid (fun h => by have := allB_le ps; rw [HBA.out, HKA.out] at this; omega)
  have hel10 : el ≤ 10 := by rw [HEL.out]; exact Vm.enc_le _
  go_enter Tryd.func3, Tryd.ntmps3
  go_wp2_with fail
  refine cA.out.mono ?_
  rintro e w1 ⟨rfl, hb⟩
  have B1 := Lib.hid hb; clear hb
  go_wp2_with fail
  refine (large3_any w1 L lenL capL ps ((HRL.out.below B1.out).more B1.out.size) HLL.out HCL.out.1 HCL.out.2).mono ?_
  rintro e w2 ⟨⟨lb, rfl, hfine⟩, hb⟩
  have B2 := Lib.hid (B1.out.trans (hb.mono B1.out.size)); have HFI := Lib.hid hfine; clear hb hfine
  cases lb
  · obtain ⟨h20, hsh⟩ := HFI.out rfl
    have HSH := Lib.hid hsh; clear hsh
    by_cases hlB9 : 9000 < lenB
    · have HP := Lib.hid (show TrueP w (.returned (.bool true)) w2 from ⟨rfl, B2.out⟩)
      go_wp2
      go_ret
      exact HP.out
    have P2 := Lib.hid ((HR.out.below B2.out).more B2.out.size); have C2 := Lib.hid ((HRB.out.below B2.out).more B2.out.size); have L2 := Lib.hid (HRL.out.below B2.out |>.more B2.out.size)
    go_wp2_with fail
    refine (Wrap_all w2 A len cap bs (HT.out.below B2.out) P2.out H256.out HL.out (by omega) HN.out ts k d HTS.out HK.out HD.out).mono ?_
    rintro e w3 ⟨v, rfl, ⟨A3, c3, rfl, hm, _, hc, hmx, _, hnx⟩, hb⟩
    have B3 := Lib.hid (B2.out.trans (hb.mono B2.out.size))
    have P3 := Lib.hid ((P2.out.below hb).more hb.size)
    have C3 := Lib.hid ((C2.out.below hb).more hb.size)
    have L3 := Lib.hid ((L2.out.below hb).more hb.size)
    have F3 := Lib.hid hm
    clear hm hnx
    clear hb
    go_wp2_with fail
    refine (RWrap_all w3 A len cap bs P3.out H256.out HL.out (by omega) HN.out ts k d HTS.out HK.out HD.out).mono ?_
    rintro e w4 ⟨v, rfl, ⟨A4, c4, rfl, hm, _, hc, hmx, _, hnx⟩, hb⟩
    have B4 := Lib.hid (B3.out.trans (hb.mono B3.out.size))
    have P4 := Lib.hid ((P3.out.below hb).more hb.size)
    have C4 := Lib.hid ((C3.out.below hb).more hb.size)
    have L4 := Lib.hid ((L3.out.below hb).more hb.size)
    have F4 := Lib.hid ((F3.out.below hb).more hb.size)
    have G4 := Lib.hid hm
    clear hm hnx
    clear hb
    go_wp2_with fail
    refine (Next_at w4 B lenB capB cs (HT.out.below B4.out) C4.out H256B.out HLB.out HCB.out.1 HCB.out.2 (by omega) q s d2 lq HQ.out HLQ.out).mono ?_
    rintro e w5 ⟨v, rfl, ⟨A5, c5, rfl, hm, _, hc, hmx, _, hnx⟩, hb⟩
    have B5 := Lib.hid (B4.out.trans (hb.mono B4.out.size))
    have P5 := Lib.hid ((P4.out.below hb).more hb.size)
    have C5 := Lib.hid ((C4.out.below hb).more hb.size)
    have L5 := Lib.hid ((L4.out.below hb).more hb.size)
    have F5 := Lib.hid ((F4.out.below hb).more hb.size)
    have G5 := Lib.hid ((G4.out.below hb).more hb.size)
    have Q5 := Lib.hid hm
    clear hm hnx
    clear hb
    go_wp2_with fail
    refine (RNext_at w5 B lenB capB cs C5.out H256B.out HLB.out HCB.out.1 HCB.out.2 (by omega) q s d2 lq HQ.out HLQ.out).mono ?_
    rintro e w6 ⟨v, rfl, ⟨A6, c6, rfl, hm, _, hc, hmx, _, hnx⟩, hb, -⟩
    have B6 := Lib.hid (B5.out.trans (hb.mono B5.out.size))
    have P6 := Lib.hid ((P5.out.below hb).more hb.size)
    have C6 := Lib.hid ((C5.out.below hb).more hb.size)
    have L6 := Lib.hid ((L5.out.below hb).more hb.size)
    have F6 := Lib.hid ((F5.out.below hb).more hb.size)
    have G6 := Lib.hid ((G5.out.below hb).more hb.size)
    have Q6 := Lib.hid ((Q5.out.below hb).more hb.size)
    have R6 := Lib.hid hm
    clear hm hnx
    clear hb
    go_wp2_with fail
    refine (Scan_any w6 B lenB capB cs (HT.out.below B6.out) C6.out H256B.out HLB.out HCB.out.1 HCB.out.2 (by omega)).mono ?_
    rintro e w7 ⟨v, rfl, ⟨A7, c7, rfl, hm, hc7, hm7, -⟩, hb⟩
    rw [HSC.out] at hm hc7 ⊢
    simp only at hm hc7
    have B7 := Lib.hid (B6.out.trans (hb.mono B6.out.size))
    have P7 := Lib.hid ((P6.out.below hb).more hb.size)
    have C7 := Lib.hid ((C6.out.below hb).more hb.size)
    have L7 := Lib.hid ((L6.out.below hb).more hb.size)
    have F7 := Lib.hid ((F6.out.below hb).more hb.size)
    have G7 := Lib.hid ((G6.out.below hb).more hb.size)
    have Q7 := Lib.hid ((Q6.out.below hb).more hb.size)
    have R7 := Lib.hid ((R6.out.below hb).more hb.size)
    have S7 := Lib.hid hm; have HC7 := Lib.hid hc7; have HM7 := Lib.hid hm7
    clear hm hc7 hm7
    clear hb
    go_wp2_with fail
    refine (RScan_any w7 B lenB capB cs C7.out H256B.out HLB.out HCB.out.1 HCB.out.2 (by omega)).mono ?_
    rintro e w8 ⟨v, rfl, ⟨A8, c8, rfl, hm, hc8, hm8, -⟩, hb⟩
    rw [HSC.out] at hm hc8 ⊢
    simp only at hm hc8
    have B8 := Lib.hid (B7.out.trans (hb.mono B7.out.size))
    have P8 := Lib.hid ((P7.out.below hb).more hb.size)
    have C8 := Lib.hid ((C7.out.below hb).more hb.size)
    have L8 := Lib.hid ((L7.out.below hb).more hb.size)
    have F8 := Lib.hid ((F7.out.below hb).more hb.size)
    have G8 := Lib.hid ((G7.out.below hb).more hb.size)
    have Q8 := Lib.hid ((Q7.out.below hb).more hb.size)
    have R8 := Lib.hid ((R7.out.below hb).more hb.size)
    have S8 := Lib.hid ((S7.out.below hb).more hb.size)
    have T8 := Lib.hid hm; have HC8 := Lib.hid hc8; have HM8 := Lib.hid hm8
    clear hm hc8 hm8
    clear hb
    go_wp2_with fail
    refine (All_any w8 L lenL capL ps (HT.out.below B8.out) L8.out HLL.out HCL.out.1 HCL.out.2 (by have := HLL.out; omega) (fun j p hp => by have := HSH.out j p hp; omega)).mono ?_
    rintro e w9 ⟨v, rfl, hmd, hb⟩
    rw [HBA.out, HKA.out] at hmd
    rw [HDA.out]
    obtain ⟨A9, c9, rfl, hm, _, hc, hmx, _, hnx⟩ := hmd
    have B9 := Lib.hid (B8.out.trans (hb.mono B8.out.size))
    have P9 := Lib.hid ((P8.out.below hb).more hb.size)
    have C9 := Lib.hid ((C8.out.below hb).more hb.size)
    have L9 := Lib.hid ((L8.out.below hb).more hb.size)
    have F9 := Lib.hid ((F8.out.below hb).more hb.size)
    have G9 := Lib.hid ((G8.out.below hb).more hb.size)
    have Q9 := Lib.hid ((Q8.out.below hb).more hb.size)
    have R9 := Lib.hid ((R8.out.below hb).more hb.size)
    have S9 := Lib.hid ((S8.out.below hb).more hb.size)
    have T9 := Lib.hid ((T8.out.below hb).more hb.size)
    have X9 := Lib.hid hm
    clear hm hnx
    clear hb
    go_wp2_with fail
    refine (RAll_any w9 L lenL capL ps L9.out HLL.out HCL.out.1 HCL.out.2 (by have := HLL.out; omega) (fun j p hp => by have := HSH.out j p hp; omega)).mono ?_
    rintro e w10 ⟨v, rfl, hmd, hb⟩
    rw [HBA.out, HKA.out] at hmd
    rw [HDA.out]
    obtain ⟨A10, c10, rfl, hm, _, hc, hmx, _, hnx⟩ := hmd
    have B10 := Lib.hid (B9.out.trans (hb.mono B9.out.size))
    have P10 := Lib.hid ((P9.out.below hb).more hb.size)
    have C10 := Lib.hid ((C9.out.below hb).more hb.size)
    have L10 := Lib.hid ((L9.out.below hb).more hb.size)
    have F10 := Lib.hid ((F9.out.below hb).more hb.size)
    have G10 := Lib.hid ((G9.out.below hb).more hb.size)
    have Q10 := Lib.hid ((Q9.out.below hb).more hb.size)
    have R10 := Lib.hid ((R9.out.below hb).more hb.size)
    have S10 := Lib.hid ((S9.out.below hb).more hb.size)
    have T10 := Lib.hid ((T9.out.below hb).more hb.size)
    have X10 := Lib.hid ((X9.out.below hb).more hb.size)
    have Y10 := Lib.hid hm
    clear hm hnx
    clear hb
    go_wp2_with fail
    refine (same_at w10 A3 A4 c3 c4 ts ts _ _ k k true F10.out G10.out (by rw [HK.out]; unfold maxLen; omega) HK.out HK.out (by simp)).mono ?_
    rintro e w11 ⟨rfl, y, hy⟩
    have hb : Below w10.heap.size w10 w11 := by rw [hy]; exact below_drewN (Below.refl _ _) y
    clear hy
    have B11 := Lib.hid (B10.out.trans (hb.mono B10.out.size))
    have P11 := Lib.hid ((P10.out.below hb).more hb.size)
    have C11 := Lib.hid ((C10.out.below hb).more hb.size)
    have L11 := Lib.hid ((L10.out.below hb).more hb.size)
    have F11 := Lib.hid ((F10.out.below hb).more hb.size)
    have G11 := Lib.hid ((G10.out.below hb).more hb.size)
    have Q11 := Lib.hid ((Q10.out.below hb).more hb.size)
    have R11 := Lib.hid ((R10.out.below hb).more hb.size)
    have S11 := Lib.hid ((S10.out.below hb).more hb.size)
    have T11 := Lib.hid ((T10.out.below hb).more hb.size)
    have X11 := Lib.hid ((X10.out.below hb).more hb.size)
    have Y11 := Lib.hid ((Y10.out.below hb).more hb.size)
    clear hb
    go_wp2_with fail
    refine (same_at w11 A5 A6 c5 c6 q q _ _ lq lq true Q11.out R11.out (by rw [HLQ.out]; unfold maxLen; have := HLEQ.out; omega) HLQ.out HLQ.out (by simp)).mono ?_
    rintro e w12 ⟨rfl, y, hy⟩
    have hb : Below w11.heap.size w11 w12 := by rw [hy]; exact below_drewN (Below.refl _ _) y
    clear hy
    have B12 := Lib.hid (B11.out.trans (hb.mono B11.out.size))
    have P12 := Lib.hid ((P11.out.below hb).more hb.size)
    have C12 := Lib.hid ((C11.out.below hb).more hb.size)
    have L12 := Lib.hid ((L11.out.below hb).more hb.size)
    have F12 := Lib.hid ((F11.out.below hb).more hb.size)
    have G12 := Lib.hid ((G11.out.below hb).more hb.size)
    have Q12 := Lib.hid ((Q11.out.below hb).more hb.size)
    have R12 := Lib.hid ((R11.out.below hb).more hb.size)
    have S12 := Lib.hid ((S11.out.below hb).more hb.size)
    have T12 := Lib.hid ((T11.out.below hb).more hb.size)
    have X12 := Lib.hid ((X11.out.below hb).more hb.size)
    have Y12 := Lib.hid ((Y11.out.below hb).more hb.size)
    clear hb
    go_wp2_with fail
    refine (RSame_any w12 A7 A8 c7 c8 _ _ qs qs S12.out T12.out rfl rfl (by have := HLES.out (by omega); omega) HC7.out HC8.out HM7.out HM8.out true (by simp)).mono ?_
    rintro e w13 ⟨rfl, hb⟩
    have B13 := Lib.hid (B12.out.trans (hb.mono B12.out.size))
    have P13 := Lib.hid ((P12.out.below hb).more hb.size)
    have C13 := Lib.hid ((C12.out.below hb).more hb.size)
    have L13 := Lib.hid ((L12.out.below hb).more hb.size)
    have F13 := Lib.hid ((F12.out.below hb).more hb.size)
    have G13 := Lib.hid ((G12.out.below hb).more hb.size)
    have Q13 := Lib.hid ((Q12.out.below hb).more hb.size)
    have R13 := Lib.hid ((R12.out.below hb).more hb.size)
    have S13 := Lib.hid ((S12.out.below hb).more hb.size)
    have T13 := Lib.hid ((T12.out.below hb).more hb.size)
    have X13 := Lib.hid ((X12.out.below hb).more hb.size)
    have Y13 := Lib.hid ((Y12.out.below hb).more hb.size)
    clear hb
    go_wp2_with fail
    refine (same_at w13 A9 A10 c9 c10 bA bA _ _ kA kA true X13.out Y13.out (by rw [HKA.out]; have := HLEA.out h20; unfold maxLen; omega) HKA.out HKA.out (by simp)).mono ?_
    rintro e w14 ⟨rfl, y, hy⟩
    have hb : Below w13.heap.size w13 w14 := by rw [hy]; exact below_drewN (Below.refl _ _) y
    clear hy
    have B14 := Lib.hid (B13.out.trans (hb.mono B13.out.size))
    have P14 := Lib.hid ((P13.out.below hb).more hb.size)
    have C14 := Lib.hid ((C13.out.below hb).more hb.size)
    have L14 := Lib.hid ((L13.out.below hb).more hb.size)
    have F14 := Lib.hid ((F13.out.below hb).more hb.size)
    have G14 := Lib.hid ((G13.out.below hb).more hb.size)
    have Q14 := Lib.hid ((Q13.out.below hb).more hb.size)
    have R14 := Lib.hid ((R13.out.below hb).more hb.size)
    have S14 := Lib.hid ((S13.out.below hb).more hb.size)
    have T14 := Lib.hid ((T13.out.below hb).more hb.size)
    have X14 := Lib.hid ((X13.out.below hb).more hb.size)
    have Y14 := Lib.hid ((Y13.out.below hb).more hb.size)
    clear hb
    go_wp2_with fail
    refine (FSize_at w14 A len cap ((el : Int) + (len : Int) + 4) (by omega) (by rw [← HEL.out])).mono ?_
    rintro e w' ⟨rfl, rfl⟩
    go_wp2_with fail
    refine (RPut_at w14 (len : Int) _ el (by omega) (by omega) rfl (by rw [HEL.out]; simp)).mono ?_
    rintro e w15 ⟨v, rfl, ⟨A15, c15, rfl, -, -, -, -, -, -⟩, hb⟩
    have HP := Lib.hid (show TrueP w (.returned (.bool true)) w15 from ⟨rfl, B14.out.trans (hb.mono B14.out.size)⟩)
    clear hb
    go_wp2
    go_ret
    exact HP.out
  · have HP := Lib.hid (show TrueP w (.returned (.bool true)) w2 from ⟨rfl, B2.out⟩)
    go_wp2
    go_ret
    exact HP.out
end Go.Proofs.YtignfhdblakcfaaDoor
