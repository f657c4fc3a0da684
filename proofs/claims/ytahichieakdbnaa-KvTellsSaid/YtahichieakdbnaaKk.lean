/- law 16's KvBack: the walk. -/
import Derived.Test.YtahichieakdbnaaKj
namespace Go.Proofs.Ytahichieakdbnaa
open Go.ChangeShapes Go.WideShapes Go.ChangeAt Go.RowKit Go.Maps
set_option linter.unusedVariables false
set_option linter.unusedSimpArgs false

/-- the two stores, and the one that came back -/
def KB3 (w : World) (g1 : Nat) (S1 : Nat → Prop) (st : St) (g2 : Nat) (S2 : Nat → Prop) (tt : St) (g3 : Nat) (S3 : Nat → Prop) : Prop := StoreM w g1 S1 st.length st ∧ StoreM w g2 S2 tt.length tt ∧ StoreM w g3 S3 st.length st
theorem KB3.below {w w' : World} {g1 : Nat} {S1 : Nat → Prop} {st : St} {g2 : Nat} {S2 : Nat → Prop} {tt : St} {g3 : Nat} {S3 : Nat → Prop} (h : KB3 w g1 S1 st g2 S2 tt g3 S3) (hb : Below w.heap.size w w') : KB3 w' g1 S1 st g2 S2 tt g3 S3 := ⟨h.1.below hb, h.2.1.below hb, h.2.2.below hb⟩
theorem Made.stepB {w w' : World} {v : Value} {bs : List Nat} {k : Nat} (h : Made w v bs k) (hb : Below w.heap.size w w') : Made w' v bs k := (MadeO.below (S := fun _ => False) ⟨h, fun _ _ _ _ _ _ h => h⟩ hb).1
theorem Made.rdK {w : World} {A : Option Addr} {n c : Nat} {bs : List Nat} {k : Nat} (h : Made w (.slice A n c) bs k) : Rd w w.heap.size A (u8s bs) := by
  obtain ⟨A', c', hv, hr, -⟩ := h
  injection hv with e1 _ _
  rw [e1]; exact hr
set_option maxHeartbeats 6000000 in
set_option maxRecDepth 100000 in
theorem KvBack_walk (w : World) (A1 : Option Addr) (len1 cap1 : Nat) (ts1 : List Txn) (hn1 : ts1.length = len1) (hlc1 : len1 ≤ cap1) (hcm1 : cap1 ≤ maxLen) (hr1 : TxR w w.heap.size A1 ts1) (A2 : Option Addr) (len2 cap2 : Nat) (ts2 : List Txn) (hn2 : ts2.length = len2) (hlc2 : len2 ≤ cap2) (hcm2 : cap2 ≤ maxLen) (hr2 : TxR w w.heap.size A2 ts2) :
    Calls Try.prog 8 #[.slice A1 len1 cap1, .slice A2 len2 cap2] w (TrueK w) := by
  have HR1 := Lib.hid hr1; have HN1 := Lib.hid hn1; have HR2 := Lib.hid hr2; have HN2 := Lib.hid hn2
  have hcm1' : cap1 ≤ 9223372036854775807 := hcm1
  have hcm2' : cap2 ≤ 9223372036854775807 := hcm2
  clear hr1 hn1 hr2 hn2
  go_enter Try.func8, Try.ntmps8
  go_wp2_with fail
  refine (awake16_any w).mono ?_
  rintro en w1 ⟨rfl, hb1⟩
  have B1 := Lib.hid hb1; clear hb1
  go_wp2_with fail
  refine (Large7_any w1 A1 len1 cap1 ts1 (TxR.step HR1.out B1.out) HN1.out hlc1 hcm1).mono ?_
  rintro en w2 ⟨⟨lb, rfl, hfine⟩, hb2⟩
  have B2 := Lib.hid (B1.out.trans (hb2.mono B1.out.size)); have HFI := Lib.hid hfine
  clear hb2 hfine
  cases lb with
  | true =>
    have HP := Lib.hid (show TrueK w (.returned (.bool true)) w2 from ⟨rfl, B2.out⟩)
    go_wp2
    go_ret
    exact HP.out
  | false =>
    obtain ⟨h30, hft⟩ := HFI.out rfl
    have hl30 : len1 ≤ 30 := by rw [← HN1.out]; exact h30
    have HFT := Lib.hid hft
    clear hft HFI h30
    go_wp2_with fail
    refine (Large7_any w2 A2 len2 cap2 ts2 (TxR.step HR2.out B2.out) HN2.out hlc2 hcm2).mono ?_
    rintro en w3 ⟨⟨lb, rfl, hfine⟩, hb3⟩
    have B3 := Lib.hid (B2.out.trans (hb3.mono B2.out.size)); have HFI := Lib.hid hfine
    clear hb3 hfine
    cases lb with
    | true =>
      have HP := Lib.hid (show TrueK w (.returned (.bool true)) w3 from ⟨rfl, B3.out⟩)
      go_wp2
      go_ret
      exact HP.out
    | false =>
      obtain ⟨h30, hft⟩ := HFI.out rfl
      have hl302 : len2 ≤ 30 := by rw [← HN2.out]; exact h30
      have HFT2 := Lib.hid hft
      clear hft HFI h30
      go_wp2_with fail
      refine (KFold_any w3 ts1 A1 len1 cap1 (TxR.step HR1.out B3.out) HN1.out hl30 (fun t ht => (HFT.out t ht).1)).mono ?_
      rintro en w4 ⟨g1, S1, rfl, h1, hS1, hb4⟩
      have H1 := Lib.hid h1; have B4 := Lib.hid (B3.out.trans (hb4.mono B3.out.size))
      clear h1 hS1 hb4
      go_wp2_with fail
      refine (KFold_any w4 ts2 A2 len2 cap2 (TxR.step HR2.out B4.out) HN2.out hl302 (fun t ht => (HFT2.out t ht).1)).mono ?_
      rintro en w5 ⟨g2, S2, rfl, h2, hS2, hb5⟩
      have h1 := H1.out.below hb5
      have HMS := Lib.hid (LeM.fold (M := 9000) (fun t ht => (HFT.out t ht).le)); have HMT := Lib.hid (LeM.fold (M := 9000) (fun t ht => (HFT2.out t ht).le))
      obtain ⟨st, hst⟩ : ∃ s, foldT ts1 = s := ⟨_, rfl⟩
      obtain ⟨tt, htt⟩ : ∃ s, foldT ts2 = s := ⟨_, rfl⟩
      rw [hst] at HMS h1
      rw [htt] at HMT h2
      have HLS : Hid (st.length ≤ 1200) := Lib.hid (by have := h1.len_le; omega)
      have HLT2 : Hid (tt.length ≤ 1200) := Lib.hid (by have := h2.len_le; omega)
      have HSS := Lib.hid h1.srt; have HST := Lib.hid h2.srt
      have T1 := Lib.hid h1.tight; have T2 := Lib.hid h2.tight; have B5 := Lib.hid (B4.out.trans (hb5.mono B4.out.size))
      have HTL : Hid ((Km.txt st).length ≤ 100000000) := Lib.hid (by
        have h3 := txt_le (M := 9000) HMS.out
        have h4 := Nat.mul_le_mul_right (2 * 9000 + 20) HLS.out
        omega)
      have HTB := Lib.hid (txt_byte (st := st) (fun p hp => by have := HMS.out p hp; omega)); have HTB2 := Lib.hid (txt_byte (st := tt) (fun p hp => by have := HMT.out p hp; omega))
      have HLT : Hid (Km.load (Km.txt st) = (some st, 0)) := Lib.hid (Km.load_txt HSS.out (fun p hp => by have := HMS.out p hp; omega))
      clear h1 h2 hS2 hb5 hst htt H1 B4
      go_wp2_with fail
      refine (KText_any w5 g1 S1 st.length 9000 st T1.out (by have := HLS.out; omega) (by have := HLS.out; omega) HMS.out (by omega)).mono ?_
      rintro en w6 ⟨v6, rfl, hm6, -, hb6⟩
      obtain ⟨A6, c6, rfl, hr6, -, hc6, hcm6, h2566, -⟩ := hm6
      have HLo := Lib.hid (KLoad_any w6 A6 (Km.txt st).length c6 (Km.txt st) w6.heap.size hr6 (Nat.le_refl _) HTB.out rfl (by have := HTL.out; omega) hc6 hcm6)
      have T61 := Lib.hid (T1.out.below hb6); have T62 := Lib.hid (T2.out.below hb6); have B6 := Lib.hid (B5.out.trans (hb6.mono B5.out.size))
      clear hb6 hr6 h2566 T1 T2 B5
      go_wp2_with fail
      refine HLo.out.mono ?_
      intro en w7 hpost
      obtain ⟨g3, S3, rfl, h3, -, hb7⟩ := hpost.some HLT.out
      have KB7 : Hid (KB3 w7 g1 S1 st g2 S2 tt g3 S3) := Lib.hid ⟨T61.out.below hb7, T62.out.below hb7, h3.tight⟩
      have B7 := Lib.hid (B6.out.trans (hb7.mono B6.out.size))
      clear hpost h3 hb7 HLo T61 T62 B6
      go_wp2_with fail
      refine (KText_any w7 g3 S3 st.length 9000 st KB7.out.2.2 (by have := HLS.out; omega) (by have := HLS.out; omega) HMS.out (by omega)).mono ?_
      rintro en w8 ⟨v8, rfl, hm8, hf8, hb8⟩
      have KB8 := Lib.hid (KB7.out.below hb8); have B8 := Lib.hid (B7.out.trans (hb8.mono B7.out.size)); have M8 := Lib.hid hm8; have BB8 := Lib.hid hb8
      obtain ⟨A8, c8, rfl, -⟩ := id hm8
      clear hm8 hb8 KB7 B7
      go_wp2_with fail
      refine (KText_any w8 g1 S1 st.length 9000 st KB8.out.1 (by have := HLS.out; omega) (by have := HLS.out; omega) HMS.out (by omega)).mono ?_
      rintro en w9 ⟨v9, rfl, hm9, hf9, hb9⟩
      have KB9 := Lib.hid (KB8.out.below hb9); have B9 := Lib.hid (B8.out.trans (hb9.mono B8.out.size)); have M9 := Lib.hid hm9; have BB9 := Lib.hid hb9
      obtain ⟨A9, c9, rfl, -⟩ := id hm9
      clear hm9 hb9 KB8 B8
      have HSm := Lib.hid (same_at w9 A8 A9 c8 c9 (Km.txt st) (Km.txt st) _ _ _ _ true (M8.out.stepB BB9.out).rdK M9.out.rdK (by have := HTL.out; unfold maxLen; omega) rfl rfl (decide_eq_true rfl))
      go_wp2_with fail
      refine HSm.out.mono ?_
      rintro en w10 ⟨rfl, q10, rfl⟩
      clear HSm M8 M9 BB8 BB9
      have hb10 : Below w9.heap.size w9 (w9.drewN q10) := below_drewN (Below.refl _ _) _
      generalize hW : w9.drewN q10 = w10 at hb10 ⊢
      have KB10 := Lib.hid (KB9.out.below hb10); have B10 := Lib.hid (B9.out.trans (hb10.mono B9.out.size)); have BB10 := Lib.hid hb10
      clear hW hb10 KB9 B9
      go_wp2_with fail
      refine (KKeys_any w10 g3 S3 st.length st KB10.out.2.2 (by have := HLS.out; omega)).mono ?_
      rintro en w11 ⟨v11, rfl, ho11, hb11⟩
      have KB11 := Lib.hid (KB10.out.below hb11); have B11 := Lib.hid (B10.out.trans (hb11.mono B10.out.size)); have O11 := Lib.hid ho11; have BB11 := Lib.hid hb11
      obtain ⟨A11, c11, rfl⟩ := own_sl ho11
      clear ho11 hb11 KB10 B10
      go_wp2_with fail
      refine (KKeys_any w11 g1 S1 st.length st KB11.out.1 (by have := HLS.out; omega)).mono ?_
      rintro en w12 ⟨v12, rfl, ho12, hb12⟩
      have KB12 := Lib.hid (KB11.out.below hb12); have B12 := Lib.hid (B11.out.trans (hb12.mono B11.out.size)); have O12 := Lib.hid ho12; have BB12 := Lib.hid hb12
      obtain ⟨A12, c12, rfl⟩ := own_sl ho12
      clear ho12 hb12 KB11 B11
      have HSm := Lib.hid (SSame_any w12 A11 A12 c11 c12 st.length st.length _ _ _ _ (own_strs (own_below O11.out BB12.out)) (own_strs O12.out) (by simp) (by simp) (by have := HLS.out; omega))
      rw [decide_eq_true rfl] at HSm
      go_wp2_with fail
      refine HSm.out.mono ?_
      rintro en w13 ⟨rfl, q13, rfl⟩
      clear HSm O11 O12 BB11 BB12 BB10
      have hb13 : Below w12.heap.size w12 (w12.drewN q13) := below_drewN (Below.refl _ _) _
      generalize hW : w12.drewN q13 = w13 at hb13 ⊢
      have KB13 := Lib.hid (KB12.out.below hb13); have B13 := Lib.hid (B12.out.trans (hb13.mono B12.out.size)); have BB13 := Lib.hid hb13
      clear hW hb13 KB12 B12
      go_wp2_with fail
      refine (KKeys_any w13 g1 S1 st.length st KB13.out.1 (by have := HLS.out; omega)).mono ?_
      rintro en w14 ⟨v14, rfl, ho14, hb14⟩
      have KB14 := Lib.hid (KB13.out.below hb14); have B14 := Lib.hid (B13.out.trans (hb14.mono B13.out.size)); have O14 := Lib.hid ho14; have BB14 := Lib.hid hb14
      obtain ⟨A14, c14, rfl⟩ := own_sl ho14
      clear ho14 hb14 KB13 B13
      go_wp2_with fail
      refine (KKeys_any w14 g2 S2 tt.length tt KB14.out.2.1 (by have := HLT2.out; omega)).mono ?_
      rintro en w15 ⟨v15, rfl, ho15, hb15⟩
      have KB15 := Lib.hid (KB14.out.below hb15); have B15 := Lib.hid (B14.out.trans (hb15.mono B14.out.size)); have O15 := Lib.hid ho15; have BB15 := Lib.hid hb15
      obtain ⟨A15, c15, rfl⟩ := own_sl ho15
      clear ho15 hb15 KB14 B14
      have HSm := Lib.hid (SSame_any w15 A14 A15 c14 c15 st.length tt.length _ _ _ _ (own_strs (own_below O14.out BB15.out)) (own_strs O15.out) (by simp) (by simp) (by have := HLS.out; omega))
      have eb : decide ((st.map (·.1)).map Km.ba = (tt.map (·.1)).map Km.ba) = decide (st.map (·.1) = tt.map (·.1)) := decide_eq_decide.2 ba_map_inj
      rw [eb] at HSm
      obtain ⟨b0, hb0⟩ : ∃ b, decide (st.map (·.1) = tt.map (·.1)) = b := ⟨_, rfl⟩
      rw [hb0] at HSm
      have HB0 := Lib.hid hb0
      clear eb hb0
      go_wp2_with fail
      refine HSm.out.mono ?_
      rintro en w16 ⟨rfl, q16, rfl⟩
      clear HSm O14 O15 BB13 BB14 BB15
      have hb16 : Below w15.heap.size w15 (w15.drewN q16) := below_drewN (Below.refl _ _) _
      generalize hW : w15.drewN q16 = w16 at hb16 ⊢
      have KB16 := Lib.hid (KB15.out.below hb16); have B16 := Lib.hid (B15.out.trans (hb16.mono B15.out.size)); have BB16 := Lib.hid hb16
      clear hW hb16 KB15 B15
      go_wp2_with fail
      refine (KKeys_any w16 g1 S1 st.length st KB16.out.1 (by have := HLS.out; omega)).mono ?_
      rintro en w17 ⟨v17, rfl, ho17, hb17⟩
      have KB17 := Lib.hid (KB16.out.below hb17); have B17 := Lib.hid (B16.out.trans (hb17.mono B16.out.size)); have O17 := Lib.hid ho17; have BB17 := Lib.hid hb17
      obtain ⟨A17, c17, rfl⟩ := own_sl ho17
      clear ho17 hb17 KB16 B16
      obtain ⟨ns, hns⟩ : ∃ q, st.length = q := ⟨_, rfl⟩
      have HNS := Lib.hid hns
      have ho17 := O17.out
      rw [hns] at ho17 ⊢
      clear hns BB16
      have hnsl : ns ≤ 1200 := by rw [← HNS.out]; exact HLS.out
      go_wp2
      go_loopw [9, 76] (fun s9 s76 wr => ∃ (j : Nat) (b : Bool), s9 = .bool b ∧ s76 = .int .i64 (j : Int) ∧ j ≤ ns ∧ Hid (b = sm b0 st tt j) ∧ Below w17.heap.size w17 wr) (fun _ s76 _ => ns - (intOf s76).toNat)
      case atStart => exact ⟨0, b0, rfl, rfl, Nat.zero_le _, Lib.hid (by simp [sm]), Below.refl _ _⟩
      case round =>
        obtain ⟨j, b, rfl, rfl, hj, hsm, hbel⟩ := hrel
        have HBQ := Lib.hid hbel
        by_cases hlt : j < ns
        · have hltI : (j : Int) < (ns : Int) := by omega
          have HLTJ := Lib.hid hlt
          obtain ⟨⟨key, val⟩, hp⟩ : ∃ p, st[j]? = some p := ⟨_, List.getElem?_eq_getElem (by rw [HNS.out]; exact hlt)⟩
          have hmem := List.mem_of_getElem? hp
          obtain ⟨hk1', hk2'⟩ := HMS.out _ hmem
          simp only at hk1' hk2'
          have hget := Km.get_at HSS.out hmem
          simp only at hget
          obtain ⟨q, cq, hvq, -, hql⟩ := ho17.form (by omega)
          injection hvq with e1 e2 e3
          subst e1 e3
          have hcell := ho17.cells (g := q) rfl j (encStr key) (by rw [List.getElem?_map, List.getElem?_map, hp]; rfl)
          rw [addk0] at hcell
          have hcr := (hbel.cell (p := ⟨q, j, none⟩) hql).trans hcell
          rw [Km.encStr_ba] at hcr
          have hqw : q < wr.heap.size := Nat.lt_of_lt_of_le hql hbel.size
          have hkm : (Km.ba key).size ≤ maxLen := by rw [Km.ba_size]; unfold maxLen; omega
          have hg1 := KGet_any wr g1 S1 st.length st (Km.ba key) (KB17.out.below hbel).1 hkm
          have hg2 := KGet_any wr g2 S2 tt.length tt (Km.ba key) (KB17.out.below hbel).2.1 hkm
          have hg3 := KGet_any wr g3 S3 st.length st (Km.ba key) (KB17.out.below hbel).2.2 hkm
          unfold KGetPost at hg1 hg2 hg3
          rw [Km.data_ba, hget] at hg1 hg3
          rw [Km.data_ba] at hg2
          simp only [Option.getD_some, Option.isSome_some] at hg1 hg3
          obtain ⟨gt, hgt⟩ : ∃ x, (Km.get tt key).getD [] = x := ⟨_, rfl⟩
          obtain ⟨gb, hgb⟩ : ∃ x, (Km.get tt key).isSome = x := ⟨_, rfl⟩
          have hsx := sm_succ (b0 := b0) (tt := tt) hp
          simp only at hsx
          rw [hgt] at hg2 hsx
          rw [hgb] at hg2
          have hcmp := (cmpK val gt).2
          obtain ⟨d, hd⟩ : ∃ d, decide (val = gt) = d := ⟨_, rfl⟩
          rw [hd] at hcmp hsx
          rw [← hsm.out] at hsx
          obtain ⟨kb, hkb⟩ : ∃ x, Km.ba key = x := ⟨_, rfl⟩
          obtain ⟨vb, hvb⟩ : ∃ x, Km.ba val = x := ⟨_, rfl⟩
          obtain ⟨ub, hub⟩ : ∃ x, Km.ba gt = x := ⟨_, rfl⟩
          rw [hkb] at hg1 hg2 hg3 hcr
          rw [hvb] at hg1 hg3 hcmp
          rw [hub] at hg2 hcmp
          have HG1 := Lib.hid hg1; have HG2 := Lib.hid hg2; have HG3 := Lib.hid hg3; have HSX := Lib.hid hsx
          clear hg1 hg2 hg3 hsx hsm hp hmem hget hcell hgt hgb hd hkb hvb hub hbel hk1' hk2' hkm ho17
          go_wp2_with fail
          refine HG1.out.mono ?_
          rintro en wa ⟨rfl, rfl⟩
          go_wp2_with fail
          refine HG2.out.mono ?_
          rintro en wa ⟨rfl, rfl⟩
          go_wp2_with fail
          refine HG3.out.mono ?_
          rintro en wa ⟨rfl, rfl⟩
          clear HG1 HG2 HG3
          cases b with
          | false =>
            have R : Hid (false = sm b0 st tt (j + 1)) := Lib.hid (by rw [HSX.out]; rfl)
            go_wp2
            go_roundw
            case rel => exact ⟨j + 1, false, rfl, by go_num, HLTJ.out, R, HBQ.out⟩
            case measure => simp [intOf]; have := HLTJ.out; omega
          | true =>
            have R : Hid (d = sm b0 st tt (j + 1)) := Lib.hid (by rw [HSX.out]; rfl)
            cases d <;> (
              go_wp2
              go_roundw
              case rel => exact ⟨j + 1, _, rfl, by go_num, HLTJ.out, R, HBQ.out⟩
              case measure => simp [intOf]; have := HLTJ.out; omega)
        · obtain rfl : j = ns := by omega
          have hbe : decide (st = tt) = b := by rw [hsm.out, ← HB0.out]; exact (sm_end HSS.out HST.out HNS.out).symm
          have hbt : decide (Km.txt st = Km.txt tt) = b := by rw [txt_inj HSS.out HST.out HMS.out HMT.out]; exact hbe
          have HBT := Lib.hid hbt
          obtain ⟨w18, hW⟩ : ∃ x, wr = x := ⟨_, rfl⟩
          rw [hW] at hbel ⊢
          have KB18 := Lib.hid (KB17.out.below hbel); have B18 := Lib.hid (B17.out.trans (hbel.mono B17.out.size))
          clear hsm hbe hbt hbel hW HBQ
          go_wp2_with fail
          refine (KText_any w18 g1 S1 st.length 9000 st KB18.out.1 (by have := HLS.out; omega) (by have := HLS.out; omega) HMS.out (by omega)).mono ?_
          rintro en w19 ⟨v19, rfl, hm19, hf19, hb19⟩
          have KB19 := Lib.hid (KB18.out.below hb19); have B19 := Lib.hid (B18.out.trans (hb19.mono B18.out.size)); have M19 := Lib.hid hm19; have BB19 := Lib.hid hb19
          obtain ⟨A19, c19, rfl, -⟩ := id hm19
          clear hm19 hb19 KB18 B18
          go_wp2_with fail
          refine (KCopy_any w19 g1 S1 st.length st KB19.out.1).mono ?_
          rintro en w20 ⟨g4, S4, rfl, h4, hS4, hb20⟩
          have H4 := Lib.hid h4; have HS4 := Lib.hid hS4; have KB20 := Lib.hid (KB19.out.below hb20); have B20 := Lib.hid (B19.out.trans (hb20.mono B19.out.size)); have M20 := Lib.hid (M19.out.stepB hb20)
          have MO20 : Hid (MadeO w20 S4 (.slice A19 (Km.txt st).length c19) (Km.txt st) (Km.txt st).length) := Lib.hid ⟨M20.out, fun b o n c hv hne hs => by
            have h5 := MadeO.lt (S := fun _ => False) ⟨M19.out, fun _ _ _ _ _ _ h => h⟩ hv hne
            have h6 := HS4.out b hs
            omega⟩
          have HB4 := Lib.hid (fun j (hj : S4 j) => Nat.le_trans B19.out.size (HS4.out j hj)); have HL1 := Lib.hid KB19.out.1.lt
          clear h4 hS4 hb20 M19 BB19 M20 KB19 B19
          go_wp2_with fail
          refine (KText_any w20 g1 S1 st.length 9000 st KB20.out.1 (by have := HLS.out; omega) (by have := HLS.out; omega) HMS.out (by omega)).mono ?_
          rintro en w21 ⟨v21, rfl, hm21, hf21, hb21⟩
          have KB21 := Lib.hid (KB20.out.below hb21); have B21 := Lib.hid (B20.out.trans (hb21.mono B20.out.size)); have M21 := Lib.hid hm21; have BB21 := Lib.hid hb21
          obtain ⟨A21, c21, rfl, -⟩ := id hm21
          clear hm21 hb21 KB20 B20
          go_wp2_with fail
          refine (KText_any w21 g2 S2 tt.length 9000 tt KB21.out.2.1 (by have := HLT2.out; omega) (by have := HLT2.out; omega) HMT.out (by omega)).mono ?_
          rintro en w22 ⟨v22, rfl, hm22, hf22, hb22⟩
          have KB22 := Lib.hid (KB21.out.below hb22); have B22 := Lib.hid (B21.out.trans (hb22.mono B21.out.size)); have M22 := Lib.hid hm22; have BB22 := Lib.hid hb22
          obtain ⟨A22, c22, rfl, -⟩ := id hm22
          clear hm22 hb22 KB21 B21
          have HSm := Lib.hid (same_at w22 A21 A22 c21 c22 (Km.txt st) (Km.txt tt) _ _ _ _ b (M21.out.stepB BB22.out).rdK M22.out.rdK (by have := HTL.out; unfold maxLen; omega) rfl rfl HBT.out)
          have H422 := Lib.hid ((H4.out.below BB21.out).below BB22.out); have MO22 := Lib.hid ((MO20.out.below BB21.out).below BB22.out)
          go_wp2_with fail
          refine HSm.out.mono ?_
          rintro en w23 ⟨rfl, q23, rfl⟩
          clear HSm M21 M22 BB21 H4 MO20 BB22
          have hb23 : Below w22.heap.size w22 (w22.drewN q23) := below_drewN (Below.refl _ _) _
          generalize hW : w22.drewN q23 = w23 at hb23 ⊢
          have KB23 := Lib.hid (KB22.out.below hb23); have B23 := Lib.hid (B22.out.trans (hb23.mono B22.out.size)); have BB23 := Lib.hid hb23
          clear hW hb23 KB22 B22
          have H423 := Lib.hid (H422.out.below BB23.out); have MO23 := Lib.hid (MO22.out.below BB23.out); have K23 := Lib.hid KB23.out.1
          clear BB23 H422 MO22 KB23
          cases b <;> (
            go_wp2
            go_loopw [125] (fun s125 wr => ∃ (k : Nat) (st' : St), s125 = .int .i64 (k : Int) ∧ k ≤ len2 ∧ StoreM wr g4 S4 (st.length + 40 * k) st' ∧ StoreM wr g1 S1 st.length st ∧ MadeO wr S4 (.slice A19 (Km.txt st).length c19) (Km.txt st) (Km.txt st).length ∧ Below w.heap.size w wr) (fun s125 _ => len2 - (intOf s125).toNat)
            case atStart => exact ⟨0, st, rfl, Nat.zero_le _, H423.out, K23.out, MO23.out, B23.out⟩
            case round =>
              clear H423 K23 MO23 B23
              obtain ⟨k, st', rfl, hk, h4, h1, hmo, hbw⟩ := hrel
              have HBW := Lib.hid hbw; have H1 := Lib.hid h1; have HMO := Lib.hid hmo
              by_cases hlt : k < len2
              · have hltI : (k : Int) < (len2 : Int) := by omega
                have HLTK := Lib.hid hlt
                obtain ⟨q, o', o, s, x, y, z, l, Aw, cw, rfl, hq, hx, ⟨y0, y1, y2, y3, y4, y5⟩, hwr, hc1, hc2, hc3, htb⟩ := TxR.row (TxR.below HR2.out hbw) (k := k) (by rw [HN2.out]; exact hlt)
                have hqw : q < wr.heap.size := Nat.lt_of_lt_of_le hq hbw.size
                have hl40 := (HFT2.out _ (List.mem_of_getElem? hx)).1
                simp only at hl40
                obtain ⟨nl, hnl⟩ : ∃ q, l.length = q := ⟨_, rfl⟩
                rw [hnl] at y5 hl40
                have hb1 : Below wr.heap.size wr (wr.alloc (.cells #[.int .i64 o, .int .i64 s, .int .i64 x, .int .i64 y, .int .i64 z, .slice Aw nl cw] 80)) := (Below.refl _ wr).alloc (Nat.le_refl _) _
                have HB1 := Lib.hid (hbw.trans (hb1.mono hbw.size)); have H1b := Lib.hid (h1.below hb1); have HMb := Lib.hid (hmo.below hb1)
                have HAP := Lib.hid (KApply_any _ g4 S4 (st.length + 40 * k) st' l Aw nl cw (h4.below hb1)
                  (StR.more (WrR.below hwr (hb1.mono hbw.size)) (Nat.le_trans hbw.size hb1.size)) (fun g' o'' hA hne hs => by
                    obtain ⟨g2', o2, e2, hlt2, -⟩ := hwr hne
                    rw [hA] at e2
                    injection e2 with e2
                    injection e2 with e2 _
                    have := HB4.out g' hs
                    omega) hnl (fun x hx => htb.2.2.2 x hx) (by have := HLS.out; unfold maxLen; omega))
                clear h4 h1 hmo hbw hx hb1 hwr hnl htb
                go_wp2_with fail
                refine HAP.out.mono ?_
                rintro en w24 ⟨rfl, hs24, ho24⟩
                have R := Lib.hid (show ∃ (k' : Nat) (st'' : St), (Value.int .i64 ((k : Int) + 1)) = .int .i64 (k' : Int) ∧ k' ≤ len2 ∧ StoreM w24 g4 S4 (st.length + 40 * k') st'' ∧ StoreM w24 g1 S1 st.length st ∧ MadeO w24 S4 (.slice A19 (Km.txt st).length c19) (Km.txt st) (Km.txt st).length ∧ Below w.heap.size w w24 from
                  ⟨k + 1, _, by go_num, HLTK.out, hs24.mono (by omega), H1b.out.only ho24 (fun j hj hs => by have h5 := HS4.out j hj; have h6 := HL1.out j hs; omega), HMb.out.other ho24 (fun g o n c hv hne hs => HMb.out.2 g o n c hv hne hs), HB1.out.trans (ho24.to_below HB1.out.size HB4.out)⟩)
                clear hs24 ho24 HAP
                go_wp2
                go_roundw
                case rel => exact R.out
                case measure => simp [intOf]; have := HLTK.out; omega
              · obtain rfl : k = len2 := by omega
                clear h4 h1 hmo hbw
                go_wp2_with fail
                refine (KText_any wr g1 S1 st.length 9000 st H1.out (by have := HLS.out; omega) (by have := HLS.out; omega) HMS.out (by omega)).mono ?_
                rintro en w25 ⟨v25, rfl, hm25, -, hb25⟩
                have MO25 := HMO.out.below hb25
                have B25 := Lib.hid (HBW.out.trans (hb25.mono HBW.out.size))
                obtain ⟨A25, c25, rfl, -⟩ := id hm25
                have HSm := Lib.hid (same_at w25 A25 A19 c25 c19 (Km.txt st) (Km.txt st) _ _ _ _ true hm25.rdK MO25.1.rdK (by have := HTL.out; unfold maxLen; omega) rfl rfl (decide_eq_true rfl))
                clear hm25 hb25 MO25
                go_wp2_with fail
                refine HSm.out.mono ?_
                rintro en w26 ⟨rfl, q26, rfl⟩
                have HP := Lib.hid (show TrueK w (.returned (.bool true)) (w25.drewN q26) from ⟨rfl, below_drewN B25.out _⟩)
                go_wp2
                go_ret
                exact HP.out)
end Go.Proofs.Ytahichieakdbnaa
