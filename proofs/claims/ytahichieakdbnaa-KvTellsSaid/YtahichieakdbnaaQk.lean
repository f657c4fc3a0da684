/- law 16's KvTells: the walk. -/
import Derived.Test.YtahichieakdbnaaQj
import Derived.Test.YtahichieakdbnaaKk
import Derived.BigQuiet
namespace Go.Proofs.Ytahichieakdbnaa
open Go.ChangeShapes Go.WideShapes Go.ChangeAt Go.RowKit Go.Maps
set_option linter.unusedVariables false
set_option linter.unusedSimpArgs false

/-- the program's store and the document's -/
def KT2 (w : World) (g1 : Nat) (S1 : Nat → Prop) (n : Nat) (g2 : Nat) (vK vV : Value) (st : St) : Prop := StoreM w g1 S1 n st ∧ RS w g2 vK vV st
theorem KT2.below {w w' : World} {g1 : Nat} {S1 : Nat → Prop} {n : Nat} {g2 : Nat} {vK vV : Value} {st : St} (h : KT2 w g1 S1 n g2 vK vV st) (hb : Below w.heap.size w w') : KT2 w' g1 S1 n g2 vK vV st := ⟨h.1.below hb, h.2.below hb⟩
def RdS (w : World) (v : Value) (st : St) (n : Nat) : Prop := ∃ A c, v = .slice A n c ∧ Rd w w.heap.size A (((st.map (·.1)).map Km.ba).map Value.string)
theorem RdS.below {w w' : World} {v : Value} {st : St} {n : Nat} (h : RdS w v st n) (hb : Below w.heap.size w w') : RdS w' v st n := by
  obtain ⟨A, c, e, hr⟩ := h
  exact ⟨A, c, e, (hr.below hb).more hb.size⟩
set_option maxHeartbeats 4000000 in
set_option maxRecDepth 100000 in
theorem KvTells_walk (w : World) (A1 : Option Addr) (len1 cap1 : Nat) (ts1 : List Txn) (hn1 : ts1.length = len1) (hlc1 : len1 ≤ cap1) (hcm1 : cap1 ≤ maxLen) (hr1 : TxR w w.heap.size A1 ts1) (key : ByteArray) (hkey : key.size ≤ maxLen) (A2 : Option Addr) (len2 cap2 : Nat) (bs : List Nat) (hn2 : bs.length = len2) (hlc2 : len2 ≤ cap2) (hcm2 : cap2 ≤ maxLen) (hnn2 : A2 = none → cap2 = 0) (hr2 : Rd w w.heap.size A2 (u8s bs)) (h256 : ∀ b ∈ bs, b < 256) :
    Calls Try.prog 6 #[.slice A1 len1 cap1, .string key, .slice A2 len2 cap2] w (TrueK w) := by
  have HR1 := Lib.hid hr1; have HN1 := Lib.hid hn1; have HR2 := Lib.hid hr2; have HN2 := Lib.hid hn2; have H256 := Lib.hid h256; have HKY := Lib.hid hkey
  have hcm1' : cap1 ≤ 9223372036854775807 := hcm1
  have hcm2' : cap2 ≤ 9223372036854775807 := hcm2
  have hkm : key.size ≤ 9223372036854775807 := hkey
  clear hr1 hn1 hr2 hn2 h256 hkey
  go_enter Try.func6, Try.ntmps6
  go_wp2_with fail
  refine (awake16_any w).mono ?_
  rintro en w1 ⟨rfl, hb1⟩
  have B1 := Lib.hid hb1; clear hb1
  go_wp2_with fail
  refine (Large7_any w1 A1 len1 cap1 ts1 (TxR.step HR1.out B1.out) HN1.out hlc1 hcm1).mono ?_
  rintro en w2 ⟨⟨lb, rfl, hfine⟩, hb2⟩
  have B2 := Lib.hid (B1.out.trans (hb2.mono B1.out.size)); have HFI := Lib.hid hfine
  clear hb2 hfine
  have HP := Lib.hid (show TrueK w (.returned (.bool true)) w2 from ⟨rfl, B2.out⟩)
  cases lb with
  | true =>
    go_wp2
    go_ret
    exact HP.out
  | false =>
    by_cases hk9 : (9000 : Int) < (key.size : Int)
    · go_wp2
      go_ret
      exact HP.out
    · by_cases hb9 : (9000 : Int) < (len2 : Int)
      · go_wp2
        go_ret
        exact HP.out
      · obtain ⟨h30, hft⟩ := HFI.out rfl
        have hl30 : len1 ≤ 30 := by rw [← HN1.out]; exact h30
        have HFT := Lib.hid hft
        clear hft HFI h30 HP
        go_wp2_with fail
        refine (KFold_any w2 ts1 A1 len1 cap1 (TxR.step HR1.out B2.out) HN1.out hl30 (fun t ht => (HFT.out t ht).1)).mono ?_
        rintro en w3 ⟨g1, S1, rfl, h1, hS1, hb3⟩
        have H1 := Lib.hid h1; have B3 := Lib.hid (B2.out.trans (hb3.mono B2.out.size))
        clear h1 hS1 hb3
        go_wp2_with fail
        refine (RFold_any w3 ts1 A1 len1 cap1 9000 (TxR.step HR1.out B3.out) HN1.out hl30 (fun t ht => (HFT.out t ht).1) (fun t ht => (HFT.out t ht).le) (by omega)).mono ?_
        rintro en w4 ⟨g2, vK, vV, rfl, h2, -, hb4⟩
        have T4 : KT2 w4 g1 S1 (40 * len1) g2 vK vV (foldT ts1) := ⟨H1.out.below hb4, h2⟩
        have HMS := Lib.hid (LeM.fold (M := 9000) (fun t ht => (HFT.out t ht).le))
        obtain ⟨st, hst⟩ : ∃ s, foldT ts1 = s := ⟨_, rfl⟩
        rw [hst] at T4 HMS
        have HLS : Hid (st.length ≤ 1200) := Lib.hid (by have := T4.1.len_le; omega)
        have HT4 := Lib.hid (show KT2 w4 g1 S1 st.length g2 vK vV st from ⟨T4.1.tight, T4.2⟩)
        have B4 := Lib.hid (B3.out.trans (hb4.mono B3.out.size))
        clear h2 hb4 T4 H1 hst B1 B2 B3
        go_wp2_with fail
        refine (KLoad_any w4 A2 len2 cap2 bs w4.heap.size ((HR2.out.below B4.out).more B4.out.size) (Nat.le_refl _) H256.out HN2.out (by omega) hlc2 hcm2).mono ?_
        intro en w5 hKL
        obtain ⟨hb5, hKL⟩ := hKL
        have B5 := Lib.hid (B4.out.trans (hb5.mono B4.out.size)); have HT5 := Lib.hid (HT4.out.below hb5)
        clear HT4 hb5
        have hRL := fun (x : World) (hx : Below w.heap.size w x) => RLoad_any x A2 len2 cap2 bs x.heap.size ((HR2.out.below hx).more hx.size) (Nat.le_refl _) H256.out HN2.out (by omega) hlc2 hcm2
        have HRL := Lib.hid hRL
        obtain ⟨AK, cK, rfl⟩ := own_sl HT5.out.2.2.1
        obtain ⟨AV, cV, rfl⟩ := own_sl HT5.out.2.2.2.1
        clear hRL
        rcases hKL with ⟨g3, S3, tt, hld, rfl, h3, -⟩ | ⟨e, he, hld, rfl⟩
        · have H3 := Lib.hid h3; have HLD := Lib.hid hld
          clear h3
          go_wp2_with fail
          refine (HRL.out w5 B5.out).mono ?_
          intro en w6 hq
          obtain ⟨hb6, hq⟩ := hq
          have HT6 := Lib.hid (HT5.out.below hb6); have B6 := Lib.hid (B5.out.trans (hb6.mono B5.out.size))
          rcases hq with ⟨g4, vX, vY, t2, hld2, rfl, h4, -, hs4, hl4, hm4⟩ | ⟨e2, he2, hld2, rfl⟩
          · rw [HLD.out] at hld2
            injection hld2 with htt _
            injection htt with htt
            subst htt
            obtain ⟨AX, cX, rfl⟩ := own_sl h4.2.1
            obtain ⟨AY, cY, rfl⟩ := own_sl h4.2.2.1
            have HX6 := Lib.hid (show KT2 w6 g3 S3 tt.length g4 (.slice AX tt.length cX) (.slice AY tt.length cY) tt from ⟨(H3.out.below hb6).tight, h4⟩)
            have HM4 := Lib.hid hm4
            have HTX := Lib.hid (Km.load_back HLD.out H256.out)
            have hl9 : len2 ≤ 9000 := by omega
            have hl4' : tt.length ≤ 9000 := by omega
            clear h4 hs4 hm4 hb6 hld
            have hG := KGet_any w6 g1 S1 st.length st key HT6.out.1 HKY.out
            have hG2 := RGet_any w6 g2 (.slice AK st.length cK) (.slice AV st.length cV) st key HT6.out.2 (by have := HLS.out; omega)
            unfold KGetPost at hG hG2
            obtain ⟨gv, hgv⟩ : ∃ q, Km.ba ((Km.get st key.data.toList).getD []) = q := ⟨_, rfl⟩
            obtain ⟨gi, hgi⟩ : ∃ q, (Km.get st key.data.toList).isSome = q := ⟨_, rfl⟩
            rw [hgv, hgi] at hG hG2
            have HG := Lib.hid hG; have HG2 := Lib.hid hG2
            clear hG hG2 hgv hgi
            go_wp2_with fail
            refine HG.out.mono ?_
            rintro en wx ⟨rfl, rfl⟩
            go_wp2_with fail
            refine HG2.out.mono ?_
            rintro en wx ⟨rfl, rfl⟩
            have HTL : Hid ((Km.txt st).length ≤ 100000000) := Lib.hid (by
              have h3 := txt_le (M := 9000) HMS.out
              have h4 := Nat.mul_le_mul_right (2 * 9000 + 20) HLS.out
              omega)
            obtain ⟨nt, hnt⟩ : ∃ q, (Km.txt st).length = q := ⟨_, rfl⟩
            have HNT := Lib.hid hnt
            clear hnt
            go_wp2
            refine Inv.region_below (fun i v w' => match i with
                | 0 => v = .string gv
                | 1 => v = .string gv
                | 2 => v = .bool false
                | 3 => v = .bool false
                | 4 => v = .bool gi
                | 5 => v = .bool gi
                | 6 => v = .bool false
                | 7 => v = .bool false
                | 8 => v = .bool false
                | 9 => v = .pointer (some ⟨g1, 0, none⟩)
                | 10 => RdS w' (v) st st.length
                | 11 => v = .pointer (some ⟨g2, 0, none⟩)
                | 12 => v = .pointer (some ⟨g2, 0, none⟩)
                | 13 => v = .pointer (some ⟨g2, 0, none⟩)
                | 14 => v = .slice AK st.length cK
                | 15 => v = .bool true
                | 16 => v = .bool false
                | 17 => v = .bool false
                | 18 => v = .bool false
                | 19 => v = .pointer (some ⟨g1, 0, none⟩)
                | 20 => Made w' (v) (Km.txt st) nt
                | 21 => v = .pointer (some ⟨g2, 0, none⟩)
                | 22 => Made w' (v) (Km.txt st) nt
                | 23 => v = .bool true
                | 24 => v = .bool false
                | 25 => v = .bool false
                | _ => True)
              (fun w' => KT2 w' g1 S1 st.length g2 (.slice AK st.length cK) (.slice AV st.length cV) st ∧ (KT2 w' g3 S3 tt.length g4 (.slice AX tt.length cX) (.slice AY tt.length cY) tt) ∧ Below w.heap.size w w') 114 [71, 72, 73, 74, 75, 76, 77, 78, 79, 80, 81, 82, 83, 84, 85, 86, 87, 88, 89, 90, 91, 92, 93, 94, 95, 96] (by kernel_rfl) rfl (by kernel_rfl) (by kernel_rfl) ?_ ?_ ?_ ?_
            · intro v v' hC hb
              obtain ⟨hC, hX, hB⟩ := hC
              exact ⟨hC.below hb, hX.below hb, hB.trans (hb.mono hB.size)⟩
            · exact ⟨HT6.out.below (Below.refl _ _).drew, HX6.out.below (Below.refl _ _).drew, B6.out.drew⟩
            · refine ⟨⟨fun _ _ _ h _ => h, ?_⟩, ⟨fun _ _ _ h _ => h, ?_⟩, ⟨fun _ _ _ h _ => h, ?_⟩, ⟨fun _ _ _ h _ => h, ?_⟩, ⟨fun _ _ _ h _ => h, ?_⟩, ⟨fun _ _ _ h _ => h, ?_⟩, ⟨fun _ _ _ h _ => h, ?_⟩, ⟨fun _ _ _ h _ => h, ?_⟩, ⟨fun _ _ _ h _ => h, ?_⟩, ⟨fun _ _ _ h _ => h, ?_⟩, ⟨fun v w w' h hb => h.below hb, ?_⟩, ⟨fun _ _ _ h _ => h, ?_⟩, ⟨fun _ _ _ h _ => h, ?_⟩, ⟨fun _ _ _ h _ => h, ?_⟩, ⟨fun _ _ _ h _ => h, ?_⟩, ⟨fun _ _ _ h _ => h, ?_⟩, ⟨fun _ _ _ h _ => h, ?_⟩, ⟨fun _ _ _ h _ => h, ?_⟩, ⟨fun _ _ _ h _ => h, ?_⟩, ⟨fun _ _ _ h _ => h, ?_⟩, ⟨fun v w w' h hb => madeB h hb, ?_⟩, ⟨fun _ _ _ h _ => h, ?_⟩, ⟨fun v w w' h hb => madeB h hb, ?_⟩, ⟨fun _ _ _ h _ => h, ?_⟩, ⟨fun _ _ _ h _ => h, ?_⟩, ⟨fun _ _ _ h _ => h, ?_⟩, trivial⟩
              · intro act wa hC hd H O K hK
                clear hd
                obtain ⟨hC, hX, hB⟩ := hC
                have h13 := O 13 (by kernel_rfl)
                have g13 := Array.getD_eq_getD_getElem?.symm.trans h13
                clear H O
                have a0 := hC.2.1.cell 0
                have al := hC.2.1.lt
                simp at a0
                go_simp
                exact hK _ _ (Below.refl _ _) (fun _ => rfl)
              · intro act wa hC hd H O K hK
                clear hd
                obtain ⟨hC, hX, hB⟩ := hC
                have h15 := O 15 (by kernel_rfl)
                have g15 := Array.getD_eq_getD_getElem?.symm.trans h15
                clear H O
                have a0 := hC.2.1.cell 0
                have al := hC.2.1.lt
                simp at a0
                go_simp
                exact hK _ _ (Below.refl _ _) (fun _ => rfl)
              · intro act wa hC hd H O K hK
                clear hd
                obtain ⟨hC, hX, hB⟩ := hC
                have h71 : act.tmps.getD 71 undef = .string gv := H 1 0 71 (by kernel_rfl) rfl
                have g71 := Array.getD_eq_getD_getElem?.symm.trans h71
                have h72 : act.tmps.getD 72 undef = .string gv := H 1 1 72 (by kernel_rfl) rfl
                have g72 := Array.getD_eq_getD_getElem?.symm.trans h72
                clear H O
                have a0 := hC.2.1.cell 0
                have al := hC.2.1.lt
                simp at a0
                go_simp
                exact hK _ _ (Below.refl _ _) (fun _ => rfl)
              · intro act wa hC hd H O K hK
                clear hd
                obtain ⟨hC, hX, hB⟩ := hC
                have h73 : act.tmps.getD 73 undef = .bool false := H 1 2 73 (by kernel_rfl) rfl
                have g73 := Array.getD_eq_getD_getElem?.symm.trans h73
                clear H O
                have a0 := hC.2.1.cell 0
                have al := hC.2.1.lt
                simp at a0
                go_simp
                exact hK _ _ (Below.refl _ _) (fun _ => rfl)
              · intro act wa hC hd H O K hK
                clear hd
                obtain ⟨hC, hX, hB⟩ := hC
                have h14 := O 14 (by kernel_rfl)
                have g14 := Array.getD_eq_getD_getElem?.symm.trans h14
                have h74 : act.tmps.getD 74 undef = .bool false := H 1 3 74 (by kernel_rfl) rfl
                have g74 := Array.getD_eq_getD_getElem?.symm.trans h74
                have k74 := Inv.some_bool g74
                clear H O
                have a0 := hC.2.1.cell 0
                have al := hC.2.1.lt
                simp at a0
                go_simp
                exact hK _ _ (Below.refl _ _) (fun _ => rfl)
              · intro act wa hC hd H O K hK
                clear hd
                obtain ⟨hC, hX, hB⟩ := hC
                have h16 := O 16 (by kernel_rfl)
                have g16 := Array.getD_eq_getD_getElem?.symm.trans h16
                have h74 : act.tmps.getD 74 undef = .bool false := H 1 3 74 (by kernel_rfl) rfl
                have g74 := Array.getD_eq_getD_getElem?.symm.trans h74
                have k74 := Inv.some_bool g74
                clear H O
                have a0 := hC.2.1.cell 0
                have al := hC.2.1.lt
                simp at a0
                go_simp
                exact hK _ _ (Below.refl _ _) (fun _ => rfl)
              · intro act wa hC hd H O K hK
                clear hd
                obtain ⟨hC, hX, hB⟩ := hC
                have h75 : act.tmps.getD 75 undef = .bool gi := H 1 4 75 (by kernel_rfl) rfl
                have g75 := Array.getD_eq_getD_getElem?.symm.trans h75
                have h76 : act.tmps.getD 76 undef = .bool gi := H 1 5 76 (by kernel_rfl) rfl
                have g76 := Array.getD_eq_getD_getElem?.symm.trans h76
                have h74 : act.tmps.getD 74 undef = .bool false := H 1 3 74 (by kernel_rfl) rfl
                have g74 := Array.getD_eq_getD_getElem?.symm.trans h74
                have k74 := Inv.some_bool g74
                clear H O
                have a0 := hC.2.1.cell 0
                have al := hC.2.1.lt
                simp at a0
                go_simp
                exact hK _ _ (Below.refl _ _) (fun _ => rfl)
              · intro act wa hC hd H O K hK
                clear hd
                obtain ⟨hC, hX, hB⟩ := hC
                have h74 : act.tmps.getD 74 undef = .bool false := H 1 3 74 (by kernel_rfl) rfl
                have g74 := Array.getD_eq_getD_getElem?.symm.trans h74
                have h77 : act.tmps.getD 77 undef = .bool false := H 1 6 77 (by kernel_rfl) rfl
                have g77 := Array.getD_eq_getD_getElem?.symm.trans h77
                clear H O
                have a0 := hC.2.1.cell 0
                have al := hC.2.1.lt
                simp at a0
                go_simp
                exact hK _ _ (Below.refl _ _) (fun _ => rfl)
              · intro act wa hC hd H O K hK
                clear hd
                obtain ⟨hC, hX, hB⟩ := hC
                have h78 : act.tmps.getD 78 undef = .bool false := H 1 7 78 (by kernel_rfl) rfl
                have g78 := Array.getD_eq_getD_getElem?.symm.trans h78
                clear H O
                have a0 := hC.2.1.cell 0
                have al := hC.2.1.lt
                simp at a0
                go_simp
                exact hK _ _ (Below.refl _ _) (fun _ => rfl)
              · intro act wa hC hd H O K hK
                clear hd
                obtain ⟨hC, hX, hB⟩ := hC
                have h7 := O 7 (by kernel_rfl)
                have g7 := Array.getD_eq_getD_getElem?.symm.trans h7
                have h79 : act.tmps.getD 79 undef = .bool false := H 1 8 79 (by kernel_rfl) rfl
                have g79 := Array.getD_eq_getD_getElem?.symm.trans h79
                have k79 := Inv.some_bool g79
                clear H O
                have a0 := hC.2.1.cell 0
                have al := hC.2.1.lt
                simp at a0
                go_simp
                exact hK _ _ (Below.refl _ _) (fun _ => rfl)
              · intro act wa hC hd H O K hK
                clear hd
                obtain ⟨hC, hX, hB⟩ := hC
                have h80 : act.tmps.getD 80 undef = .pointer (some ⟨g1, 0, none⟩) := H 1 9 80 (by kernel_rfl) rfl
                have g80 := Array.getD_eq_getD_getElem?.symm.trans h80
                have h79 : act.tmps.getD 79 undef = .bool false := H 1 8 79 (by kernel_rfl) rfl
                have g79 := Array.getD_eq_getD_getElem?.symm.trans h79
                have k79 := Inv.some_bool g79
                clear H O
                have a0 := hC.2.1.cell 0
                have al := hC.2.1.lt
                simp at a0
                go_simp
                refine (KKeys_any wa g1 S1 st.length st hC.1 (by have := HLS.out; omega)).mono ?_
                rintro e1 w1 ⟨v8, rfl, ho, hb⟩
                obtain ⟨A8, c8, rfl⟩ := own_sl ho
                exact hK _ _ (hb) (fun _ => ⟨A8, c8, rfl, own_strs ho⟩)
              · intro act wa hC hd H O K hK
                clear hd
                obtain ⟨hC, hX, hB⟩ := hC
                have h8 := O 8 (by kernel_rfl)
                have g8 := Array.getD_eq_getD_getElem?.symm.trans h8
                have h79 : act.tmps.getD 79 undef = .bool false := H 1 8 79 (by kernel_rfl) rfl
                have g79 := Array.getD_eq_getD_getElem?.symm.trans h79
                have k79 := Inv.some_bool g79
                clear H O
                have a0 := hC.2.1.cell 0
                have al := hC.2.1.lt
                simp at a0
                go_simp
                exact hK _ _ (Below.refl _ _) (fun _ => rfl)
              · intro act wa hC hd H O K hK
                clear hd
                obtain ⟨hC, hX, hB⟩ := hC
                have h82 : act.tmps.getD 82 undef = .pointer (some ⟨g2, 0, none⟩) := H 1 11 82 (by kernel_rfl) rfl
                have g82 := Array.getD_eq_getD_getElem?.symm.trans h82
                have h79 : act.tmps.getD 79 undef = .bool false := H 1 8 79 (by kernel_rfl) rfl
                have g79 := Array.getD_eq_getD_getElem?.symm.trans h79
                have k79 := Inv.some_bool g79
                clear H O
                have a0 := hC.2.1.cell 0
                have al := hC.2.1.lt
                simp at a0
                go_simp
                exact hK _ _ (Below.refl _ _) (fun _ => rfl)
              · intro act wa hC hd H O K hK
                clear hd
                obtain ⟨hC, hX, hB⟩ := hC
                have h83 : act.tmps.getD 83 undef = .pointer (some ⟨g2, 0, none⟩) := H 1 12 83 (by kernel_rfl) rfl
                have g83 := Array.getD_eq_getD_getElem?.symm.trans h83
                have h79 : act.tmps.getD 79 undef = .bool false := H 1 8 79 (by kernel_rfl) rfl
                have g79 := Array.getD_eq_getD_getElem?.symm.trans h79
                have k79 := Inv.some_bool g79
                clear H O
                have a0 := hC.2.1.cell 0
                have al := hC.2.1.lt
                simp at a0
                go_simp
                exact hK _ _ (Below.refl _ _) (fun _ => rfl)
              · intro act wa hC hd H O K hK
                clear hd
                obtain ⟨hC, hX, hB⟩ := hC
                have h84 : act.tmps.getD 84 undef = .pointer (some ⟨g2, 0, none⟩) := H 1 13 84 (by kernel_rfl) rfl
                have g84 := Array.getD_eq_getD_getElem?.symm.trans h84
                have h79 : act.tmps.getD 79 undef = .bool false := H 1 8 79 (by kernel_rfl) rfl
                have g79 := Array.getD_eq_getD_getElem?.symm.trans h79
                have k79 := Inv.some_bool g79
                clear H O
                have a0 := hC.2.1.cell 0
                have al := hC.2.1.lt
                simp at a0
                go_simp
                exact hK _ _ (Below.refl _ _) (fun _ => rfl)
              · intro act wa hC hd H O K hK
                clear hd
                obtain ⟨hC, hX, hB⟩ := hC
                have h81 : RdS wa (act.tmps.getD 81 undef) st st.length := H 1 10 81 (by kernel_rfl) rfl
                obtain ⟨A81, c81, h81, r81⟩ := h81
                have h85 : act.tmps.getD 85 undef = .slice AK st.length cK := H 1 14 85 (by kernel_rfl) rfl
                have g85 := Array.getD_eq_getD_getElem?.symm.trans h85
                have h79 : act.tmps.getD 79 undef = .bool false := H 1 8 79 (by kernel_rfl) rfl
                have g79 := Array.getD_eq_getD_getElem?.symm.trans h79
                have k79 := Inv.some_bool g79
                clear H O
                have a0 := hC.2.1.cell 0
                have al := hC.2.1.lt
                simp at a0
                go_simp
                refine (SSame_any wa A81 AK c81 cK st.length st.length _ _ _ _ r81 (own_strs hC.2.2.1) (by simp) (by simp) (by have := HLS.out; omega)).mono ?_
                rintro e1 w1 ⟨rfl, qn, rfl⟩
                rw [decide_eq_true rfl]
                exact hK _ _ (below_drewN (Below.refl _ _) _) (fun _ => rfl)
              · intro act wa hC hd H O K hK
                clear hd
                obtain ⟨hC, hX, hB⟩ := hC
                have h86 : act.tmps.getD 86 undef = .bool true := H 1 15 86 (by kernel_rfl) rfl
                have g86 := Array.getD_eq_getD_getElem?.symm.trans h86
                have h79 : act.tmps.getD 79 undef = .bool false := H 1 8 79 (by kernel_rfl) rfl
                have g79 := Array.getD_eq_getD_getElem?.symm.trans h79
                have k79 := Inv.some_bool g79
                clear H O
                have a0 := hC.2.1.cell 0
                have al := hC.2.1.lt
                simp at a0
                go_simp
                exact hK _ _ (Below.refl _ _) (fun _ => rfl)
              · intro act wa hC hd H O K hK
                clear hd
                obtain ⟨hC, hX, hB⟩ := hC
                have h79 : act.tmps.getD 79 undef = .bool false := H 1 8 79 (by kernel_rfl) rfl
                have g79 := Array.getD_eq_getD_getElem?.symm.trans h79
                have h87 : act.tmps.getD 87 undef = .bool false := H 1 16 87 (by kernel_rfl) rfl
                have g87 := Array.getD_eq_getD_getElem?.symm.trans h87
                clear H O
                have a0 := hC.2.1.cell 0
                have al := hC.2.1.lt
                simp at a0
                go_simp
                exact hK _ _ (Below.refl _ _) (fun _ => rfl)
              · intro act wa hC hd H O K hK
                clear hd
                obtain ⟨hC, hX, hB⟩ := hC
                have h88 : act.tmps.getD 88 undef = .bool false := H 1 17 88 (by kernel_rfl) rfl
                have g88 := Array.getD_eq_getD_getElem?.symm.trans h88
                clear H O
                have a0 := hC.2.1.cell 0
                have al := hC.2.1.lt
                simp at a0
                go_simp
                exact hK _ _ (Below.refl _ _) (fun _ => rfl)
              · intro act wa hC hd H O K hK
                clear hd
                obtain ⟨hC, hX, hB⟩ := hC
                have h7 := O 7 (by kernel_rfl)
                have g7 := Array.getD_eq_getD_getElem?.symm.trans h7
                have h89 : act.tmps.getD 89 undef = .bool false := H 1 18 89 (by kernel_rfl) rfl
                have g89 := Array.getD_eq_getD_getElem?.symm.trans h89
                have k89 := Inv.some_bool g89
                clear H O
                have a0 := hC.2.1.cell 0
                have al := hC.2.1.lt
                simp at a0
                go_simp
                exact hK _ _ (Below.refl _ _) (fun _ => rfl)
              · intro act wa hC hd H O K hK
                clear hd
                obtain ⟨hC, hX, hB⟩ := hC
                have h90 : act.tmps.getD 90 undef = .pointer (some ⟨g1, 0, none⟩) := H 1 19 90 (by kernel_rfl) rfl
                have g90 := Array.getD_eq_getD_getElem?.symm.trans h90
                have h89 : act.tmps.getD 89 undef = .bool false := H 1 18 89 (by kernel_rfl) rfl
                have g89 := Array.getD_eq_getD_getElem?.symm.trans h89
                have k89 := Inv.some_bool g89
                clear H O
                have a0 := hC.2.1.cell 0
                have al := hC.2.1.lt
                simp at a0
                go_simp
                refine (KText_any wa g1 S1 st.length 9000 st hC.1 (by have := HLS.out; omega) (by have := HLS.out; omega) HMS.out (by omega)).mono ?_
                rintro e1 w1 ⟨v8, rfl, hm, -, hb⟩
                rw [HNT.out] at hm
                exact hK _ _ (hb) (fun _ => hm)
              · intro act wa hC hd H O K hK
                clear hd
                obtain ⟨hC, hX, hB⟩ := hC
                have h8 := O 8 (by kernel_rfl)
                have g8 := Array.getD_eq_getD_getElem?.symm.trans h8
                have h89 : act.tmps.getD 89 undef = .bool false := H 1 18 89 (by kernel_rfl) rfl
                have g89 := Array.getD_eq_getD_getElem?.symm.trans h89
                have k89 := Inv.some_bool g89
                clear H O
                have a0 := hC.2.1.cell 0
                have al := hC.2.1.lt
                simp at a0
                go_simp
                exact hK _ _ (Below.refl _ _) (fun _ => rfl)
              · intro act wa hC hd H O K hK
                clear hd
                obtain ⟨hC, hX, hB⟩ := hC
                have h92 : act.tmps.getD 92 undef = .pointer (some ⟨g2, 0, none⟩) := H 1 21 92 (by kernel_rfl) rfl
                have g92 := Array.getD_eq_getD_getElem?.symm.trans h92
                have h89 : act.tmps.getD 89 undef = .bool false := H 1 18 89 (by kernel_rfl) rfl
                have g89 := Array.getD_eq_getD_getElem?.symm.trans h89
                have k89 := Inv.some_bool g89
                clear H O
                have a0 := hC.2.1.cell 0
                have al := hC.2.1.lt
                simp at a0
                go_simp
                refine (RText_any wa g2 9000 _ _ st hC.2 (by have := HLS.out; omega) HMS.out (by omega)).mono ?_
                rintro e1 w1 ⟨v8, rfl, hm, -, hb⟩
                rw [HNT.out] at hm
                exact hK _ _ (hb) (fun _ => hm)
              · intro act wa hC hd H O K hK
                clear hd
                obtain ⟨hC, hX, hB⟩ := hC
                have h91 : Made wa (act.tmps.getD 91 undef) (Km.txt st) nt := H 1 20 91 (by kernel_rfl) rfl
                obtain ⟨A91, c91, h91, r91, n91, -⟩ := h91
                have h93 : Made wa (act.tmps.getD 93 undef) (Km.txt st) nt := H 1 22 93 (by kernel_rfl) rfl
                obtain ⟨A93, c93, h93, r93, n93, -⟩ := h93
                have h89 : act.tmps.getD 89 undef = .bool false := H 1 18 89 (by kernel_rfl) rfl
                have g89 := Array.getD_eq_getD_getElem?.symm.trans h89
                have k89 := Inv.some_bool g89
                clear H O
                have a0 := hC.2.1.cell 0
                have al := hC.2.1.lt
                simp at a0
                go_simp
                refine (same_at wa A91 A93 c91 c93 (Km.txt st) (Km.txt st) _ _ nt nt true r91 r93 (by have := HTL.out; unfold maxLen; omega) HNT.out HNT.out (decide_eq_true rfl)).mono ?_
                rintro e1 w1 ⟨rfl, qn, rfl⟩
                exact hK _ _ (below_drewN (Below.refl _ _) _) (fun _ => rfl)
              · intro act wa hC hd H O K hK
                clear hd
                obtain ⟨hC, hX, hB⟩ := hC
                have h94 : act.tmps.getD 94 undef = .bool true := H 1 23 94 (by kernel_rfl) rfl
                have g94 := Array.getD_eq_getD_getElem?.symm.trans h94
                have h89 : act.tmps.getD 89 undef = .bool false := H 1 18 89 (by kernel_rfl) rfl
                have g89 := Array.getD_eq_getD_getElem?.symm.trans h89
                have k89 := Inv.some_bool g89
                clear H O
                have a0 := hC.2.1.cell 0
                have al := hC.2.1.lt
                simp at a0
                go_simp
                exact hK _ _ (Below.refl _ _) (fun _ => rfl)
              · intro act wa hC hd H O K hK
                clear hd
                obtain ⟨hC, hX, hB⟩ := hC
                have h89 : act.tmps.getD 89 undef = .bool false := H 1 18 89 (by kernel_rfl) rfl
                have g89 := Array.getD_eq_getD_getElem?.symm.trans h89
                have h95 : act.tmps.getD 95 undef = .bool false := H 1 24 95 (by kernel_rfl) rfl
                have g95 := Array.getD_eq_getD_getElem?.symm.trans h95
                clear H O
                have a0 := hC.2.1.cell 0
                have al := hC.2.1.lt
                simp at a0
                go_simp
                exact hK _ _ (Below.refl _ _) (fun _ => rfl)
            · intro us w' hC hF
              obtain ⟨hC, hX, hB⟩ := hC
              have u96 : us 96 = .bool false := hF 25 96 rfl
              clear hF
              simp only [List.foldl]
              go_simp
              try rw [u96]
              obtain ⟨w7, hw7⟩ : ∃ x, x = w' := ⟨_, rfl⟩
              rw [← hw7] at hC hX hB ⊢
              clear hw7 u96
              have HX7 := Lib.hid hX; have B7 := Lib.hid hB
              clear hC hX hB
              go_wp2
              refine Inv.region_below (fun i v w' => match i with
                  | 0 => v = .pointer (some ⟨g3, 0, none⟩)
                  | 1 => v = .bool false
                  | 2 => v = .bool false
                  | 3 => v = .pointer (some ⟨g3, 0, none⟩)
                  | 4 => RdS w' (v) tt tt.length
                  | 5 => v = .pointer (some ⟨g4, 0, none⟩)
                  | 6 => v = .pointer (some ⟨g4, 0, none⟩)
                  | 7 => v = .pointer (some ⟨g4, 0, none⟩)
                  | 8 => v = .slice AX tt.length cX
                  | 9 => v = .bool true
                  | 10 => v = .bool true
                  | 11 => v = .pointer (some ⟨g3, 0, none⟩)
                  | 12 => Made w' (v) bs len2
                  | 13 => v = .slice A2 len2 cap2
                  | 14 => v = .bool true
                  | 15 => v = .bool true
                  | 16 => v = .bool true
                  | 17 => v = .bool true
                  | _ => True)
                (fun w' => KT2 w' g3 S3 tt.length g4 (.slice AX tt.length cX) (.slice AY tt.length cY) tt ∧ Below w.heap.size w w') 114 [97, 98, 99, 100, 101, 102, 103, 104, 105, 106, 107, 108, 109, 110, 111, 112, 113, 6] (by kernel_rfl) rfl (by kernel_rfl) (by kernel_rfl) ?_ ?_ ?_ ?_
              · intro v v' hC hb
                obtain ⟨hC, hB⟩ := hC
                exact ⟨hC.below hb, hB.trans (hb.mono hB.size)⟩
              · exact ⟨HX7.out.below (Below.refl _ _).drew, B7.out.drew⟩
              · refine ⟨⟨fun _ _ _ h _ => h, ?_⟩, ⟨fun _ _ _ h _ => h, ?_⟩, ⟨fun _ _ _ h _ => h, ?_⟩, ⟨fun _ _ _ h _ => h, ?_⟩, ⟨fun v w w' h hb => h.below hb, ?_⟩, ⟨fun _ _ _ h _ => h, ?_⟩, ⟨fun _ _ _ h _ => h, ?_⟩, ⟨fun _ _ _ h _ => h, ?_⟩, ⟨fun _ _ _ h _ => h, ?_⟩, ⟨fun _ _ _ h _ => h, ?_⟩, ⟨fun _ _ _ h _ => h, ?_⟩, ⟨fun _ _ _ h _ => h, ?_⟩, ⟨fun v w w' h hb => madeB h hb, ?_⟩, ⟨fun _ _ _ h _ => h, ?_⟩, ⟨fun _ _ _ h _ => h, ?_⟩, ⟨fun _ _ _ h _ => h, ?_⟩, ⟨fun _ _ _ h _ => h, ?_⟩, ⟨fun _ _ _ h _ => h, ?_⟩, trivial⟩
                · intro act wa hC hd H O K hK
                  clear hd
                  obtain ⟨hC, hB⟩ := hC
                  have h9 := O 9 (by kernel_rfl)
                  have g9 := Array.getD_eq_getD_getElem?.symm.trans h9
                  clear H O
                  have a0 := hC.2.1.cell 0
                  have al := hC.2.1.lt
                  simp at a0
                  go_simp
                  exact hK _ _ (Below.refl _ _) (fun _ => rfl)
                · intro act wa hC hd H O K hK
                  clear hd
                  obtain ⟨hC, hB⟩ := hC
                  have h97 : act.tmps.getD 97 undef = .pointer (some ⟨g3, 0, none⟩) := H 1 0 97 (by kernel_rfl) rfl
                  have g97 := Array.getD_eq_getD_getElem?.symm.trans h97
                  clear H O
                  have a0 := hC.2.1.cell 0
                  have al := hC.2.1.lt
                  simp at a0
                  go_simp
                  exact hK _ _ (Below.refl _ _) (fun _ => rfl)
                · intro act wa hC hd H O K hK
                  clear hd
                  obtain ⟨hC, hB⟩ := hC
                  have h98 : act.tmps.getD 98 undef = .bool false := H 1 1 98 (by kernel_rfl) rfl
                  have g98 := Array.getD_eq_getD_getElem?.symm.trans h98
                  clear H O
                  have a0 := hC.2.1.cell 0
                  have al := hC.2.1.lt
                  simp at a0
                  go_simp
                  exact hK _ _ (Below.refl _ _) (fun _ => rfl)
                · intro act wa hC hd H O K hK
                  clear hd
                  obtain ⟨hC, hB⟩ := hC
                  have h9 := O 9 (by kernel_rfl)
                  have g9 := Array.getD_eq_getD_getElem?.symm.trans h9
                  have h99 : act.tmps.getD 99 undef = .bool false := H 1 2 99 (by kernel_rfl) rfl
                  have g99 := Array.getD_eq_getD_getElem?.symm.trans h99
                  have k99 := Inv.some_bool g99
                  clear H O
                  have a0 := hC.2.1.cell 0
                  have al := hC.2.1.lt
                  simp at a0
                  go_simp
                  exact hK _ _ (Below.refl _ _) (fun _ => rfl)
                · intro act wa hC hd H O K hK
                  clear hd
                  obtain ⟨hC, hB⟩ := hC
                  have h100 : act.tmps.getD 100 undef = .pointer (some ⟨g3, 0, none⟩) := H 1 3 100 (by kernel_rfl) rfl
                  have g100 := Array.getD_eq_getD_getElem?.symm.trans h100
                  have h99 : act.tmps.getD 99 undef = .bool false := H 1 2 99 (by kernel_rfl) rfl
                  have g99 := Array.getD_eq_getD_getElem?.symm.trans h99
                  have k99 := Inv.some_bool g99
                  clear H O
                  have a0 := hC.2.1.cell 0
                  have al := hC.2.1.lt
                  simp at a0
                  go_simp
                  refine (KKeys_any wa g3 S3 tt.length tt hC.1 (by omega)).mono ?_
                  rintro e1 w1 ⟨v8, rfl, ho, hb⟩
                  obtain ⟨A8, c8, rfl⟩ := own_sl ho
                  exact hK _ _ (hb) (fun _ => ⟨A8, c8, rfl, own_strs ho⟩)
                · intro act wa hC hd H O K hK
                  clear hd
                  obtain ⟨hC, hB⟩ := hC
                  have h11 := O 11 (by kernel_rfl)
                  have g11 := Array.getD_eq_getD_getElem?.symm.trans h11
                  have h99 : act.tmps.getD 99 undef = .bool false := H 1 2 99 (by kernel_rfl) rfl
                  have g99 := Array.getD_eq_getD_getElem?.symm.trans h99
                  have k99 := Inv.some_bool g99
                  clear H O
                  have a0 := hC.2.1.cell 0
                  have al := hC.2.1.lt
                  simp at a0
                  go_simp
                  exact hK _ _ (Below.refl _ _) (fun _ => rfl)
                · intro act wa hC hd H O K hK
                  clear hd
                  obtain ⟨hC, hB⟩ := hC
                  have h102 : act.tmps.getD 102 undef = .pointer (some ⟨g4, 0, none⟩) := H 1 5 102 (by kernel_rfl) rfl
                  have g102 := Array.getD_eq_getD_getElem?.symm.trans h102
                  have h99 : act.tmps.getD 99 undef = .bool false := H 1 2 99 (by kernel_rfl) rfl
                  have g99 := Array.getD_eq_getD_getElem?.symm.trans h99
                  have k99 := Inv.some_bool g99
                  clear H O
                  have a0 := hC.2.1.cell 0
                  have al := hC.2.1.lt
                  simp at a0
                  go_simp
                  exact hK _ _ (Below.refl _ _) (fun _ => rfl)
                · intro act wa hC hd H O K hK
                  clear hd
                  obtain ⟨hC, hB⟩ := hC
                  have h103 : act.tmps.getD 103 undef = .pointer (some ⟨g4, 0, none⟩) := H 1 6 103 (by kernel_rfl) rfl
                  have g103 := Array.getD_eq_getD_getElem?.symm.trans h103
                  have h99 : act.tmps.getD 99 undef = .bool false := H 1 2 99 (by kernel_rfl) rfl
                  have g99 := Array.getD_eq_getD_getElem?.symm.trans h99
                  have k99 := Inv.some_bool g99
                  clear H O
                  have a0 := hC.2.1.cell 0
                  have al := hC.2.1.lt
                  simp at a0
                  go_simp
                  exact hK _ _ (Below.refl _ _) (fun _ => rfl)
                · intro act wa hC hd H O K hK
                  clear hd
                  obtain ⟨hC, hB⟩ := hC
                  have h104 : act.tmps.getD 104 undef = .pointer (some ⟨g4, 0, none⟩) := H 1 7 104 (by kernel_rfl) rfl
                  have g104 := Array.getD_eq_getD_getElem?.symm.trans h104
                  have h99 : act.tmps.getD 99 undef = .bool false := H 1 2 99 (by kernel_rfl) rfl
                  have g99 := Array.getD_eq_getD_getElem?.symm.trans h99
                  have k99 := Inv.some_bool g99
                  clear H O
                  have a0 := hC.2.1.cell 0
                  have al := hC.2.1.lt
                  simp at a0
                  go_simp
                  exact hK _ _ (Below.refl _ _) (fun _ => rfl)
                · intro act wa hC hd H O K hK
                  clear hd
                  obtain ⟨hC, hB⟩ := hC
                  have h101 : RdS wa (act.tmps.getD 101 undef) tt tt.length := H 1 4 101 (by kernel_rfl) rfl
                  obtain ⟨A101, c101, h101', r101⟩ := h101
                  have h105 : act.tmps.getD 105 undef = .slice AX tt.length cX := H 1 8 105 (by kernel_rfl) rfl
                  have g105 := Array.getD_eq_getD_getElem?.symm.trans h105
                  have h99 : act.tmps.getD 99 undef = .bool false := H 1 2 99 (by kernel_rfl) rfl
                  have g99 := Array.getD_eq_getD_getElem?.symm.trans h99
                  have k99 := Inv.some_bool g99
                  clear H O
                  have a0 := hC.2.1.cell 0
                  have al := hC.2.1.lt
                  simp at a0
                  go_simp
                  refine (SSame_any wa A101 AX c101 cX tt.length tt.length _ _ _ _ r101 (own_strs hC.2.2.1) (by simp) (by simp) (by omega)).mono ?_
                  rintro e1 w1 ⟨rfl, qn, rfl⟩
                  rw [decide_eq_true rfl]
                  exact hK _ _ (below_drewN (Below.refl _ _) _) (fun _ => rfl)
                · intro act wa hC hd H O K hK
                  clear hd
                  obtain ⟨hC, hB⟩ := hC
                  have h106 : act.tmps.getD 106 undef = .bool true := H 1 9 106 (by kernel_rfl) rfl
                  have g106 := Array.getD_eq_getD_getElem?.symm.trans h106
                  have h99 : act.tmps.getD 99 undef = .bool false := H 1 2 99 (by kernel_rfl) rfl
                  have g99 := Array.getD_eq_getD_getElem?.symm.trans h99
                  have k99 := Inv.some_bool g99
                  clear H O
                  have a0 := hC.2.1.cell 0
                  have al := hC.2.1.lt
                  simp at a0
                  go_simp
                  exact hK _ _ (Below.refl _ _) (fun _ => rfl)
                · intro act wa hC hd H O K hK
                  clear hd
                  obtain ⟨hC, hB⟩ := hC
                  have h9 := O 9 (by kernel_rfl)
                  have g9 := Array.getD_eq_getD_getElem?.symm.trans h9
                  have h107 : act.tmps.getD 107 undef = .bool true := H 1 10 107 (by kernel_rfl) rfl
                  have g107 := Array.getD_eq_getD_getElem?.symm.trans h107
                  have k107 := Inv.some_bool g107
                  clear H O
                  have a0 := hC.2.1.cell 0
                  have al := hC.2.1.lt
                  simp at a0
                  go_simp
                  exact hK _ _ (Below.refl _ _) (fun _ => rfl)
                · intro act wa hC hd H O K hK
                  clear hd
                  obtain ⟨hC, hB⟩ := hC
                  have h108 : act.tmps.getD 108 undef = .pointer (some ⟨g3, 0, none⟩) := H 1 11 108 (by kernel_rfl) rfl
                  have g108 := Array.getD_eq_getD_getElem?.symm.trans h108
                  have h107 : act.tmps.getD 107 undef = .bool true := H 1 10 107 (by kernel_rfl) rfl
                  have g107 := Array.getD_eq_getD_getElem?.symm.trans h107
                  have k107 := Inv.some_bool g107
                  clear H O
                  have a0 := hC.2.1.cell 0
                  have al := hC.2.1.lt
                  simp at a0
                  go_simp
                  refine (KText_any wa g3 S3 tt.length len2 tt hC.1 (by omega) (by omega) HM4.out (by omega)).mono ?_
                  rintro e1 w1 ⟨v8, rfl, hm, -, hb⟩
                  rw [HTX.out, HN2.out] at hm
                  exact hK _ _ (hb) (fun _ => hm)
                · intro act wa hC hd H O K hK
                  clear hd
                  obtain ⟨hC, hB⟩ := hC
                  have h2 := O 2 (by kernel_rfl)
                  have g2 := Array.getD_eq_getD_getElem?.symm.trans h2
                  have h107 : act.tmps.getD 107 undef = .bool true := H 1 10 107 (by kernel_rfl) rfl
                  have g107 := Array.getD_eq_getD_getElem?.symm.trans h107
                  have k107 := Inv.some_bool g107
                  clear H O
                  have a0 := hC.2.1.cell 0
                  have al := hC.2.1.lt
                  simp at a0
                  go_simp
                  exact hK _ _ (Below.refl _ _) (fun _ => rfl)
                · intro act wa hC hd H O K hK
                  clear hd
                  obtain ⟨hC, hB⟩ := hC
                  have h109 : Made wa (act.tmps.getD 109 undef) bs len2 := H 1 12 109 (by kernel_rfl) rfl
                  obtain ⟨A109, c109, h109', r109, n109, -⟩ := h109
                  have h110 : act.tmps.getD 110 undef = .slice A2 len2 cap2 := H 1 13 110 (by kernel_rfl) rfl
                  have g110 := Array.getD_eq_getD_getElem?.symm.trans h110
                  have h107 : act.tmps.getD 107 undef = .bool true := H 1 10 107 (by kernel_rfl) rfl
                  have g107 := Array.getD_eq_getD_getElem?.symm.trans h107
                  have k107 := Inv.some_bool g107
                  clear H O
                  have a0 := hC.2.1.cell 0
                  have al := hC.2.1.lt
                  simp at a0
                  go_simp
                  refine (same_at wa A109 A2 c109 cap2 bs bs _ _ len2 len2 true r109 (HR2.out.below hB) (by rw [HN2.out]; unfold maxLen; omega) HN2.out HN2.out (decide_eq_true rfl)).mono ?_
                  rintro e1 w1 ⟨rfl, qn, rfl⟩
                  exact hK _ _ (below_drewN (Below.refl _ _) _) (fun _ => rfl)
                · intro act wa hC hd H O K hK
                  clear hd
                  obtain ⟨hC, hB⟩ := hC
                  have h107 : act.tmps.getD 107 undef = .bool true := H 1 10 107 (by kernel_rfl) rfl
                  have g107 := Array.getD_eq_getD_getElem?.symm.trans h107
                  have h111 : act.tmps.getD 111 undef = .bool true := H 1 14 111 (by kernel_rfl) rfl
                  have g111 := Array.getD_eq_getD_getElem?.symm.trans h111
                  have h99 : act.tmps.getD 99 undef = .bool false := H 1 2 99 (by kernel_rfl) rfl
                  have g99 := Array.getD_eq_getD_getElem?.symm.trans h99
                  have k99 := Inv.some_bool g99
                  clear H O
                  have a0 := hC.2.1.cell 0
                  have al := hC.2.1.lt
                  simp at a0
                  go_simp
                  exact hK _ _ (Below.refl _ _) (fun _ => rfl)
                · intro act wa hC hd H O K hK
                  clear hd
                  obtain ⟨hC, hB⟩ := hC
                  have h99 : act.tmps.getD 99 undef = .bool false := H 1 2 99 (by kernel_rfl) rfl
                  have g99 := Array.getD_eq_getD_getElem?.symm.trans h99
                  have h112 : act.tmps.getD 112 undef = .bool true := H 1 15 112 (by kernel_rfl) rfl
                  have g112 := Array.getD_eq_getD_getElem?.symm.trans h112
                  clear H O
                  have a0 := hC.2.1.cell 0
                  have al := hC.2.1.lt
                  simp at a0
                  go_simp
                  exact hK _ _ (Below.refl _ _) (fun _ => rfl)
                · intro act wa hC hd H O K hK
                  clear hd
                  obtain ⟨hC, hB⟩ := hC
                  have h113 : act.tmps.getD 113 undef = .bool true := H 1 16 113 (by kernel_rfl) rfl
                  have g113 := Array.getD_eq_getD_getElem?.symm.trans h113
                  clear H O
                  have a0 := hC.2.1.cell 0
                  have al := hC.2.1.lt
                  simp at a0
                  go_simp
                  exact hK _ _ (Below.refl _ _) (fun _ => rfl)
              · intro us w' hC hF
                obtain ⟨hC, hB⟩ := hC
                have u6 : us 6 = .bool true := hF 17 6 rfl
                clear hF
                simp only [List.foldl]
                go_simp
                have HP := Lib.hid (show TrueK w (.returned (.bool true)) w' from ⟨rfl, hB⟩)
                try rw [u6]
                clear hC hB
                go_wp2
                go_ret
                exact HP.out
          · rw [HLD.out] at hld2
            simp at hld2
        · go_wp2_with fail
          refine (HRL.out w5 B5.out).mono ?_
          intro en w6 hq
          obtain ⟨hb6, hq⟩ := hq
          have HT6 := Lib.hid (HT5.out.below hb6); have B6 := Lib.hid (B5.out.trans (hb6.mono B5.out.size))
          rcases hq with ⟨g4, vX, vY, t2, hld2, rfl, -⟩ | ⟨e2, he2, hld2, rfl⟩
          · rw [hld] at hld2
            simp at hld2
          · rw [hld] at hld2
            injection hld2 with _ hee
            subst hee
            clear hb6
            have hG := KGet_any w6 g1 S1 st.length st key HT6.out.1 HKY.out
            have hG2 := RGet_any w6 g2 (.slice AK st.length cK) (.slice AV st.length cV) st key HT6.out.2 (by have := HLS.out; omega)
            unfold KGetPost at hG hG2
            obtain ⟨gv, hgv⟩ : ∃ q, Km.ba ((Km.get st key.data.toList).getD []) = q := ⟨_, rfl⟩
            obtain ⟨gi, hgi⟩ : ∃ q, (Km.get st key.data.toList).isSome = q := ⟨_, rfl⟩
            rw [hgv, hgi] at hG hG2
            have HG := Lib.hid hG; have HG2 := Lib.hid hG2
            clear hG hG2 hgv hgi
            go_wp2_with fail
            refine HG.out.mono ?_
            rintro en wx ⟨rfl, rfl⟩
            go_wp2_with fail
            refine HG2.out.mono ?_
            rintro en wx ⟨rfl, rfl⟩
            have HTL : Hid ((Km.txt st).length ≤ 100000000) := Lib.hid (by
              have h3 := txt_le (M := 9000) HMS.out
              have h4 := Nat.mul_le_mul_right (2 * 9000 + 20) HLS.out
              omega)
            obtain ⟨nt, hnt⟩ : ∃ q, (Km.txt st).length = q := ⟨_, rfl⟩
            have HNT := Lib.hid hnt
            clear hnt
            go_wp2
            refine Inv.region_below (fun i v w' => match i with
                | 0 => v = .string gv
                | 1 => v = .string gv
                | 2 => v = .bool false
                | 3 => v = .bool false
                | 4 => v = .bool gi
                | 5 => v = .bool gi
                | 6 => v = .bool false
                | 7 => v = .bool false
                | 8 => v = .bool false
                | 9 => v = .pointer (some ⟨g1, 0, none⟩)
                | 10 => RdS w' (v) st st.length
                | 11 => v = .pointer (some ⟨g2, 0, none⟩)
                | 12 => v = .pointer (some ⟨g2, 0, none⟩)
                | 13 => v = .pointer (some ⟨g2, 0, none⟩)
                | 14 => v = .slice AK st.length cK
                | 15 => v = .bool true
                | 16 => v = .bool false
                | 17 => v = .bool false
                | 18 => v = .bool false
                | 19 => v = .pointer (some ⟨g1, 0, none⟩)
                | 20 => Made w' (v) (Km.txt st) nt
                | 21 => v = .pointer (some ⟨g2, 0, none⟩)
                | 22 => Made w' (v) (Km.txt st) nt
                | 23 => v = .bool true
                | 24 => v = .bool false
                | 25 => v = .bool false
                | _ => True)
              (fun w' => KT2 w' g1 S1 st.length g2 (.slice AK st.length cK) (.slice AV st.length cV) st ∧ (True) ∧ Below w.heap.size w w') 114 [71, 72, 73, 74, 75, 76, 77, 78, 79, 80, 81, 82, 83, 84, 85, 86, 87, 88, 89, 90, 91, 92, 93, 94, 95, 96] (by kernel_rfl) rfl (by kernel_rfl) (by kernel_rfl) ?_ ?_ ?_ ?_
            · intro v v' hC hb
              obtain ⟨hC, hX, hB⟩ := hC
              exact ⟨hC.below hb, trivial, hB.trans (hb.mono hB.size)⟩
            · exact ⟨HT6.out.below (Below.refl _ _).drew, trivial, B6.out.drew⟩
            · refine ⟨⟨fun _ _ _ h _ => h, ?_⟩, ⟨fun _ _ _ h _ => h, ?_⟩, ⟨fun _ _ _ h _ => h, ?_⟩, ⟨fun _ _ _ h _ => h, ?_⟩, ⟨fun _ _ _ h _ => h, ?_⟩, ⟨fun _ _ _ h _ => h, ?_⟩, ⟨fun _ _ _ h _ => h, ?_⟩, ⟨fun _ _ _ h _ => h, ?_⟩, ⟨fun _ _ _ h _ => h, ?_⟩, ⟨fun _ _ _ h _ => h, ?_⟩, ⟨fun v w w' h hb => h.below hb, ?_⟩, ⟨fun _ _ _ h _ => h, ?_⟩, ⟨fun _ _ _ h _ => h, ?_⟩, ⟨fun _ _ _ h _ => h, ?_⟩, ⟨fun _ _ _ h _ => h, ?_⟩, ⟨fun _ _ _ h _ => h, ?_⟩, ⟨fun _ _ _ h _ => h, ?_⟩, ⟨fun _ _ _ h _ => h, ?_⟩, ⟨fun _ _ _ h _ => h, ?_⟩, ⟨fun _ _ _ h _ => h, ?_⟩, ⟨fun v w w' h hb => madeB h hb, ?_⟩, ⟨fun _ _ _ h _ => h, ?_⟩, ⟨fun v w w' h hb => madeB h hb, ?_⟩, ⟨fun _ _ _ h _ => h, ?_⟩, ⟨fun _ _ _ h _ => h, ?_⟩, ⟨fun _ _ _ h _ => h, ?_⟩, trivial⟩
              · intro act wa hC hd H O K hK
                clear hd
                obtain ⟨hC, hX, hB⟩ := hC
                have h13 := O 13 (by kernel_rfl)
                have g13 := Array.getD_eq_getD_getElem?.symm.trans h13
                clear H O
                have a0 := hC.2.1.cell 0
                have al := hC.2.1.lt
                simp at a0
                go_simp
                exact hK _ _ (Below.refl _ _) (fun _ => rfl)
              · intro act wa hC hd H O K hK
                clear hd
                obtain ⟨hC, hX, hB⟩ := hC
                have h15 := O 15 (by kernel_rfl)
                have g15 := Array.getD_eq_getD_getElem?.symm.trans h15
                clear H O
                have a0 := hC.2.1.cell 0
                have al := hC.2.1.lt
                simp at a0
                go_simp
                exact hK _ _ (Below.refl _ _) (fun _ => rfl)
              · intro act wa hC hd H O K hK
                clear hd
                obtain ⟨hC, hX, hB⟩ := hC
                have h71 : act.tmps.getD 71 undef = .string gv := H 1 0 71 (by kernel_rfl) rfl
                have g71 := Array.getD_eq_getD_getElem?.symm.trans h71
                have h72 : act.tmps.getD 72 undef = .string gv := H 1 1 72 (by kernel_rfl) rfl
                have g72 := Array.getD_eq_getD_getElem?.symm.trans h72
                clear H O
                have a0 := hC.2.1.cell 0
                have al := hC.2.1.lt
                simp at a0
                go_simp
                exact hK _ _ (Below.refl _ _) (fun _ => rfl)
              · intro act wa hC hd H O K hK
                clear hd
                obtain ⟨hC, hX, hB⟩ := hC
                have h73 : act.tmps.getD 73 undef = .bool false := H 1 2 73 (by kernel_rfl) rfl
                have g73 := Array.getD_eq_getD_getElem?.symm.trans h73
                clear H O
                have a0 := hC.2.1.cell 0
                have al := hC.2.1.lt
                simp at a0
                go_simp
                exact hK _ _ (Below.refl _ _) (fun _ => rfl)
              · intro act wa hC hd H O K hK
                clear hd
                obtain ⟨hC, hX, hB⟩ := hC
                have h14 := O 14 (by kernel_rfl)
                have g14 := Array.getD_eq_getD_getElem?.symm.trans h14
                have h74 : act.tmps.getD 74 undef = .bool false := H 1 3 74 (by kernel_rfl) rfl
                have g74 := Array.getD_eq_getD_getElem?.symm.trans h74
                have k74 := Inv.some_bool g74
                clear H O
                have a0 := hC.2.1.cell 0
                have al := hC.2.1.lt
                simp at a0
                go_simp
                exact hK _ _ (Below.refl _ _) (fun _ => rfl)
              · intro act wa hC hd H O K hK
                clear hd
                obtain ⟨hC, hX, hB⟩ := hC
                have h16 := O 16 (by kernel_rfl)
                have g16 := Array.getD_eq_getD_getElem?.symm.trans h16
                have h74 : act.tmps.getD 74 undef = .bool false := H 1 3 74 (by kernel_rfl) rfl
                have g74 := Array.getD_eq_getD_getElem?.symm.trans h74
                have k74 := Inv.some_bool g74
                clear H O
                have a0 := hC.2.1.cell 0
                have al := hC.2.1.lt
                simp at a0
                go_simp
                exact hK _ _ (Below.refl _ _) (fun _ => rfl)
              · intro act wa hC hd H O K hK
                clear hd
                obtain ⟨hC, hX, hB⟩ := hC
                have h75 : act.tmps.getD 75 undef = .bool gi := H 1 4 75 (by kernel_rfl) rfl
                have g75 := Array.getD_eq_getD_getElem?.symm.trans h75
                have h76 : act.tmps.getD 76 undef = .bool gi := H 1 5 76 (by kernel_rfl) rfl
                have g76 := Array.getD_eq_getD_getElem?.symm.trans h76
                have h74 : act.tmps.getD 74 undef = .bool false := H 1 3 74 (by kernel_rfl) rfl
                have g74 := Array.getD_eq_getD_getElem?.symm.trans h74
                have k74 := Inv.some_bool g74
                clear H O
                have a0 := hC.2.1.cell 0
                have al := hC.2.1.lt
                simp at a0
                go_simp
                exact hK _ _ (Below.refl _ _) (fun _ => rfl)
              · intro act wa hC hd H O K hK
                clear hd
                obtain ⟨hC, hX, hB⟩ := hC
                have h74 : act.tmps.getD 74 undef = .bool false := H 1 3 74 (by kernel_rfl) rfl
                have g74 := Array.getD_eq_getD_getElem?.symm.trans h74
                have h77 : act.tmps.getD 77 undef = .bool false := H 1 6 77 (by kernel_rfl) rfl
                have g77 := Array.getD_eq_getD_getElem?.symm.trans h77
                clear H O
                have a0 := hC.2.1.cell 0
                have al := hC.2.1.lt
                simp at a0
                go_simp
                exact hK _ _ (Below.refl _ _) (fun _ => rfl)
              · intro act wa hC hd H O K hK
                clear hd
                obtain ⟨hC, hX, hB⟩ := hC
                have h78 : act.tmps.getD 78 undef = .bool false := H 1 7 78 (by kernel_rfl) rfl
                have g78 := Array.getD_eq_getD_getElem?.symm.trans h78
                clear H O
                have a0 := hC.2.1.cell 0
                have al := hC.2.1.lt
                simp at a0
                go_simp
                exact hK _ _ (Below.refl _ _) (fun _ => rfl)
              · intro act wa hC hd H O K hK
                clear hd
                obtain ⟨hC, hX, hB⟩ := hC
                have h7 := O 7 (by kernel_rfl)
                have g7 := Array.getD_eq_getD_getElem?.symm.trans h7
                have h79 : act.tmps.getD 79 undef = .bool false := H 1 8 79 (by kernel_rfl) rfl
                have g79 := Array.getD_eq_getD_getElem?.symm.trans h79
                have k79 := Inv.some_bool g79
                clear H O
                have a0 := hC.2.1.cell 0
                have al := hC.2.1.lt
                simp at a0
                go_simp
                exact hK _ _ (Below.refl _ _) (fun _ => rfl)
              · intro act wa hC hd H O K hK
                clear hd
                obtain ⟨hC, hX, hB⟩ := hC
                have h80 : act.tmps.getD 80 undef = .pointer (some ⟨g1, 0, none⟩) := H 1 9 80 (by kernel_rfl) rfl
                have g80 := Array.getD_eq_getD_getElem?.symm.trans h80
                have h79 : act.tmps.getD 79 undef = .bool false := H 1 8 79 (by kernel_rfl) rfl
                have g79 := Array.getD_eq_getD_getElem?.symm.trans h79
                have k79 := Inv.some_bool g79
                clear H O
                have a0 := hC.2.1.cell 0
                have al := hC.2.1.lt
                simp at a0
                go_simp
                refine (KKeys_any wa g1 S1 st.length st hC.1 (by have := HLS.out; omega)).mono ?_
                rintro e1 w1 ⟨v8, rfl, ho, hb⟩
                obtain ⟨A8, c8, rfl⟩ := own_sl ho
                exact hK _ _ (hb) (fun _ => ⟨A8, c8, rfl, own_strs ho⟩)
              · intro act wa hC hd H O K hK
                clear hd
                obtain ⟨hC, hX, hB⟩ := hC
                have h8 := O 8 (by kernel_rfl)
                have g8 := Array.getD_eq_getD_getElem?.symm.trans h8
                have h79 : act.tmps.getD 79 undef = .bool false := H 1 8 79 (by kernel_rfl) rfl
                have g79 := Array.getD_eq_getD_getElem?.symm.trans h79
                have k79 := Inv.some_bool g79
                clear H O
                have a0 := hC.2.1.cell 0
                have al := hC.2.1.lt
                simp at a0
                go_simp
                exact hK _ _ (Below.refl _ _) (fun _ => rfl)
              · intro act wa hC hd H O K hK
                clear hd
                obtain ⟨hC, hX, hB⟩ := hC
                have h82 : act.tmps.getD 82 undef = .pointer (some ⟨g2, 0, none⟩) := H 1 11 82 (by kernel_rfl) rfl
                have g82 := Array.getD_eq_getD_getElem?.symm.trans h82
                have h79 : act.tmps.getD 79 undef = .bool false := H 1 8 79 (by kernel_rfl) rfl
                have g79 := Array.getD_eq_getD_getElem?.symm.trans h79
                have k79 := Inv.some_bool g79
                clear H O
                have a0 := hC.2.1.cell 0
                have al := hC.2.1.lt
                simp at a0
                go_simp
                exact hK _ _ (Below.refl _ _) (fun _ => rfl)
              · intro act wa hC hd H O K hK
                clear hd
                obtain ⟨hC, hX, hB⟩ := hC
                have h83 : act.tmps.getD 83 undef = .pointer (some ⟨g2, 0, none⟩) := H 1 12 83 (by kernel_rfl) rfl
                have g83 := Array.getD_eq_getD_getElem?.symm.trans h83
                have h79 : act.tmps.getD 79 undef = .bool false := H 1 8 79 (by kernel_rfl) rfl
                have g79 := Array.getD_eq_getD_getElem?.symm.trans h79
                have k79 := Inv.some_bool g79
                clear H O
                have a0 := hC.2.1.cell 0
                have al := hC.2.1.lt
                simp at a0
                go_simp
                exact hK _ _ (Below.refl _ _) (fun _ => rfl)
              · intro act wa hC hd H O K hK
                clear hd
                obtain ⟨hC, hX, hB⟩ := hC
                have h84 : act.tmps.getD 84 undef = .pointer (some ⟨g2, 0, none⟩) := H 1 13 84 (by kernel_rfl) rfl
                have g84 := Array.getD_eq_getD_getElem?.symm.trans h84
                have h79 : act.tmps.getD 79 undef = .bool false := H 1 8 79 (by kernel_rfl) rfl
                have g79 := Array.getD_eq_getD_getElem?.symm.trans h79
                have k79 := Inv.some_bool g79
                clear H O
                have a0 := hC.2.1.cell 0
                have al := hC.2.1.lt
                simp at a0
                go_simp
                exact hK _ _ (Below.refl _ _) (fun _ => rfl)
              · intro act wa hC hd H O K hK
                clear hd
                obtain ⟨hC, hX, hB⟩ := hC
                have h81 : RdS wa (act.tmps.getD 81 undef) st st.length := H 1 10 81 (by kernel_rfl) rfl
                obtain ⟨A81, c81, h81, r81⟩ := h81
                have h85 : act.tmps.getD 85 undef = .slice AK st.length cK := H 1 14 85 (by kernel_rfl) rfl
                have g85 := Array.getD_eq_getD_getElem?.symm.trans h85
                have h79 : act.tmps.getD 79 undef = .bool false := H 1 8 79 (by kernel_rfl) rfl
                have g79 := Array.getD_eq_getD_getElem?.symm.trans h79
                have k79 := Inv.some_bool g79
                clear H O
                have a0 := hC.2.1.cell 0
                have al := hC.2.1.lt
                simp at a0
                go_simp
                refine (SSame_any wa A81 AK c81 cK st.length st.length _ _ _ _ r81 (own_strs hC.2.2.1) (by simp) (by simp) (by have := HLS.out; omega)).mono ?_
                rintro e1 w1 ⟨rfl, qn, rfl⟩
                rw [decide_eq_true rfl]
                exact hK _ _ (below_drewN (Below.refl _ _) _) (fun _ => rfl)
              · intro act wa hC hd H O K hK
                clear hd
                obtain ⟨hC, hX, hB⟩ := hC
                have h86 : act.tmps.getD 86 undef = .bool true := H 1 15 86 (by kernel_rfl) rfl
                have g86 := Array.getD_eq_getD_getElem?.symm.trans h86
                have h79 : act.tmps.getD 79 undef = .bool false := H 1 8 79 (by kernel_rfl) rfl
                have g79 := Array.getD_eq_getD_getElem?.symm.trans h79
                have k79 := Inv.some_bool g79
                clear H O
                have a0 := hC.2.1.cell 0
                have al := hC.2.1.lt
                simp at a0
                go_simp
                exact hK _ _ (Below.refl _ _) (fun _ => rfl)
              · intro act wa hC hd H O K hK
                clear hd
                obtain ⟨hC, hX, hB⟩ := hC
                have h79 : act.tmps.getD 79 undef = .bool false := H 1 8 79 (by kernel_rfl) rfl
                have g79 := Array.getD_eq_getD_getElem?.symm.trans h79
                have h87 : act.tmps.getD 87 undef = .bool false := H 1 16 87 (by kernel_rfl) rfl
                have g87 := Array.getD_eq_getD_getElem?.symm.trans h87
                clear H O
                have a0 := hC.2.1.cell 0
                have al := hC.2.1.lt
                simp at a0
                go_simp
                exact hK _ _ (Below.refl _ _) (fun _ => rfl)
              · intro act wa hC hd H O K hK
                clear hd
                obtain ⟨hC, hX, hB⟩ := hC
                have h88 : act.tmps.getD 88 undef = .bool false := H 1 17 88 (by kernel_rfl) rfl
                have g88 := Array.getD_eq_getD_getElem?.symm.trans h88
                clear H O
                have a0 := hC.2.1.cell 0
                have al := hC.2.1.lt
                simp at a0
                go_simp
                exact hK _ _ (Below.refl _ _) (fun _ => rfl)
              · intro act wa hC hd H O K hK
                clear hd
                obtain ⟨hC, hX, hB⟩ := hC
                have h7 := O 7 (by kernel_rfl)
                have g7 := Array.getD_eq_getD_getElem?.symm.trans h7
                have h89 : act.tmps.getD 89 undef = .bool false := H 1 18 89 (by kernel_rfl) rfl
                have g89 := Array.getD_eq_getD_getElem?.symm.trans h89
                have k89 := Inv.some_bool g89
                clear H O
                have a0 := hC.2.1.cell 0
                have al := hC.2.1.lt
                simp at a0
                go_simp
                exact hK _ _ (Below.refl _ _) (fun _ => rfl)
              · intro act wa hC hd H O K hK
                clear hd
                obtain ⟨hC, hX, hB⟩ := hC
                have h90 : act.tmps.getD 90 undef = .pointer (some ⟨g1, 0, none⟩) := H 1 19 90 (by kernel_rfl) rfl
                have g90 := Array.getD_eq_getD_getElem?.symm.trans h90
                have h89 : act.tmps.getD 89 undef = .bool false := H 1 18 89 (by kernel_rfl) rfl
                have g89 := Array.getD_eq_getD_getElem?.symm.trans h89
                have k89 := Inv.some_bool g89
                clear H O
                have a0 := hC.2.1.cell 0
                have al := hC.2.1.lt
                simp at a0
                go_simp
                refine (KText_any wa g1 S1 st.length 9000 st hC.1 (by have := HLS.out; omega) (by have := HLS.out; omega) HMS.out (by omega)).mono ?_
                rintro e1 w1 ⟨v8, rfl, hm, -, hb⟩
                rw [HNT.out] at hm
                exact hK _ _ (hb) (fun _ => hm)
              · intro act wa hC hd H O K hK
                clear hd
                obtain ⟨hC, hX, hB⟩ := hC
                have h8 := O 8 (by kernel_rfl)
                have g8 := Array.getD_eq_getD_getElem?.symm.trans h8
                have h89 : act.tmps.getD 89 undef = .bool false := H 1 18 89 (by kernel_rfl) rfl
                have g89 := Array.getD_eq_getD_getElem?.symm.trans h89
                have k89 := Inv.some_bool g89
                clear H O
                have a0 := hC.2.1.cell 0
                have al := hC.2.1.lt
                simp at a0
                go_simp
                exact hK _ _ (Below.refl _ _) (fun _ => rfl)
              · intro act wa hC hd H O K hK
                clear hd
                obtain ⟨hC, hX, hB⟩ := hC
                have h92 : act.tmps.getD 92 undef = .pointer (some ⟨g2, 0, none⟩) := H 1 21 92 (by kernel_rfl) rfl
                have g92 := Array.getD_eq_getD_getElem?.symm.trans h92
                have h89 : act.tmps.getD 89 undef = .bool false := H 1 18 89 (by kernel_rfl) rfl
                have g89 := Array.getD_eq_getD_getElem?.symm.trans h89
                have k89 := Inv.some_bool g89
                clear H O
                have a0 := hC.2.1.cell 0
                have al := hC.2.1.lt
                simp at a0
                go_simp
                refine (RText_any wa g2 9000 _ _ st hC.2 (by have := HLS.out; omega) HMS.out (by omega)).mono ?_
                rintro e1 w1 ⟨v8, rfl, hm, -, hb⟩
                rw [HNT.out] at hm
                exact hK _ _ (hb) (fun _ => hm)
              · intro act wa hC hd H O K hK
                clear hd
                obtain ⟨hC, hX, hB⟩ := hC
                have h91 : Made wa (act.tmps.getD 91 undef) (Km.txt st) nt := H 1 20 91 (by kernel_rfl) rfl
                obtain ⟨A91, c91, h91, r91, n91, -⟩ := h91
                have h93 : Made wa (act.tmps.getD 93 undef) (Km.txt st) nt := H 1 22 93 (by kernel_rfl) rfl
                obtain ⟨A93, c93, h93, r93, n93, -⟩ := h93
                have h89 : act.tmps.getD 89 undef = .bool false := H 1 18 89 (by kernel_rfl) rfl
                have g89 := Array.getD_eq_getD_getElem?.symm.trans h89
                have k89 := Inv.some_bool g89
                clear H O
                have a0 := hC.2.1.cell 0
                have al := hC.2.1.lt
                simp at a0
                go_simp
                refine (same_at wa A91 A93 c91 c93 (Km.txt st) (Km.txt st) _ _ nt nt true r91 r93 (by have := HTL.out; unfold maxLen; omega) HNT.out HNT.out (decide_eq_true rfl)).mono ?_
                rintro e1 w1 ⟨rfl, qn, rfl⟩
                exact hK _ _ (below_drewN (Below.refl _ _) _) (fun _ => rfl)
              · intro act wa hC hd H O K hK
                clear hd
                obtain ⟨hC, hX, hB⟩ := hC
                have h94 : act.tmps.getD 94 undef = .bool true := H 1 23 94 (by kernel_rfl) rfl
                have g94 := Array.getD_eq_getD_getElem?.symm.trans h94
                have h89 : act.tmps.getD 89 undef = .bool false := H 1 18 89 (by kernel_rfl) rfl
                have g89 := Array.getD_eq_getD_getElem?.symm.trans h89
                have k89 := Inv.some_bool g89
                clear H O
                have a0 := hC.2.1.cell 0
                have al := hC.2.1.lt
                simp at a0
                go_simp
                exact hK _ _ (Below.refl _ _) (fun _ => rfl)
              · intro act wa hC hd H O K hK
                clear hd
                obtain ⟨hC, hX, hB⟩ := hC
                have h89 : act.tmps.getD 89 undef = .bool false := H 1 18 89 (by kernel_rfl) rfl
                have g89 := Array.getD_eq_getD_getElem?.symm.trans h89
                have h95 : act.tmps.getD 95 undef = .bool false := H 1 24 95 (by kernel_rfl) rfl
                have g95 := Array.getD_eq_getD_getElem?.symm.trans h95
                clear H O
                have a0 := hC.2.1.cell 0
                have al := hC.2.1.lt
                simp at a0
                go_simp
                exact hK _ _ (Below.refl _ _) (fun _ => rfl)
            · intro us w' hC hF
              obtain ⟨hC, hX, hB⟩ := hC
              have u96 : us 96 = .bool false := hF 25 96 rfl
              clear hF
              simp only [List.foldl]
              go_simp
              try rw [u96]
              obtain ⟨w7, hw7⟩ : ∃ x, x = w' := ⟨_, rfl⟩
              rw [← hw7] at hC hB ⊢
              clear hw7 u96
              have HX7 := Lib.hid hX; have B7 := Lib.hid hB
              clear hC hX hB
              have HP := Lib.hid (show TrueK w (.returned (.bool true)) w7 from ⟨rfl, B7.out⟩)
              go_wp2
              go_quiet (fail)
              go_wp2
              go_ret
              exact ⟨rfl, below_drewN HP.out.2 _⟩
end Go.Proofs.Ytahichieakdbnaa
