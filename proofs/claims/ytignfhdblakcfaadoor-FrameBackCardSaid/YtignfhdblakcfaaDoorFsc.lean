/- frame.Scan: its walk. -/
import Derived.Test.YtignfhdblakcfaaDoorSc
import Derived.Test.YtignfhdblakcfaaDoorInv
namespace Go.Proofs.YtignfhdblakcfaaDoor
open Go.ChangeShapes Go.WideShapes Go.ChangeAt Go.RowKit
set_option linter.unusedVariables false
set_option linter.unusedSimpArgs false

theorem infoS : (Tryd.prog.info? 22).map (fun i => (i.zero, i.size, i.bytes)) = some (some (.slice none 0 0), 1, 24) := by kernel_rfl
/-- bytes.Clone of a part, as an own row -/
theorem Clone_own (w : World) (a : Addr) (len cap : Nat) (bs : List Nat) (hr : Rd w w.heap.size (some a) (u8s bs)) (h256 : ∀ b ∈ bs, b < 256) (hn : bs.length = len) (hl : len ≤ 1099511627776) :
    Calls Tryd.prog 25 #[.slice (some a) len cap] w fun e w' => ∃ v, e = .returned v ∧ IsE w' v bs ∧ Below w.heap.size w w' := by
  obtain ⟨i0, hi, hz0, hz1, hz2⟩ := info_parts Tryd.infoB
  have HUL : Hid ((u8s bs).length = len) := Lib.hid (by simp [hn])
  have hb0 := own_lit0 w 5 0 (Nat.zero_le _)
  have hbw := (Below.refl w.heap.size w).alloc (Nat.le_refl _) (.cells #[] 5)
  have HR := Lib.hid hr; have H256 := Lib.hid h256; have HL := Lib.hid hn
  clear hr h256 hn
  have tok1 : True := trivial
  have qT : ∀ (w : World) (a : Option Addr) (n c n' c' : Nat), (binOp .eql 22 (.slice a n c) (.slice none n' c')).run Tryd.prog w = .ok (.bool a.isNone) w := fun w a n c n' c' => Lib.run_eql_slice_nil w _ _ a n c n' c' Tryd.underlying22
  go_enter Tryd.func25, Tryd.ntmps25
  go_wp2_with (first
    | (at_builtin; have _t := tok1; go_must (refine app_own rfl (.tmp 5) (.tmp 6) 22 rfl 0 5 i0 (.int .u8 0) 1 Tryd.underlying22 hi hz0 hz1 hz2 rfl (.slice (some ⟨w.heap.size, 0, none⟩) 0 0) 0 [] rfl hb0 w.heap.size (some a) len cap (u8s bs) rfl HUL.out (HR.out.alloc _) (fun h => by cases h) (u8s_one _) (by unfold maxLen; omega) (by omega) (by simp) ?_; intro v2 w2 ho2 hg2 _hne2; have hb2 := hbw.grown hg2 (by simp) (fun k hk => by simp [Value.ownBlock] at hk; omega); simp only [Nat.zero_add, List.nil_append] at ho2; clear hg2 hb0 hbw tok1))
    | fail)
  go_ret
  exact ⟨v2, rfl, ⟨by rw [HL.out]; exact ho2, H256.out⟩, hb2⟩
theorem Fm.next_zero (b : List Nat) (h : (Fm.next b).2.2 ≠ 0) : (Fm.next b).2.1 = 0 := by
  revert h
  unfold Fm.next
  split
  · intro _; rfl
  · split
    · intro _; rfl
    · split
      · intro _; rfl
      · split
        · intro _; rfl
        · intro h; exact absurd rfl h
def ScanPost (w : World) (bs : List Nat) (e : Ending) (w' : World) : Prop :=
  ∃ v, e = .returned (.tuple #[v, .int .i64 ((Fm.scan bs).2.1 : Int), .int .i64 ((Fm.scan bs).2.2 : Int)]) ∧ RowsM w' v (Fm.scan bs).1 ∧ Below w.heap.size w w'
theorem scanPost {w w' : World} {bs : List Nat} {qs : List (List Nat)} {k d base : Nat} {v : Value} (h : Fm.scan bs = (qs, k, d)) (ho : OwnE w' base v qs) (hb : Below w.heap.size w w') : ScanPost w bs (.returned (.tuple #[v, .int .i64 (k : Int), .int .i64 (d : Int)])) w' := by
  unfold ScanPost; rw [h]; exact ⟨v, rfl, ho.rows, hb⟩
def ScanRel (W : World) (A : Option Addr) (len cap : Nat) (bs : List Nat) (s7 : Value) (wr : World) : Prop :=
  ∃ (k : Nat) (qs : List (List Nat)), k ≤ len ∧ qs.length ≤ k ∧ Hid (Fm.ScI bs qs k) ∧ OwnE wr (W.heap.size + 2) s7 qs ∧ Blk wr (W.heap.size + 1) 3 #[.int .i64 (k : Int)] ∧ Blk wr W.heap.size 22 #[.slice A len cap] ∧ Below W.heap.size W wr
set_option maxHeartbeats 2000000 in
set_option maxRecDepth 100000 in
theorem Scan_any (w : World) (A : Option Addr) (len cap : Nat) (bs : List Nat) (hT : Tab w) (hr : Rd w w.heap.size A (u8s bs)) (h256 : ∀ b ∈ bs, b < 256) (hn : bs.length = len) (hlc : len ≤ cap) (hcm : cap ≤ maxLen) (hl : len ≤ 1000000) :
    Calls Tryd.prog 12 #[.slice A len cap] w (ScanPost w bs) := by
  obtain ⟨i0, hi, hz0, hz1, hz2⟩ := info_parts infoS
  have HT := Lib.hid hT; have HR := Lib.hid hr; have H256 := Lib.hid h256; have HN := Lib.hid hn; have HLC := Lib.hid hlc; have HCM := Lib.hid hcm
  clear hT hr h256 hn
  unfold maxLen at hcm
  have START : ScanRel w A len cap bs (.slice none 0 0) (((w.alloc (.cells #[.slice A len cap] 22)).alloc (.cells #[.int .i64 0] 3))) := by
    have b1 := (Below.refl w.heap.size w).alloc (Nat.le_refl _) (.cells #[.slice A len cap] 22)
    have b2 := b1.alloc b1.size (.cells #[.int .i64 0] 3)
    refine ⟨0, [], Nat.zero_le _, Nat.le_refl _, Lib.hid (Fm.ScI.start bs), ⟨[], rfl, World.ownsRow_nil _ _ _ _, fun j u q hu => by simp at hu⟩, Blk.new' _ _ _ (by simp), (Blk.new w _ _).alloc _, b2⟩
  have HS := Lib.hid START; clear START
  go_enter Tryd.func12, Tryd.ntmps12
  go_wp2
  go_loopw [7] (fun s7 wr => ScanRel w A len cap bs s7 wr) (fun _ wr => len - (intOf ((wr.cell? ⟨w.heap.size + 1, 0, none⟩).getD undef)).toNat)
  case atStart => exact HS.out
  case round =>
    clear HS
    obtain ⟨k, qs, hk, hqk, hsc, hown, hka, hkb, hbel⟩ := hrel
    have HB := Lib.hid hbel
    have a0 : wr.cell? ⟨w.heap.size + 1, 0, none⟩ = some (.int .i64 (k : Int)) := hka.cell 0
    have b0 : wr.cell? ⟨w.heap.size, 0, none⟩ = some (.slice A len cap) := hkb.cell 0
    have hla := hka.lt
    have hlb := hkb.lt
    by_cases hlt : k < len
    · have hlt2 : (k : Int) < (len : Int) := by omega
      obtain ⟨⟨q, s, d⟩, hq⟩ : ∃ r, Fm.next (bs.drop k) = r := ⟨_, rfl⟩
      have HSt := Lib.hid (step_any wr (w.heap.size + 1) w.heap.size A len cap k bs (HT.out.below hbel) hka hkb ((HR.out.below hbel).more hbel.size) H256.out HN.out (by omega) HLC.out HCM.out (by omega))
      rw [hq] at HSt
      have hle := (Fm.next_le (bs.drop k))
      have hq256 := Fm.next_byte (bs.drop k) (fun b hb => H256.out b (List.mem_of_mem_drop hb))
      rw [hq] at hle hq256
      simp only [List.length_drop, HN.out] at hle
      have HOW := Lib.hid hown; have HKA := Lib.hid hka; have HKB := Lib.hid hkb
      by_cases hd : d = 0
      · subst hd
        have hs1 := Fm.next_pos (b := bs.drop k) (by rw [hq])
        rw [hq] at hs1
        simp only at hs1 hle
        have hsc2 := Lib.hid (hsc.out.step (by rw [HN.out]; exact hlt) hq)
        have HQ := Lib.hid hq256
        obtain ⟨lq, hlq⟩ : ∃ lq, q.length = lq := ⟨_, rfl⟩
        have hlq2 : lq ≤ len := by omega
        have HLQ := Lib.hid hlq
        clear hown hka hkb hq hq256 hlq hsc hbel
        go_wp2_with fail
        refine HSt.out.mono ?_
        rintro e w2 ⟨v, rfl, hv, hka2, hgr⟩
        rcases hv with ⟨hd, _⟩ | ⟨_, a, rfl, hra⟩
        · exact absurd rfl hd
        · simp only at hra hka2
          have hown2 := HOW.out.grown hgr HKA.out (by decide) (by decide)
          have hkb2 := HKB.out.grown hgr (by intro h; injection h with h; omega)
          have hb2 := HB.out.trans (Gb.to_below hgr HB.out.size (by omega))
          have HO2 := Lib.hid hown2; have HKA2 := Lib.hid hka2; have HKB2 := Lib.hid hkb2; have HB2 := Lib.hid hb2
          clear hgr hown2 hka2 hkb2 hb2
          rw [HLQ.out]
          go_wp2_with fail
          refine (Clone_own w2 a lq lq q hra HQ.out HLQ.out (by omega)).mono ?_
          rintro e w3 ⟨u, rfl, hu, hb3⟩
          obtain ⟨A', c', rfl, -, -, -, -, -⟩ := own_form hu.1
          obtain ⟨vs, hvl, hvo, hve⟩ := (HO2.out.below hb3).below ((Below.refl _ w3).alloc (Nat.le_refl _) (.cells #[.slice A' q.length c'] 22))
          have hu2 : IsE (w3.alloc (.cells #[.slice A' q.length c'] 22)) (.slice A' q.length c') q := ⟨own_below hu.1 ((Below.refl _ w3).alloc (Nat.le_refl _) _), hu.2⟩
          have hb4 := (HB2.out.trans (hb3.mono HB2.out.size))
          have hb5 := hb4.alloc hb4.size (.cells #[.slice A' q.length c'] 22)
          have hka5 := (HKA2.out.below hb3 HKA2.out.lt).alloc (.cells #[.slice A' q.length c'] 22)
          have hkb5 := (HKB2.out.below hb3 HKB2.out.lt).alloc (.cells #[.slice A' q.length c'] 22)
          have HE := Lib.hid hve; have HU := Lib.hid hu2; have HVL := Lib.hid hvl; have HKA5 := Lib.hid hka5; have HKB5 := Lib.hid hkb5
          clear hve hu2 hu hb3 hra hvl hka5 hkb5
          have tok1 : True := trivial
          go_wp2_with (first
            | (at_builtin; have _t := tok1; go_must (refine wpList_append_own _ rfl (.tmp 25) (.tmp 28) 23 rfl (w.heap.size + 2) 22 i0 (.slice none 0 0) 1 24 Tryd.underlying23 hi hz0 hz1 hz2 rfl (by decide) _ qs.length vs rfl hvo ⟨w3.heap.size, 0, none⟩ 1 1 [.slice A' q.length c'] rfl rfl (one_new _ _ _) (one_cell rfl) (by unfold maxLen; omega) (by omega) (by have := HKA5.out.lt; omega) ?_; intro v6 w6 ho6 hg6 _hne6; have hb6 := hb5.grown hg6 hb5.size (fun k hk => by have := (hvo.lt k hk).1; omega); have hown6 := OwnE.push HVL.out hvo HE.out HU.out hg6 ho6; have hka6 := HKA5.out.grown hg6 (fun h => by have := (hvo.lt _ h.symm).1; omega); have hkb6 := HKB5.out.grown hg6 (fun h => by have := (hvo.lt _ h.symm).1; omega); clear hg6 ho6 hvo hb5 tok1))
            | fail)
          have R := Lib.hid (show ScanRel w A len cap bs v6 w6 from ⟨k + s, qs ++ [q], by omega, by simp; omega, hsc2, hown6, hka6, hkb6, hb6⟩)
          have HM : Hid (w6.cell? ⟨w.heap.size + 1, 0, none⟩ = some (.int .i64 ((k + s : Nat) : Int))) := Lib.hid (hka6.cell 0)
          clear hown6 hka6 hkb6 hb6
          go_wp2
          go_roundw
          case rel => exact R.out
          case measure => rw [HM.out, a0]; simp only [Option.getD_some, intOf]; omega
      · have hdn : ((d : Int) == 0) = false := by simp; omega
        have hsc2 := Lib.hid (hsc.out.err (by rw [HN.out]; exact hlt) hq hd)
        have hs0 := Lib.hid (Fm.next_zero (bs.drop k) (by rw [hq]; exact hd))
        rw [hq] at hs0
        clear hown hka hkb hq hq256 hsc hbel
        go_wp2_with fail
        refine HSt.out.mono ?_
        rintro e w2 ⟨v, rfl, hv, hka2, hgr⟩
        rcases hv with ⟨_, rfl⟩ | ⟨hd0, _⟩
        · simp only at hka2
          rw [show k + s = k by have : s = 0 := hs0.out; omega] at hka2
          have hown2 := HOW.out.grown hgr HKA.out (by decide) (by decide)
          have hb2 := HB.out.trans (Gb.to_below hgr HB.out.size (by omega))
          have HCO := Lib.hid (And.intro hown2 (And.intro hka2 hb2))
          clear hgr hown2 hka2 hb2
          go_wp2
          refine Inv.region_below (fun i v w' => match i with
              | 0 => v = u7
              | 1 => v = .int .i64 (k : Int)
              | 2 => v = .int .i64 (d : Int)
              | 3 => v = u7
              | 4 => v = .int .i64 (k : Int)
              | 5 => v = .int .i64 (d : Int)
              | _ => True)
            (fun w' => OwnE w' (w.heap.size + 2) u7 qs ∧ Blk w' (w.heap.size + 1) 3 #[.int .i64 (k : Int)] ∧ Below w.heap.size w w') 32 [22, 23, 24, 2, 3, 4] (by kernel_rfl) rfl (by kernel_rfl) (by kernel_rfl) ?_ ?_ ?_ ?_
          · intro v v' hC hb
            obtain ⟨hO, hK1, hB⟩ := hC
            exact ⟨hO.below hb, hK1.below hb hK1.lt, hB.trans (hb.mono hB.size)⟩
          · exact ⟨HCO.out.1.below ((Below.refl _ _).drew), HCO.out.2.1.drew, HCO.out.2.2.drew⟩
          · refine ⟨⟨fun _ _ _ h _ => h, ?_⟩, ⟨fun _ _ _ h _ => h, ?_⟩, ⟨fun _ _ _ h _ => h, ?_⟩, ⟨fun _ _ _ h _ => h, ?_⟩, ⟨fun _ _ _ h _ => h, ?_⟩, ⟨fun _ _ _ h _ => h, ?_⟩, trivial⟩
            · intro act wa hC hd H O K hK
              clear hd
              obtain ⟨hO, hK1, hB⟩ := hC
              have h7 := O 7 (by kernel_rfl)
              have g7 := Array.getD_eq_getD_getElem?.symm.trans h7
              clear H O
              have y0 := hK1.cell 0
              simp at y0
              go_simp
              exact hK _ _ (Below.refl _ _) (fun _ => rfl)
            · intro act wa hC hd H O K hK
              clear hd
              obtain ⟨hO, hK1, hB⟩ := hC
              have h5 := O 5 (by kernel_rfl)
              have g5 := Array.getD_eq_getD_getElem?.symm.trans h5
              clear H O
              have y0 := hK1.cell 0
              simp at y0
              go_simp
              exact hK _ _ (Below.refl _ _) (fun _ => rfl)
            · intro act wa hC hd H O K hK
              clear hd
              obtain ⟨hO, hK1, hB⟩ := hC
              have h9 := O 9 (by kernel_rfl)
              have g9 := Array.getD_eq_getD_getElem?.symm.trans h9
              clear H O
              have y0 := hK1.cell 0
              simp at y0
              go_simp
              exact hK _ _ (Below.refl _ _) (fun _ => rfl)
            · intro act wa hC hd H O K hK
              clear hd
              obtain ⟨hO, hK1, hB⟩ := hC
              have h22 : act.tmps.getD 22 undef = u7 := H 1 0 22 (by kernel_rfl) rfl
              have g22 := Array.getD_eq_getD_getElem?.symm.trans h22
              clear H O
              have y0 := hK1.cell 0
              simp at y0
              go_simp
              exact hK _ _ (Below.refl _ _) (fun _ => rfl)
            · intro act wa hC hd H O K hK
              clear hd
              obtain ⟨hO, hK1, hB⟩ := hC
              have h23 : act.tmps.getD 23 undef = .int .i64 (k : Int) := H 1 1 23 (by kernel_rfl) rfl
              have g23 := Array.getD_eq_getD_getElem?.symm.trans h23
              clear H O
              have y0 := hK1.cell 0
              simp at y0
              go_simp
              exact hK _ _ (Below.refl _ _) (fun _ => rfl)
            · intro act wa hC hd H O K hK
              clear hd
              obtain ⟨hO, hK1, hB⟩ := hC
              have h24 : act.tmps.getD 24 undef = .int .i64 (d : Int) := H 1 2 24 (by kernel_rfl) rfl
              have g24 := Array.getD_eq_getD_getElem?.symm.trans h24
              clear H O
              have y0 := hK1.cell 0
              simp at y0
              go_simp
              exact hK _ _ (Below.refl _ _) (fun _ => rfl)
          · intro us w' hC hF
            obtain ⟨hO, hK1, hB⟩ := hC
            have u2 : us 2 = u7 := hF 3 2 rfl
            have u3 : us 3 = .int .i64 (k : Int) := hF 4 3 rfl
            have u4 : us 4 = .int .i64 (d : Int) := hF 5 4 rfl
            clear hF
            simp only [List.foldl]
            go_simp
            have HP := Lib.hid (scanPost (w := w) hsc2.out hO hB)
            clear hO hB hK1
            go_wp2
            go_ret3
            exact HP.out
        · exact absurd hd0 hd
    · obtain rfl : k = len := by omega
      have hsc2 := Lib.hid (hsc.out.fin (by rw [HN.out]; exact Nat.le_refl _))
      have HCO := Lib.hid (And.intro hown (And.intro hka hbel))
      clear hown hka hkb hsc hbel
      go_wp2
      refine Inv.region_below (fun i v w' => match i with
          | 0 => v = u7
          | 1 => v = .int .i64 (k : Int)
          | 2 => v = u7
          | 3 => v = .int .i64 (k : Int)
          | 4 => v = .int .i64 (0 : Int)
          | _ => True)
        (fun w' => OwnE w' (w.heap.size + 2) u7 qs ∧ Blk w' (w.heap.size + 1) 3 #[.int .i64 (k : Int)] ∧ Below w.heap.size w w') 32 [30, 31, 2, 3, 4] (by kernel_rfl) rfl (by kernel_rfl) (by kernel_rfl) ?_ ?_ ?_ ?_
      · intro v v' hC hb
        obtain ⟨hO, hK1, hB⟩ := hC
        exact ⟨hO.below hb, hK1.below hb hK1.lt, hB.trans (hb.mono hB.size)⟩
      · exact ⟨HCO.out.1.below ((Below.refl _ _).drew), HCO.out.2.1.drew, HCO.out.2.2.drew⟩
      · refine ⟨⟨fun _ _ _ h _ => h, ?_⟩, ⟨fun _ _ _ h _ => h, ?_⟩, ⟨fun _ _ _ h _ => h, ?_⟩, ⟨fun _ _ _ h _ => h, ?_⟩, ⟨fun _ _ _ h _ => h, ?_⟩, trivial⟩
        · intro act wa hC hd H O K hK
          clear hd
          obtain ⟨hO, hK1, hB⟩ := hC
          have h7 := O 7 (by kernel_rfl)
          have g7 := Array.getD_eq_getD_getElem?.symm.trans h7
          clear H O
          have y0 := hK1.cell 0
          simp at y0
          go_simp
          exact hK _ _ (Below.refl _ _) (fun _ => rfl)
        · intro act wa hC hd H O K hK
          clear hd
          obtain ⟨hO, hK1, hB⟩ := hC
          have h5 := O 5 (by kernel_rfl)
          have g5 := Array.getD_eq_getD_getElem?.symm.trans h5
          clear H O
          have y0 := hK1.cell 0
          simp at y0
          go_simp
          exact hK _ _ (Below.refl _ _) (fun _ => rfl)
        · intro act wa hC hd H O K hK
          clear hd
          obtain ⟨hO, hK1, hB⟩ := hC
          have h30 : act.tmps.getD 30 undef = u7 := H 1 0 30 (by kernel_rfl) rfl
          have g30 := Array.getD_eq_getD_getElem?.symm.trans h30
          clear H O
          have y0 := hK1.cell 0
          simp at y0
          go_simp
          exact hK _ _ (Below.refl _ _) (fun _ => rfl)
        · intro act wa hC hd H O K hK
          clear hd
          obtain ⟨hO, hK1, hB⟩ := hC
          have h31 : act.tmps.getD 31 undef = .int .i64 (k : Int) := H 1 1 31 (by kernel_rfl) rfl
          have g31 := Array.getD_eq_getD_getElem?.symm.trans h31
          clear H O
          have y0 := hK1.cell 0
          simp at y0
          go_simp
          exact hK _ _ (Below.refl _ _) (fun _ => rfl)
        · intro act wa hC hd H O K hK
          clear hd
          obtain ⟨hO, hK1, hB⟩ := hC
          clear H O
          have y0 := hK1.cell 0
          simp at y0
          go_simp
          exact hK _ _ (Below.refl _ _) (fun _ => rfl)
      · intro us w' hC hF
        obtain ⟨hO, hK1, hB⟩ := hC
        have u2 : us 2 = u7 := hF 2 2 rfl
        have u3 : us 3 = .int .i64 (k : Int) := hF 3 3 rfl
        have u4 : us 4 = .int .i64 (0 : Int) := hF 4 4 rfl
        clear hF
        simp only [List.foldl]
        go_simp
        have HP := Lib.hid (scanPost (w := w) (d := 0) hsc2.out hO hB)
        clear hO hB hK1
        go_wp2
        go_ret3
        exact HP.out
end Go.Proofs.YtignfhdblakcfaaDoor
