/- packetboatref03.Scan: its walk. -/
import Derived.Test.YtignfhdblakcfaaDoorFsc
import Derived.Test.YtignfhdblakcfaaDoorRnx
namespace Go.Proofs.YtignfhdblakcfaaDoor
open Go.ChangeShapes Go.WideShapes Go.ChangeAt Go.RowKit
set_option linter.unusedVariables false
set_option linter.unusedSimpArgs false

def RScanRel (W : World) (len : Nat) (bs : List Nat) (s5 s6 : Value) (wr : World) : Prop :=
  ∃ (k : Nat) (qs : List (List Nat)), s6 = .int .i64 (k : Int) ∧ k ≤ len ∧ qs.length ≤ k ∧ Hid (Fm.ScI bs qs k) ∧ OwnE wr W.heap.size s5 qs ∧ Below W.heap.size W wr
set_option maxHeartbeats 2000000 in
set_option maxRecDepth 100000 in
theorem RScan_any (w : World) (A : Option Addr) (len cap : Nat) (bs : List Nat) (hr : Rd w w.heap.size A (u8s bs)) (h256 : ∀ b ∈ bs, b < 256) (hn : bs.length = len) (hlc : len ≤ cap) (hcm : cap ≤ maxLen) (hl : len ≤ 1000000) :
    Calls Tryd.prog 13 #[.slice A len cap] w (ScanPost w bs) := by
  obtain ⟨i0, hi, hz0, hz1, hz2⟩ := info_parts infoS
  have HR := Lib.hid hr; have H256 := Lib.hid h256; have HN := Lib.hid hn; have HLC := Lib.hid hlc; have HCM := Lib.hid hcm
  clear hr h256 hn
  unfold maxLen at hcm
  have START : RScanRel w len bs (.slice (some ⟨w.heap.size, 0, none⟩) 0 0) (.int .i64 0) (w.alloc (.cells #[] 22)) := by
    have b1 := (Below.refl w.heap.size w).alloc (Nat.le_refl _) (.cells #[] 22)
    exact ⟨0, [], rfl, Nat.zero_le _, Nat.le_refl _, Lib.hid (Fm.ScI.start bs), ⟨[], rfl, own_lit0 w _ _ (Nat.le_refl _), fun j u q hu => by simp at hu⟩, b1⟩
  have HS := Lib.hid START; clear START
  go_enter Tryd.func13, Tryd.ntmps13
  go_wp2
  go_loopw [5, 6] (fun s5 s6 wr => RScanRel w len bs s5 s6 wr) (fun _ s6 _ => len - (intOf s6).toNat)
  case atStart => exact HS.out
  case round =>
    clear HS
    obtain ⟨k, qs, rfl, hk, hqk, hsc, hown, hbel⟩ := hrel
    have HB := Lib.hid hbel
    by_cases hlt : k < len
    · have hlt2 : (k : Int) < (len : Int) := by omega
      obtain ⟨A', hs1, hr1, hA'⟩ := slice_from 22 5 Tryd.underlying22 one8 A len cap k (k : Int) rfl (by omega) hlc
      have hrA := hr1 wr wr.heap.size (u8s bs) (by simp [u8s, HN.out]) ((HR.out.below hbel).more hbel.size)
      rw [← u8s_drop] at hrA
      obtain ⟨⟨q, s, d⟩, hq⟩ : ∃ r, Fm.next (bs.drop k) = r := ⟨_, rfl⟩
      obtain ⟨lq, hlq⟩ : ∃ lq, q.length = lq := ⟨_, rfl⟩
      have HSt := Lib.hid (RNext_at wr A' (len - k) (cap - k) (bs.drop k) hrA (fun b hb => H256.out b (List.mem_of_mem_drop hb)) (by simp [HN.out]) (by omega) (by unfold maxLen; omega) (by omega) q s d lq hq hlq)
      have hle := (Fm.next_le (bs.drop k))
      have hq256 := Fm.next_byte (bs.drop k) (fun b hb => H256.out b (List.mem_of_mem_drop hb))
      rw [hq] at hle hq256
      simp only [List.length_drop, HN.out] at hle
      have HOW := Lib.hid hown
      by_cases hd : d = 0
      · subst hd
        have hs1 := Fm.next_pos (b := bs.drop k) (by rw [hq])
        rw [hq] at hs1
        simp only at hs1 hle
        have hsc2 := Lib.hid (hsc.out.step (by rw [HN.out]; exact hlt) hq)
        have HQ := Lib.hid hq256
        have hlq2 : lq ≤ len := by omega
        have HLQ := Lib.hid hlq
        clear hown hq hq256 hlq hsc hbel hrA hr1 hA'
        go_wp2_with fail
        refine HSt.out.mono ?_
        rintro e w3 ⟨v, rfl, hmade, hb3, hown0⟩
        have hu : IsE w3 v q := ⟨by rw [HLQ.out]; exact hown0 (by simp), HQ.out⟩
        obtain ⟨A2, c2, rfl, -, -, -, -, -⟩ := own_form hu.1
        obtain ⟨vs, hvl, hvo, hve⟩ := (HOW.out.below hb3).below ((Below.refl _ w3).alloc (Nat.le_refl _) (.cells #[.slice A2 q.length c2] 22))
        have hu2 : IsE (w3.alloc (.cells #[.slice A2 q.length c2] 22)) (.slice A2 q.length c2) q := ⟨own_below hu.1 ((Below.refl _ w3).alloc (Nat.le_refl _) _), hu.2⟩
        have hb4 := (HB.out.trans (hb3.mono HB.out.size))
        have hb5 := hb4.alloc hb4.size (.cells #[.slice A2 q.length c2] 22)
        have HE := Lib.hid hve; have HU := Lib.hid hu2; have HVL := Lib.hid hvl
        clear hve hu2 hu hb3 hvl hmade hown0
        have tok1 : True := trivial
        go_wp2_with (first
          | (at_builtin; have _t := tok1; go_must (refine wpList_append_own _ rfl (.tmp 28) (.tmp 30) 23 rfl w.heap.size 22 i0 (.slice none 0 0) 1 24 Tryd.underlying23 hi hz0 hz1 hz2 rfl (by decide) _ qs.length vs rfl hvo ⟨w3.heap.size, 0, none⟩ 1 1 [.slice A2 q.length c2] rfl rfl (one_new _ _ _) (one_cell rfl) (by unfold maxLen; omega) (by omega) hb5.size ?_; intro v6 w6 ho6 hg6 _hne6; have hb6 := hb5.grown hg6 hb5.size (fun k hk => (hvo.lt k hk).1); have hown6 := OwnE.push HVL.out hvo HE.out HU.out hg6 ho6; clear hg6 ho6 hvo hb5 tok1))
          | fail)
        have R := Lib.hid (show RScanRel w len bs v6 (.int .i64 ((k : Int) + (s : Int))) w6 from ⟨k + s, qs ++ [q], by go_num, by omega, by simp; omega, hsc2, hown6, hb6⟩)
        clear hown6 hb6
        go_wp2
        go_roundw
        case rel => exact R.out
        case measure => simp [intOf]; omega
      · have hdn : ((d : Int) == 0) = false := by simp; omega
        have hsc2 := Lib.hid (hsc.out.err (by rw [HN.out]; exact hlt) hq hd)
        clear hown hq hq256 hsc hbel hrA hr1 hA'
        go_wp2_with fail
        refine HSt.out.mono ?_
        rintro e w3 ⟨v, rfl, hmade, hb3, -⟩
        have HP := Lib.hid (scanPost (w := w) hsc2.out (HOW.out.below hb3) (HB.out.trans (hb3.mono HB.out.size)))
        clear hmade hb3
        go_wp2
        go_ret3
        exact HP.out
    · obtain rfl : k = len := by omega
      have hsc2 := Lib.hid (hsc.out.fin (by rw [HN.out]; exact Nat.le_refl _))
      have HP := Lib.hid (scanPost (w := w) (d := 0) hsc2.out hown HB.out)
      clear hown hsc hbel
      go_wp2
      go_ret3
      exact HP.out
end Go.Proofs.YtignfhdblakcfaaDoor
