/- law 7's Large; transactions that come in; law 16's KvLast. -/
import Derived.Test.YtahichieakdbnaaKa
import Derived.BigQuiet
namespace Go.Proofs.Ytahichieakdbnaa
open Go.ChangeShapes Go.WideShapes Go.ChangeAt Go.RowKit Go.Maps Go.Deep
set_option linter.unusedVariables false
set_option linter.unusedSimpArgs false

theorem open_txns {H : Type} {enc : TypeId × Value → H} {W : World} {b : Nat} {spare : Nat → Bool} {held : Bool} {A : Option Addr} {len cap : Nat} {d : DataW H} {p : List MemPlace}
    (h : DataW.Trod enc Try.prog W b spare held 57 (.slice A len cap) d p) : ∃ ts : List Txn, ts.length = len ∧ len ≤ cap ∧ cap ≤ maxLen ∧ TxR W W.heap.size A ts :=
  open_str Try.underlying57 czTxn (by omega) _ (fun fuel cs x hl h => open_txn hl h) h
def Lg7Post (w : World) (ts : List Txn) (e : Ending) (w' : World) : Prop := (∃ b, e = .returned (.bool b) ∧ (b = false → ts.length ≤ 30 ∧ ∀ t ∈ ts, FineT t)) ∧ Below w.heap.size w w'
theorem lg7_t {w w' : World} {ts : List Txn} (hb : Below w.heap.size w w') : Lg7Post w ts (.returned (.bool true)) w' := ⟨⟨true, rfl, fun h => by cases h⟩, hb⟩
set_option maxHeartbeats 3000000 in
set_option maxRecDepth 100000 in
theorem Large7_any (w : World) (A : Option Addr) (len cap : Nat) (ts : List Txn) (hr : TxR w w.heap.size A ts) (hn : ts.length = len) (hlc : len ≤ cap) (hcm : cap ≤ maxLen) :
    Calls Try.prog 38 #[.slice A len cap] w (Lg7Post w ts) := by
  have HR := Lib.hid hr; have HN := Lib.hid hn
  have hcm' : cap ≤ 9223372036854775807 := hcm
  by_cases h30 : 30 < len
  · have h30i : (30 : Int) < (len : Int) := by omega
    have HP := Lib.hid (lg7_t (ts := ts) (Below.refl w.heap.size w))
    clear hr hn
    go_enter Try.func38, Try.ntmps38
    go_wp2
    go_ret
    exact HP.out
  · have h30i : ¬ (30 : Int) < (len : Int) := by omega
    clear hr hn
    go_enter Try.func38, Try.ntmps38
    go_wp2
    go_loopw [10] (fun s10 wr => ∃ k : Nat, s10 = .int .i64 (k : Int) ∧ k ≤ len ∧ Hid (∀ (j : Nat) (t : Txn), j < k → ts[j]? = some t → FineT t) ∧ Below w.heap.size w wr) (fun s10 _ => len - (intOf s10).toNat)
    case atStart => exact ⟨0, rfl, Nat.zero_le _, Lib.hid (fun j t hj => absurd hj (by omega)), Below.refl _ _⟩
    case round =>
      obtain ⟨k, rfl, hk, hall, hbel⟩ := hrel
      have HB := Lib.hid hbel
      by_cases hlt : k < len
      · have hltI : (k : Int) < (len : Int) := by omega
        obtain ⟨q, o', o, s, x, y, z, l, Aw, cw, rfl, hq, hx, ⟨y0, y1, y2, y3, y4, y5⟩, hwr, hc1, hc2, hc3, htb⟩ := TxR.row (TxR.below HR.out hbel) (k := k) (by rw [HN.out]; exact hlt)
        have hqw : q < wr.heap.size := Nat.lt_of_lt_of_le hq hbel.size
        obtain ⟨nl, hnl⟩ : ∃ q, l.length = q := ⟨_, rfl⟩
        rw [hnl] at y5
        have hb1 : Below wr.heap.size wr (wr.alloc (.cells #[.int .i64 o, .int .i64 s, .int .i64 x, .int .i64 y, .int .i64 z, .slice Aw nl cw] 80)) := (Below.refl _ wr).alloc (Nat.le_refl _) _
        have HB1 := Lib.hid (hbel.trans (hb1.mono hbel.size))
        have HX := Lib.hid hx
        have HL := Lib.hid (LargeT_any _ o s x y z l Aw nl cw (StR.more (WrR.below hwr (hb1.mono hbel.size)) (Nat.le_trans hbel.size hb1.size)) hnl (by unfold maxLen at hc2; omega))
        clear hbel hb1 hx hwr hnl htb
        go_wp2_with fail
        refine HL.out.mono ?_
        rintro en w2 ⟨⟨b, rfl, hfine⟩, hb2⟩
        have HB2 := Lib.hid (HB1.out.trans (hb2.mono HB1.out.size))
        cases b with
        | true =>
          have HPP := Lib.hid (lg7_t (ts := ts) HB2.out)
          clear hall hb2 HL
          go_wp2
          go_ret
          exact HPP.out
        | false =>
          have R : Hid (∀ (j : Nat) (t : Txn), j < k + 1 → ts[j]? = some t → FineT t) := Lib.hid (fun j t hj ht => by
            by_cases hjk : j = k
            · subst hjk; rw [HX.out] at ht; cases ht; exact hfine rfl
            · exact hall.out j t (by omega) ht)
          clear hall hb2 HL
          go_wp2
          go_roundw
          case rel => exact ⟨k + 1, by go_num, hlt, R, HB2.out⟩
          case measure => simp [intOf]; omega
      · obtain rfl : k = len := by omega
        have HPP := Lib.hid (show Lg7Post w ts (.returned (.bool false)) wr from ⟨⟨false, rfl, fun _ => ⟨by rw [HN.out]; omega, fun t ht => by
          obtain ⟨j, hj⟩ := List.getElem?_of_mem ht
          exact hall.out j t (by have := (List.getElem?_eq_some_iff.1 hj).1; rw [HN.out] at this; exact this) hj⟩⟩, HB.out⟩)
        clear hall hbel
        go_wp2
        go_ret
        exact HPP.out
/-- what is known of a key, once more writes are behind -/
def KL (st : St) (key v : ByteArray) (b : Bool) : Prop := Km.get st key.data.toList = if b = true then some v.data.toList else none
theorem data_inj {a b : ByteArray} (h : a.data.toList = b.data.toList) : a = b := by rw [← Km.ba_data a, ← Km.ba_data b, h]
theorem KL.same {st : St} {key v : ByteArray} {b : Bool} (l : List Wr) (val : ByteArray) (gone : Bool) : KL (Km.appl st (l ++ [(key, val, gone)])) key val (!gone) := by
  unfold KL
  rw [appl_snoc]
  cases gone with
  | true => simp only [if_true]; rw [Km.get_del, if_pos rfl]; rfl
  | false => simp only [Bool.false_eq_true, if_false]; rw [Km.get_put, if_pos rfl]; rfl
theorem KL.other {st : St} {key v k2 : ByteArray} {b : Bool} {l : List Wr} (h : KL (Km.appl st l) key v b) (val : ByteArray) (gone : Bool) (hne : k2 ≠ key) : KL (Km.appl st (l ++ [(k2, val, gone)])) key v b := by
  have hn : ¬ k2.data.toList = key.data.toList := fun e => hne (data_inj e)
  unfold KL at h ⊢
  rw [appl_snoc]
  cases gone with
  | true => simp only [if_true]; rw [Km.get_del, if_neg hn]; exact h
  | false => simp only [Bool.false_eq_true, if_false]; rw [Km.get_put, if_neg hn]; exact h
set_option maxHeartbeats 4000000 in
set_option maxRecDepth 100000 in
theorem KvLast_walk (w : World) (A : Option Addr) (len cap : Nat) (ts : List Txn) (hn : ts.length = len) (hlc : len ≤ cap) (hcm : cap ≤ maxLen) (hr : TxR w w.heap.size A ts) (key : ByteArray) (hkey : key.size ≤ maxLen) :
    Calls Try.prog 7 #[.slice A len cap, .string key] w (TrueK w) := by
  have HR := Lib.hid hr; have HN := Lib.hid hn
  have hcm' : cap ≤ 9223372036854775807 := hcm
  clear hr hn
  go_enter Try.func7, Try.ntmps7
  go_wp2_with fail
  refine (awake16_any w).mono ?_
  rintro en w1 ⟨rfl, hb1⟩
  have B1 := Lib.hid hb1; clear hb1
  go_wp2_with fail
  refine (Large7_any w1 A len cap ts (TxR.step HR.out B1.out) HN.out hlc hcm).mono ?_
  rintro en w2 ⟨⟨lb, rfl, hfine⟩, hb2⟩
  have B2 := Lib.hid (B1.out.trans (hb2.mono B1.out.size)); have HFI := Lib.hid hfine
  clear hb2 hfine
  cases lb with
  | true =>
    have HP := Lib.hid (show TrueK w (.returned (.bool true)) w2 from ⟨rfl, B2.out⟩)
    go_wp2
    go_ret
    exact HP.out
  | false =>
    obtain ⟨h30, hft⟩ := HFI.out rfl
    have hl30 : len ≤ 30 := by rw [← HN.out]; exact h30
    have HFT := Lib.hid hft
    clear hft HFI h30
    go_wp2_with fail
    refine (KFold_any w2 ts A len cap (TxR.step HR.out B2.out) HN.out hl30 (fun t ht => (HFT.out t ht).1)).mono ?_
    rintro en w3 ⟨g, S, rfl, h3, hS, hb3⟩
    have H3 := Lib.hid h3; have B3 := Lib.hid (B2.out.trans (hb3.mono B2.out.size)); have HL3 := Lib.hid h3.lt
    clear h3 hS hb3
    go_wp2
    go_loopw [6, 7, 24] (fun s6 s7 s24 wr => ∃ (k : Nat) (v : ByteArray) (b : Bool), s6 = .string v ∧ s7 = .bool b ∧ s24 = .int .i64 (k : Int) ∧ k ≤ len ∧ Hid (KL (foldT (ts.take k)) key v b) ∧ Below w3.heap.size w3 wr) (fun _ _ s24 _ => len - (intOf s24).toNat)
    case atStart => exact ⟨0, _, _, rfl, rfl, rfl, Nat.zero_le _, Lib.hid (by simp [KL, foldT, Km.get]), Below.refl _ _⟩
    case round =>
      obtain ⟨k, v, b, rfl, rfl, rfl, hk, hKL, hbel⟩ := hrel
      have HB := Lib.hid hbel
      by_cases hlt : k < len
      · have hltI : (k : Int) < (len : Int) := by omega
        have HLT := Lib.hid hlt
        obtain ⟨q, o', o, s, x, y, z, l, Aw, cw, rfl, hq, hx, ⟨y0, y1, y2, y3, y4, y5⟩, hwr, hc1, hc2, hc3, htb⟩ := TxR.row (TxR.below HR.out (B3.out.trans (hbel.mono B3.out.size))) (k := k) (by rw [HN.out]; exact hlt)
        have hqw : q < wr.heap.size := Nat.lt_of_lt_of_le hq (Nat.le_trans B3.out.size hbel.size)
        have htk : foldT (ts.take (k + 1)) = Km.appl (foldT (ts.take k)) l := by rw [List.take_add_one, hx]; exact foldT_snoc _ _
        have HTK := Lib.hid htk
        obtain ⟨nl, hnl⟩ : ∃ q, l.length = q := ⟨_, rfl⟩
        have hl40 := (HFT.out _ (List.mem_of_getElem? hx)).1
        simp only at hl40
        rw [hnl] at y5 hc1 hl40
        have HNL := Lib.hid hnl
        have hb1 : Below wr.heap.size wr (wr.alloc (.cells #[.int .i64 o, .int .i64 s, .int .i64 x, .int .i64 y, .int .i64 z, .slice Aw nl cw] 80)) := (Below.refl _ wr).alloc (Nat.le_refl _) _
        have HB1 := Lib.hid (hbel.trans (hb1.mono hbel.size))
        have HWR := Lib.hid (WrR.below hwr (hb1.mono (Nat.le_trans B3.out.size hbel.size)))
        have hw13 : w.heap.size ≤ w3.heap.size := B3.out.size
        clear hbel hb1 hx htk hnl hwr htb
        go_wp2
        generalize hW : wr.alloc (.cells #[.int .i64 o, .int .i64 s, .int .i64 x, .int .i64 y, .int .i64 z, .slice Aw nl cw] 80) = w4 at HB1 HWR ⊢
        clear hW
        go_loopw [6, 7, 31] (fun s6 s7 s31 wq => ∃ (j : Nat) (v : ByteArray) (b : Bool), s6 = .string v ∧ s7 = .bool b ∧ s31 = .int .i64 (j : Int) ∧ j ≤ nl ∧ Hid (KL (Km.appl (foldT (ts.take k)) (l.take j)) key v b) ∧ Below w4.heap.size w4 wq) (fun _ _ s31 _ => nl - (intOf s31).toNat)
        case atStart => exact ⟨0, v, b, rfl, rfl, rfl, Nat.zero_le _, Lib.hid (by simpa [Km.appl] using hKL.out), Below.refl _ _⟩
        case round =>
          clear hKL
          obtain ⟨j, v, b, rfl, rfl, rfl, hj, hKL, hbel⟩ := hrel
          have HBQ := Lib.hid hbel
          by_cases hjl : j < nl
          · have hjI : (j : Int) < (nl : Int) := by omega
            have HJL := Lib.hid hjl
            obtain ⟨q2, o2, ⟨k2, val, gone⟩, rfl, hq2, hx2, z0, z1, z2⟩ := WrR.row (WrR.below HWR.out (hbel.mono (Nat.le_trans hw13 HB1.out.size))) (k := j) (by rw [HNL.out]; exact hjl)
            simp only at z0 z1 z2
            have hq2w : q2 < wr.heap.size := World.block_lt_of_cell? _ _ z0
            have htk2 : l.take (j + 1) = l.take j ++ [(k2, val, gone)] := by rw [List.take_add_one, hx2]; rfl
            have HT2 := Lib.hid htk2
            have HB2 := Lib.hid (hbel.alloc hbel.size (.cells #[.string k2, .string val, .bool gone] 82))
            clear hbel hx2 htk2
            by_cases hkk : k2 = key
            · subst hkk
              have R := Lib.hid (show KL (Km.appl (foldT (ts.take k)) (l.take (j + 1))) k2 val (!gone) from by rw [HT2.out]; exact KL.same (v := v) (b := b) _ _ _)
              clear hKL
              go_wp2
              go_quiet (fail)
              go_wp2
              go_roundw
              case rel => exact ⟨j + 1, val, !gone, rfl, rfl, by go_num, HJL.out, R, below_drewN HB2.out _⟩
              case measure => simp [intOf]; have := HJL.out; omega
            · have hne := bas_ne hkk
              have R := Lib.hid (show KL (Km.appl (foldT (ts.take k)) (l.take (j + 1))) key v b from by rw [HT2.out]; exact KL.other hKL.out _ _ hkk)
              clear hKL
              go_wp2
              go_roundw
              case rel => exact ⟨j + 1, v, b, rfl, rfl, by go_num, HJL.out, R, HB2.out⟩
              case measure => simp [intOf]; have := HJL.out; omega
          · obtain rfl : j = nl := by omega
            have R := Lib.hid (show KL (foldT (ts.take (k + 1))) key v b from by
              have h := hKL.out
              rw [show l.take j = l from List.take_of_length_le (by rw [HNL.out]; exact Nat.le_refl _)] at h
              rw [HTK.out]; exact h)
            have HB3 := Lib.hid (HB1.out.trans (hbel.mono HB1.out.size))
            clear hKL hbel
            go_wp2
            go_roundw
            case rel => exact ⟨k + 1, v, b, rfl, rfl, by go_num, HLT.out, R, HB3.out⟩
            case measure => simp [intOf]; have := HLT.out; omega
      · obtain rfl : k = len := by omega
        have hkl := hKL.out
        rw [List.take_of_length_le (by rw [HN.out]; exact Nat.le_refl _)] at hkl
        unfold KL at hkl
        have hget := KGet_any wr g S (40 * k) (foldT ts) key (H3.out.below hbel) hkey
        have HP := Lib.hid (show TrueK w (.returned (.bool true)) wr from ⟨rfl, B3.out.trans (hbel.mono B3.out.size)⟩)
        unfold KGetPost at hget
        rw [hkl] at hget
        cases b with
        | true =>
          simp only [if_true, Option.getD_some, Option.isSome_some, Km.ba_data] at hget
          have HG := Lib.hid hget
          clear hbel hKL hkl hget
          go_wp2_with fail
          refine HG.out.mono ?_
          rintro en w5 ⟨rfl, rfl⟩
          go_wp2
          go_ret
          exact HP.out
        | false =>
          simp only [Bool.false_eq_true, if_false, Option.getD_none, Option.isSome_none] at hget
          have e0 : Km.ba [] = ⟨#[]⟩ := rfl
          rw [e0] at hget
          have HG := Lib.hid hget
          clear hbel hKL hkl hget e0
          go_wp2_with fail
          refine HG.out.mono ?_
          rintro en w5 ⟨rfl, rfl⟩
          go_wp2
          go_ret
          exact HP.out
end Go.Proofs.Ytahichieakdbnaa
