/- kv: Keys, Copy, Fold. -/
import Derived.Test.YtahichieakdbnaaKv
import Derived.Sort.OwnSorted
import Derived.Maps.AppendAt
namespace Go.Proofs.Ytahichieakdbnaa
open Go.ChangeShapes Go.WideShapes Go.ChangeAt Go.RowKit Go.Maps Go.Sort
set_option linter.unusedVariables false
set_option linter.unusedSimpArgs false

theorem infoStrK : (Try.prog.info? 9).map (fun i => (i.zero, i.size, i.bytes)) = some (some (.string ⟨#[]⟩), 1, 16) := by kernel_rfl
def KKeysPost (w : World) (st : St) (en : Ending) (w' : World) : Prop := ∃ v, en = .returned v ∧ w'.ownsRow w.heap.size 9 1 v st.length ((st.map (·.1)).map encStr) ∧ Below w.heap.size w w'
set_option maxHeartbeats 3000000 in
set_option maxRecDepth 100000 in
theorem KKeys_any (w : World) (g : Nat) (S : Nat → Prop) (n : Nat) (st : St) (h : StoreM w g S n st) (hn : n ≤ 1000000) : Calls Try.prog 46 #[.pointer (some ⟨g, 0, none⟩)] w (KKeysPost w st) := by
  obtain ⟨i0, hi, hz0, hz1, hz2⟩ := info_parts infoStrK
  obtain ⟨m, D, h1, h2, h3, h4⟩ := h
  have a0 := h1.cell 0
  simp at a0
  have hown := h2
  have hsz : Maps.size D ≤ 1000000 := Nat.le_trans hown.size_le hn
  have hbl := hown.lt
  have H3 := Lib.hid h3
  clear h1 h2 h3 h4
  go_enter Try.func46, Try.ntmps46
  go_wp2_with (first
    | (at_range; refine wpList_range_own _ rfl (.tmp 8) 128 rfl 9 9 KSt Try.underlying128 (plainElem Try.prog 9) m n D rfl hown ?_; intro w0 hrg0 hg0 hs0))
  have HS0 := Lib.hid hs0
  clear hs0
  go_frame
  go_loopw [3] (fun v wr => ∃ (left : Lit → Bool) (cnt : Nat) (ss : List (List UInt8)), wr.ranges Try.prog 9 (plainElem Try.prog 9) m w.heap.size n D left cnt ∧ ss.length + cnt ≤ Maps.size D ∧
      wr.ownsRow w.heap.size 9 1 v ss.length (ss.map encStr) ∧ Collected D left ss ∧ Below w.heap.size w wr)
    (fun _ wr => wr.rangeLeft m w.heap.size)
  case atStart =>
    exact ⟨_, _, [], hrg0, by simp, World.ownsRow_nil _ _ _ _, Collected.start D, (Below.refl _ _).grown hg0 (Nat.le_refl _) (fun j hj => by cases hj)⟩
  case round =>
    obtain ⟨left, cnt, ss, hrg, hcs, hrow, hC, hnx⟩ := hrel
    go_wp2_with (first
      | (at_next; refine wpList_next_ranges _ rfl (.tmp 9) rfl 9 KSt (plainElem Try.prog 9) encStr encStr (fun key kl hk => by obtain ⟨x, hx, _⟩ := Maps.keyOf_str Try.underlying9 hk; exact ⟨x, hx⟩) (fun v y hv => by obtain ⟨s, rfl, _⟩ := plainElem_string_inv Try.underlying9 hv; exact ⟨s.data.toList, by simp [encStr]⟩) m w.heap.size n _ _ _ rfl hrg ?_ ?_))
    · intro hc0 hl0
      have HKK := Lib.hid (Km.sort_keys H3.out hC hl0)
      rcases hrow.2 with ⟨hnil, h0⟩ | ⟨q, cap, cur, rfl, hbase, hb, e1, e2, e3, e4⟩
      · have hst : st = [] := List.eq_nil_of_length_eq_zero (by rw [← HKK.out.2, h0])
        have HP := Lib.hid (show KKeysPost w st (.returned (.slice none 0 0)) wr from ⟨_, rfl, by rw [hst]; exact World.ownsRow_nil _ _ _ _, hnx⟩)
        subst hnil
        have hc := Try.slices_Sort_string_none none 0 wr
        go_wp2_with fail
        refine hc.mono ?_
        rintro e w' ⟨rfl, rfl⟩
        go_wp2
        go_ret
        exact HP.out
      · have hH : Holds encStr wr q 0 ss.toArray := holds_of_block hb (by simpa using e4)
        have hgl : q < wr.heap.size := (Array.getElem?_eq_some_iff.1 hb).1
        have hc := Try.slices_Sort_string q 0 cap ss wr hH hgl (by omega)
        go_wp2_with fail
        refine hc.mono ?_
        rintro e w' ⟨rfl, nn, os, rfl⟩
        have ho := ownsRow_sorted (w := wr) (base := w.heap.size) (n := nn) (os := os) (ts := ss.mergeSort fun x y => decide (x ≤ y)) (by simp) hbase hb e1 e2 e3
        have e5 : (ss.mergeSort fun x y => decide (x ≤ y)) = st.map (·.1) := HKK.out.1
        rw [e5] at ho ⊢
        have HP := Lib.hid (show KKeysPost w st (.returned (.slice (some ⟨q, 0, none⟩) ss.length cap)) _ from ⟨_, rfl, by rw [← HKK.out.2]; exact ho, hnx.grown (grownBy_sorted _) hnx.size (fun j hj => by cases hj; exact hbase)⟩)
        clear ho
        go_wp2
        go_ret
        exact HP.out
    · intro x c kl yd yp w2 cnt2 hkey hlk hv hat hrg2 hlt hg2 hs2 hen
      obtain ⟨x', ex, rfl, _⟩ := Maps.keyOf_str Try.underlying9 hkey
      obtain rfl : x = x' := encStr_inj ex
      have hrow2 := hrow.kept hg2 (Or.inr (row_ne_iter hrow hrg).symm)
      have hnx2 := hnx.grown hg2 hnx.size (fun j hj => by cases hj; exact Nat.le_refl _)
      have hbs2 : w.heap.size ≤ w2.heap.size := hnx2.size
      clear hs2
      have HRG := Lib.hid hrg; have HRG2 := Lib.hid hrg2; have HNX2 := Lib.hid hnx2; have HR2 := Lib.hid hrow2; have HC := Lib.hid hC; have HAT := Lib.hid hat
      go_wp2_with (first
        | (at_builtin; go_must (refine wpList_append_own_at _ rfl (.tmp 14) (.tmp 16) 70 rfl w.heap.size 9 i0 (.string ⟨#[]⟩) 1 16 Try.underlying70 hi hz0 hz1 hz2 rfl (by decide) _ _ _ rfl (HR2.out.alloc _) ⟨w2.heap.size, 0, none⟩ 1 1 [encStr x] rfl rfl (cell_one_new _ _ _) (by simp [Value.oneCell', encStr]) (by unfold maxLen; omega) (by omega) (by simp; omega) ?_; intro v' w3 hown' hg3 hnil3 hat3; obtain ⟨A3, c3, rfl⟩ := own_sl hown'; have HO := Lib.hid hown'; have HG3 := Lib.hid hg3; clear hown' hg3 hnil3 hat3)))
      have hrg3 := (HRG2.out.alloc (.cells #[encStr x] 9)).kept HG3.out (row_ne_low HR2.out hbl) (row_ne_iter HR2.out HRG2.out)
      have hb3 := (HNX2.out.alloc hbs2 (.cells #[encStr x] 9)).grown HG3.out (by simp; omega) (fun j hj => (HR2.out.lt j hj).1)
      go_roundw
      case rel => exact ⟨_, cnt2, ss ++ [x], hrg3, by simp; omega, by simpa using HO.out, HC.out.step hlk HAT.out, hb3⟩
      case measure => rw [hrg3.left_eq, HRG.out.left_eq]; exact hlt
def KCpPost' (w : World) (n : Nat) (st : St) (en : Ending) (w' : World) : Prop := ∃ g' S', en = .returned (.pointer (some ⟨g', 0, none⟩)) ∧ StoreM w' g' S' n st ∧ (∀ j, S' j → w.heap.size ≤ j) ∧ Below w.heap.size w w'
set_option maxHeartbeats 1000000 in
theorem KCopy_any (w : World) (g : Nat) (S : Nat → Prop) (n : Nat) (st : St) (h : StoreM w g S n st) : Calls Try.prog 49 #[.pointer (some ⟨g, 0, none⟩)] w (KCpPost' w n st) := by
  obtain ⟨m, D, h1, h2, h3, h4⟩ := h
  have a0 := h1.cell 0
  simp at a0
  have hcon := AnyW.maps_Clone_owns Try.laysMclone 9 (plainElem Try.prog 9) m n D w h2
  change Calls Try.prog 84 _ _ _ at hcon
  have HC := Lib.hid hcon; have H3 := Lib.hid h3
  clear h1 h2 h3 h4 hcon
  go_enter Try.func49, Try.ntmps49
  go_wp2_with fail
  refine HC.out.mono ?_
  rintro e1 w1 ⟨rfl, hm1, -, hb⟩
  have HP := Lib.hid (show KCpPost' w n st (.returned (.pointer (some ⟨w1.heap.size, 0, none⟩))) (w1.alloc (.cells #[.map (some w.heap.size)] 130)) from
    ⟨w1.heap.size, fun j => j = w1.heap.size ∨ j = w.heap.size, rfl, ⟨w.heap.size, D, Blk.new _ _ _, hm1.alloc _, H3.out, fun j => Iff.rfl⟩, fun j hj => by have := hb.size; omega, hb.alloc hb.size _⟩)
  clear hm1 hb
  go_wp2
  go_ret
  exact HP.out
/-- what transactions leave -/
def foldT (l : List Txn) : St := l.foldl (fun st t => Km.appl st t.2.2.2) []
theorem foldT_snoc (l : List Txn) (t : Txn) : foldT (l ++ [t]) = Km.appl (foldT l) t.2.2.2 := by unfold foldT; rw [List.foldl_append]; rfl
/-- transactions that can be read -/
abbrev TxR (w : World) (B : Nat) (A : Option Addr) (ts : List Txn) : Prop := StR 6 (RTxn w B) w B A ts
theorem TxR.below {w w' : World} {B : Nat} {A : Option Addr} {ts : List Txn} (h : TxR w B A ts) (hb : Below B w w') : TxR w' B A ts := StR.below h hb (RTxn.below hb)
theorem TxR.step {w w' : World} {A : Option Addr} {ts : List Txn} (h : TxR w w.heap.size A ts) (hb : Below w.heap.size w w') : TxR w' w'.heap.size A ts :=
  StR.more (StR.below h hb (fun cs a hr => RTxn.more hb.size cs a (RTxn.below hb cs a hr))) hb.size
theorem TxR.row {w : World} {B : Nat} {A : Option Addr} {ts : List Txn} (h : TxR w B A ts) {k : Nat} (hk : k < ts.length) : ∃ g o' o s x y z l Aw cw, A = some ⟨g, o', none⟩ ∧ g < B ∧ ts[k]? = some (o, s, (x, y, z), l) ∧
    (w.cell? ⟨g, o' + k * 6, none⟩ = some (.int .i64 o) ∧ w.cell? ⟨g, o' + k * 6 + 1, none⟩ = some (.int .i64 s) ∧ w.cell? ⟨g, o' + k * 6 + 2, none⟩ = some (.int .i64 x) ∧ w.cell? ⟨g, o' + k * 6 + 3, none⟩ = some (.int .i64 y) ∧ w.cell? ⟨g, o' + k * 6 + 4, none⟩ = some (.int .i64 z) ∧ w.cell? ⟨g, o' + k * 6 + 5, none⟩ = some (.slice Aw l.length cw)) ∧
    WrR w B Aw l ∧ l.length ≤ cw ∧ cw ≤ maxLen ∧ (Aw = none → cw = 0) ∧ TxB (o, s, (x, y, z), l) := by
  obtain ⟨g, o', ⟨o, s, ⟨x, y, z⟩, l⟩, cs, e, hg, hk', hl, ⟨Aw, cw, rfl, r⟩, hc⟩ := StR.row h hk
  exact ⟨g, o', o, s, x, y, z, l, Aw, cw, e, hg, hk', ⟨hc 0 _ rfl, hc 1 _ rfl, hc 2 _ rfl, hc 3 _ rfl, hc 4 _ rfl, hc 5 _ rfl⟩, r.1, r.2.1, r.2.2.1, r.2.2.2.1, r.2.2.2.2⟩
def KFoldPost (w : World) (n : Nat) (st : St) (en : Ending) (w' : World) : Prop := ∃ g S, en = .returned (.pointer (some ⟨g, 0, none⟩)) ∧ StoreM w' g S n st ∧ (∀ j, S j → w.heap.size ≤ j) ∧ Below w.heap.size w w'
set_option maxHeartbeats 3000000 in
set_option maxRecDepth 100000 in
theorem KFold_any (w : World) (ts : List Txn) (A : Option Addr) (len cap : Nat) (hr : TxR w w.heap.size A ts) (hn : ts.length = len) (hl : len ≤ 30) (hw : ∀ t ∈ ts, t.2.2.2.length ≤ 40) :
    Calls Try.prog 39 #[.slice A len cap] w (KFoldPost w (40 * len) (foldT ts)) := by
  have HR := Lib.hid hr; have HN := Lib.hid hn; have HW := Lib.hid hw
  clear hr hn hw
  go_enter Try.func39, Try.ntmps39
  go_wp2_with fail
  refine (KNew_any w).mono ?_
  rintro en w0 ⟨g, S, rfl, h0, hS, hb0⟩
  have H0 := Lib.hid h0; have HSS := Lib.hid hS; have HB0 := Lib.hid hb0
  clear h0 hS hb0
  go_wp2
  go_loopw [9] (fun s9 wr => ∃ k : Nat, s9 = .int .i64 (k : Int) ∧ k ≤ len ∧ StoreM wr g S (40 * k) (foldT (ts.take k)) ∧ Below w.heap.size w wr) (fun s9 _ => len - (intOf s9).toNat)
  case atStart => exact ⟨0, rfl, Nat.zero_le _, by simpa [foldT] using H0.out, HB0.out⟩
  case round =>
    obtain ⟨k, rfl, hk, hS, hO⟩ := hrel
    have HO := Lib.hid hO; have HS := Lib.hid hS
    by_cases hlt : k < len
    · have hltI : (k : Int) < (len : Int) := by omega
      obtain ⟨q, o', o, s, x, y, z, l, Aw, cw, rfl, hq, hx, ⟨y0, y1, y2, y3, y4, y5⟩, hwr, hc1, hc2, hc3, htb⟩ := TxR.row (TxR.below HR.out hO) (k := k) (by rw [HN.out]; exact hlt)
      have hqw : q < wr.heap.size := Nat.lt_of_lt_of_le hq hO.size
      have hl40 := HW.out _ (List.mem_of_getElem? hx)
      simp only at hl40
      have htk : foldT (ts.take (k + 1)) = Km.appl (foldT (ts.take k)) l := by rw [List.take_add_one, hx]; exact foldT_snoc _ _
      have HTK := Lib.hid htk
      obtain ⟨nl, hnl⟩ : ∃ q, l.length = q := ⟨_, rfl⟩
      rw [hnl] at y5 hl40
      have hb1 : Below wr.heap.size wr (wr.alloc (.cells #[.int .i64 o, .int .i64 s, .int .i64 x, .int .i64 y, .int .i64 z, .slice Aw nl cw] 80)) := (Below.refl _ wr).alloc (Nat.le_refl _) _
      have HB1 := Lib.hid (hO.trans (hb1.mono hO.size))
      have HAP := Lib.hid (KApply_any (wr.alloc (.cells #[.int .i64 o, .int .i64 s, .int .i64 x, .int .i64 y, .int .i64 z, .slice Aw nl cw] 80)) g S (40 * k) (foldT (ts.take k)) l Aw nl cw (hS.below hb1)
        (StR.more (WrR.below hwr (hb1.mono hO.size)) (Nat.le_trans hO.size hb1.size)) (fun g' o'' hA hne hs => by
          obtain ⟨g2, o2, e2, hlt2, -⟩ := hwr hne
          rw [hA] at e2
          injection e2 with e2
          injection e2 with e2 _
          have := HSS.out g' hs
          omega) hnl (fun x hx => htb.2.2.2 x hx) (by unfold maxLen; omega))
      clear hS hO hx htk hb1 hwr hnl htb
      go_wp2_with fail
      refine HAP.out.mono ?_
      rintro en w2 ⟨rfl, hs2, ho2⟩
      have R := Lib.hid (show ∃ k' : Nat, (Value.int .i64 ((k : Int) + 1)) = .int .i64 (k' : Int) ∧ k' ≤ len ∧ StoreM w2 g S (40 * k') (foldT (ts.take k')) ∧ Below w.heap.size w w2 from
        ⟨k + 1, by go_num, hlt, by rw [HTK.out]; exact hs2.mono (by omega), HB1.out.trans (ho2.to_below HB1.out.size HSS.out)⟩)
      clear hs2 ho2 HAP
      go_wp2
      go_roundw
      case rel => exact R.out
      case measure => simp [intOf]; omega
    · obtain rfl : k = len := by omega
      have HP := Lib.hid (show KFoldPost w (40 * k) (foldT ts) (.returned (.pointer (some ⟨g, 0, none⟩))) wr from ⟨g, S, rfl, by have h := HS.out; rw [List.take_of_length_le (by rw [HN.out]; exact Nat.le_refl _)] at h; exact h, HSS.out, HO.out⟩)
      clear hS hO
      go_wp2
      go_ret
      exact HP.out
end Go.Proofs.Ytahichieakdbnaa
