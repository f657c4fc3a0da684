/- ref16: Fold. -/
import Derived.Test.YtahichieakdbnaaQf
namespace Go.Proofs.Ytahichieakdbnaa
open Go.ChangeShapes Go.WideShapes Go.ChangeAt Go.RowKit Go.Maps
set_option linter.unusedVariables false
set_option linter.unusedSimpArgs false

theorem srt_foldT (ts : List Txn) : Km.Srt (foldT ts) := by
  have : ∀ (l : List Txn) (st : St), Km.Srt st → Km.Srt (l.foldl (fun st t => Km.appl st t.2.2.2) st) := by
    intro l
    induction l with
    | nil => intro st h; exact h
    | cons t r ih => intro st h; exact ih _ (h.appl _)
  exact this ts [] List.Pairwise.nil
theorem foldT_len {ts : List Txn} (h : ∀ t ∈ ts, t.2.2.2.length ≤ 40) : (foldT ts).length ≤ 40 * ts.length := by
  have : ∀ (l : List Txn) (st : St), (∀ t ∈ l, t.2.2.2.length ≤ 40) → (l.foldl (fun st t => Km.appl st t.2.2.2) st).length ≤ st.length + 40 * l.length := by
    intro l
    induction l with
    | nil => intro st _; simp
    | cons t r ih =>
      intro st hl
      have h1 := ih (Km.appl st t.2.2.2) (fun t' ht' => hl t' (List.mem_cons_of_mem _ ht'))
      have h2 := appl_len t.2.2.2 st
      have h3 := hl t List.mem_cons_self
      rw [List.foldl_cons, List.length_cons]
      omega
  have h1 := this ts [] h
  simpa [foldT] using h1
theorem rs_new (w : World) : RS (w.alloc (.cells #[.slice none 0 0, .slice none 0 0] 73)) w.heap.size (.slice none 0 0) (.slice none 0 0) [] :=
  ⟨Blk.new _ _ _, World.ownsRow_nil _ _ _ _, World.ownsRow_nil _ _ _ _, fun j hj => by simp [Value.ownBlock] at hj⟩
def RFoldPost (w : World) (st : St) (en : Ending) (w' : World) : Prop := ∃ g vK vV, en = .returned (.pointer (some ⟨g, 0, none⟩)) ∧ RS w' g vK vV st ∧ w.heap.size ≤ g ∧ Below w.heap.size w w'
set_option maxHeartbeats 3000000 in
set_option maxRecDepth 100000 in
theorem RFold_any (w : World) (ts : List Txn) (A : Option Addr) (len cap M : Nat) (hr : TxR w w.heap.size A ts) (hn : ts.length = len) (hl : len ≤ 30) (hw : ∀ t ∈ ts, t.2.2.2.length ≤ 40) (hf : ∀ t ∈ ts, ∀ x ∈ t.2.2.2, x.1.size ≤ M ∧ x.2.1.size ≤ M) (hM2 : M ≤ 100000) :
    Calls Try.prog 40 #[.slice A len cap] w (RFoldPost w (foldT ts)) := by
  have HR := Lib.hid hr; have HN := Lib.hid hn; have HW := Lib.hid hw; have HF := Lib.hid hf
  have H0 := Lib.hid (rs_new w)
  have HB0 := Lib.hid ((Below.refl _ w).alloc (Nat.le_refl _) (.cells #[.slice none 0 0, .slice none 0 0] 73))
  clear hr hn hw hf
  go_enter Try.func40, Try.ntmps40
  go_wp2
  go_loopw [4] (fun s4 wr => ∃ (k : Nat) (vK vV : Value), s4 = .int .i64 (k : Int) ∧ k ≤ len ∧ RS wr w.heap.size vK vV (foldT (ts.take k)) ∧ Below w.heap.size w wr) (fun s4 _ => len - (intOf s4).toNat)
  case atStart => exact ⟨0, _, _, rfl, Nat.zero_le _, by simpa [foldT] using H0.out, HB0.out⟩
  case round =>
    clear H0 HB0
    obtain ⟨k, vK, vV, rfl, hk, hS, hO⟩ := hrel
    have HO := Lib.hid hO; have HS := Lib.hid hS
    by_cases hlt : k < len
    · have hltI : (k : Int) < (len : Int) := by omega
      obtain ⟨q, o', o, s, x, y, z, l, Aw, cw, rfl, hq, hx, ⟨y0, y1, y2, y3, y4, y5⟩, hwr, hc1, hc2, hc3, htb⟩ := TxR.row (TxR.below HR.out hO) (k := k) (by rw [HN.out]; exact hlt)
      have hqw : q < wr.heap.size := Nat.lt_of_lt_of_le hq hO.size
      have hl40 := HW.out _ (List.mem_of_getElem? hx)
      have hfx := HF.out _ (List.mem_of_getElem? hx)
      simp only at hl40 hfx
      have htk : foldT (ts.take (k + 1)) = Km.appl (foldT (ts.take k)) l := by rw [List.take_add_one, hx]; exact foldT_snoc _ _
      have HTK := Lib.hid htk
      obtain ⟨nl, hnl⟩ : ∃ q, l.length = q := ⟨_, rfl⟩
      rw [hnl] at y5 hl40
      have hlk : (foldT (ts.take k)).length ≤ 40 * k := by
        have h1 := foldT_len (ts := ts.take k) (fun t ht => HW.out t (List.mem_of_mem_take ht))
        have h2 := List.length_take_le k ts
        omega
      have HAP := Lib.hid (RApply_any wr w.heap.size vK vV (foldT (ts.take k)) l Aw nl cw M hS (srt_foldT _)
        (StR.more hwr hO.size) (fun g' o'' hA hne hs => by
          obtain ⟨g2, o2, e2, hlt2, -⟩ := hwr hne
          rw [hA] at e2
          injection e2 with e2
          injection e2 with e2 _
          omega) hnl (LeM.fold (fun t ht => HF.out t (List.mem_of_mem_take ht))) hfx hM2 (by omega))
      have HOS := Lib.hid hO.size
      clear hS hO hx htk hwr hnl htb hfx
      go_wp2_with fail
      refine HAP.out.mono ?_
      rintro en w2 ⟨rfl, vK2, vV2, hs2, ho2⟩
      have R := Lib.hid (show ∃ (k' : Nat) (vK vV : Value), (Value.int .i64 ((k : Int) + 1)) = .int .i64 (k' : Int) ∧ k' ≤ len ∧ RS w2 w.heap.size vK vV (foldT (ts.take k')) ∧ Below w.heap.size w w2 from
        ⟨k + 1, vK2, vV2, by go_num, hlt, by rw [HTK.out]; exact hs2, HO.out.trans (ho2.to_below HOS.out (fun j hj => by rw [hj]; exact Nat.le_refl _))⟩)
      clear hs2 ho2 HAP
      go_wp2
      go_roundw
      case rel => exact R.out
      case measure => simp [intOf]; omega
    · obtain rfl : k = len := by omega
      have HP := Lib.hid (show RFoldPost w (foldT ts) (.returned (.pointer (some ⟨w.heap.size, 0, none⟩))) wr from ⟨w.heap.size, vK, vV, rfl, by have h := HS.out; rw [List.take_of_length_le (by rw [HN.out]; exact Nat.le_refl _)] at h; exact h, Nat.le_refl _, HO.out⟩)
      clear hS hO
      go_wp2
      go_ret
      exact HP.out
end Go.Proofs.Ytahichieakdbnaa
