/- txn.value. -/
import Derived.Test.YtgjkeccopjgjlaaTck
import Derived.Test.YtgjkeccopjgjlaaDpt
import Derived.Test.YtgjkeccopjgjlaaAt
import Derived.Test.YtgjkeccopjgjlaaSas
namespace Go.Proofs.Ytgjkeccopjgjlaa
open Go.ChangeShapes Go.WideShapes Go.ChangeAt Go.RowKit
set_option linter.unusedVariables false
set_option linter.unusedSimpArgs false
namespace Tm
/-- the bytes of a write's value -/
def valB (x : Wr) : List Nat := if x.2.2 then Vm.enc 0 else Vm.enc (x.2.1.size + 1) ++ sb x.2.1
end Tm
def ValP (w : World) (bs : List Nat) (e : Ending) (w' : World) : Prop := ∃ v, e = .returned v ∧ Made w' v bs bs.length ∧ Below w.heap.size w w'
set_option maxHeartbeats 2000000 in
set_option maxRecDepth 100000 in
theorem value_any (w : World) (x : Wr) (hl : x.2.1.size ≤ 1000000000) : Calls Try.prog 50 #[aggW x] w (ValP w (Tm.valB x)) := by
  obtain ⟨k, v, b⟩ := x
  unfold aggW Tm.valB
  simp only at hl ⊢
  have HB := Lib.hid ((Below.refl w.heap.size w).alloc (Nat.le_refl _) (.cells #[.string k, .string v, .bool b] 73))
  cases b with
  | true =>
    have HC := Lib.hid (fun w => Put_at w 0 (Vm.enc 0) _ (by omega) (by omega) rfl rfl)
    go_enter Try.func50, Try.ntmps50
    go_wp2_with fail
    refine (HC.out _).mono ?_
    rintro e w1 ⟨v1, rfl, hm, hb⟩
    have HP := Lib.hid (show ValP w (Vm.enc 0) (.returned v1) w1 from ⟨v1, rfl, hm, HB.out.trans (hb.mono (by simp))⟩)
    go_wp2
    go_ret
    exact HP.out
  | false =>
    obtain ⟨i0, hi, hz0, hz1, hz2⟩ := info_parts infoU8
    obtain ⟨en, hen⟩ : ∃ en, Vm.enc (v.size + 1) = en := ⟨_, rfl⟩
    have hel : en.length ≤ 10 := by rw [← hen]; exact Nat.le_trans (Vm.enc_le _) (by omega)
    have h256 : ∀ b ∈ en, b < 256 := by rw [← hen]; exact Vm.enc_byte (by omega)
    have hcast : ((v.size + 1 : Nat) : Int) = (v.size : Int) + 1 := by omega
    have HC := Lib.hid (fun w => Put_any w (v.size + 1) (by omega))
    rw [hcast] at HC
    clear hcast
    rw [hen]
    have hw : IntKind.u64.wrap (IntKind.u64.wrap (v.size : Int) + 1) = (v.size : Int) + 1 := by simp only [IntKind.wrap_u64]; omega
    have H256 := Lib.hid h256; have HEN := Lib.hid hen
    clear h256 hen
    go_enter Try.func50, Try.ntmps50
    go_wp2
    go_region_law (first
      | (refine step_append_str rfl (.tmp 11) (.tmp 13) 39 9 rfl (w.alloc (.cells #[.string k, .string v, .bool false] 73)).heap.size 5 i0 Try.underlying39 Try.underlying9 hi hz0 hz1 hz2 v1 _ _ (by simp [Act.eval, Act.put]) HO.out v (by simp [Act.eval, Act.put]) (by have := Vm.enc_le (v.size + 1); unfold maxLen; omega) (by have := Vm.enc_le (v.size + 1); omega) HB1.out.size ?_; intro v3 w3 ho3 hg3; have HO3 := Lib.hid ho3; have HG3 := Lib.hid hg3; clear ho3 hg3)
      | (go_simp; go_at_call 48; refine (HC.out _).mono ?_; rintro e w1 ⟨v1, rfl, ho, hb, hne⟩; have c1 : w1.cell? ⟨w.heap.size, 1, none⟩ = some (.string v) := (hb.cell (p := ⟨w.heap.size, 1, none⟩) (by simp)).trans (by simp); have HB1 := Lib.hid hb; clear hb hne; have HO := Lib.hid ho; have HO := Lib.hid ho; clear ho; go_simp)
      | fail)
    all_goals (
      go_wp2
      go_ret
      have ho3 := HO3.out
      simp only [Nat.zero_add, List.nil_append] at ho3
      rw [strCells_sb, ← u8s_append, HEN.out] at ho3
      have hb1 := HB1.out.trans (below_own HO.out HG3.out (by simp) HB1.out.size)
      have hb2 := (below_drewN HB.out 1).trans (hb1.mono (by simp))
      exact ⟨v3, rfl, made_of_own ho3 (by rw [← HEN.out]) (fun b hb => by
        rcases List.mem_append.1 hb with hb | hb
        · exact H256.out b hb
        · exact sb_byte v b hb), hb2⟩)
end Go.Proofs.Ytgjkeccopjgjlaa
