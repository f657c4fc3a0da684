/- net: New, Len, place, Send, Double. -/
import Derived.Test.YtahichieakdbnaaNt
namespace Go.Proofs.Ytahichieakdbnaa
open Go.ChangeShapes Go.WideShapes Go.ChangeAt Go.RowKit Go.Maps
set_option linter.unusedVariables false
set_option linter.unusedSimpArgs false

theorem NRow.of_key {w : World} {S : Nat → Prop} {ms : Mrow} {row : List Snt} (h : NRow w S ms row) {k : Nat} (hk : k < row.length) : ∃ to A c bs sp, row[k]? = some ((to, bs), sp) ∧ ms[k]? = some (to, .slice A bs.length c, sp) ∧ MadeO w S (.slice A bs.length c) bs bs.length := by
  obtain ⟨m, h1, h2, h3, h4⟩ := h.at_ (List.getElem?_eq_getElem hk)
  obtain ⟨m1, m2, m3⟩ := m
  obtain ⟨A, c, hv, -⟩ := id h4.1
  simp only at h2 h3 h4 hv
  subst hv
  exact ⟨row[k].1.1, A, c, row[k].1.2, row[k].2, List.getElem?_eq_getElem hk, by rw [h1, h2, h3], h4⟩
def NNewPost (w : World) (en : Ending) (w' : World) : Prop := ∃ g S, en = .returned (.pointer (some ⟨g, 0, none⟩)) ∧ NetM w' g S [] ∧ (∀ j, S j → w.heap.size ≤ j) ∧ Below w.heap.size w w'
set_option maxHeartbeats 1000000 in
theorem NNew_any (w : World) : Calls Try.prog 53 #[] w (NNewPost w) := by
  have HP := Lib.hid (show NNewPost w (.returned (.pointer (some ⟨w.heap.size, 0, none⟩))) (w.alloc (.cells #[.slice none 0 0] 138)) from
    ⟨w.heap.size, fun j => j = w.heap.size, rfl, ⟨.slice none 0 0, [], Blk.new w _ _, World.ownsRow_nil _ _ _ _, NRow.nil _ _, fun j => by simp [Value.ownBlock]⟩, fun j hj => by rw [hj]; exact Nat.le_refl _, (Below.refl _ w).alloc (Nat.le_refl _) _⟩)
  go_enter Try.func53, Try.ntmps53
  go_wp2
  go_ret
  exact HP.out
set_option maxHeartbeats 1000000 in
theorem NLen_any (w : World) (g : Nat) (S : Nat → Prop) (row : List Snt) (h : NetM w g S row) : Calls Try.prog 64 #[.pointer (some ⟨g, 0, none⟩)] w (fun en w' => en = .returned (.int .i64 (row.length : Int)) ∧ w = w') := by
  obtain ⟨v, ms, h1, h2, h3, h4⟩ := h
  obtain ⟨A, c, rfl⟩ := own_sl h2
  have a0 : w.cell? ⟨g, 0, none⟩ = some (.slice A row.length c) := h1.cell 0
  clear h1 h2 h3 h4
  go_enter Try.func64, Try.ntmps64
  go_wp2
  go_ret
  exact ⟨rfl, rfl⟩
def PlcPost (w : World) (row : List Snt) (i : Int) (en : Ending) (w' : World) : Prop := w = w' ∧ match Nm.plc row i with
  | none => en = .returned (.tuple #[.int .i64 0, .bool false])
  | some k => en = .returned (.tuple #[.int .i64 (k : Int), .bool true])
set_option maxHeartbeats 1000000 in
theorem plc_any (w : World) (g : Nat) (S : Nat → Prop) (row : List Snt) (i : Int) (h : NetM w g S row) (hi0 : -9223372036854775808 ≤ i) (hi1 : i ≤ 9223372036854775807) (hl : row.length ≤ 64) : Calls Try.prog 86 #[.pointer (some ⟨g, 0, none⟩), .int .i64 i] w (PlcPost w row i) := by
  obtain ⟨v, ms, h1, h2, h3, h4⟩ := h
  obtain ⟨A, c, rfl⟩ := own_sl h2
  have a0 : w.cell? ⟨g, 0, none⟩ = some (.slice A row.length c) := h1.cell 0
  clear h1 h2 h3 h4
  unfold PlcPost Nm.plc
  by_cases hneg : i < 0
  · rw [if_pos (.inl hneg)]
    go_enter Try.func86, Try.ntmps86
    go_wp2
    go_ret2
    exact ⟨rfl, rfl⟩
  · obtain ⟨m, rfl⟩ := Int.eq_ofNat_of_zero_le (show 0 ≤ i by omega)
    by_cases h0 : row.length = 0
    · rw [if_pos (.inr h0)]
      have h0I : (row.length : Int) = 0 := by omega
      obtain ⟨n, hn⟩ : ∃ n, row.length = n := ⟨_, rfl⟩
      rw [hn] at a0 h0
      subst h0
      clear h0I hn
      go_enter Try.func86, Try.ntmps86
      go_wp2
      go_ret2
      exact ⟨rfl, rfl⟩
    · rw [if_neg (by omega)]
      obtain ⟨n, hn⟩ : ∃ n, row.length = n := ⟨_, rfl⟩
      rw [hn] at a0 h0 hl ⊢
      have h0I : (n : Int) ≠ 0 := by omega
      have hmod : Int.tmod (m : Int) (n : Int) = ((m % n : Nat) : Int) := by rw [Int.tmod_eq_emod_of_nonneg (by omega)]; rfl
      have hlt := Nat.mod_lt m (show n > 0 by omega)
      have hw : IntKind.i64.wrap ((m % n : Nat) : Int) = ((m % n : Nat) : Int) := IntWalk.i64_in _ ⟨by omega, by omega⟩
      clear hn
      go_enter Try.func86, Try.ntmps86
      go_wp2
      go_ret2
      exact ⟨rfl, rfl⟩
end Go.Proofs.Ytahichieakdbnaa
