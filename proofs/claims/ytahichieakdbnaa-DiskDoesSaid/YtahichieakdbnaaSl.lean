/- A slice from a place on, and up to one: one value, whatever the capacity is. -/
import Derived.Test.YtahichieakdbnaaW
namespace Go.Proofs.Ytahichieakdbnaa
open Go.ChangeShapes Go.WideShapes Go.ChangeAt Go.RowKit
set_option linter.unusedVariables false

theorem slice_from {P : Program} (t e : TypeId) (ht : P.underlying t = some (.slice e)) (hs : ∀ w, (sizeOf e).run P w = .ok 1 w) (A : Option Addr) (n c k : Nat) (x : Int) (hx : (k : Int) = x) (hk : k ≤ n) (hc : n ≤ c) :
    ∃ A', (∀ w, (Instr.sliceAt t (.slice A n c) (some (.int .i64 x)) none none).run P w = .ok (.slice A' (n - k) (c - k)) w) ∧
      (∀ (w : World) (B : Nat) (xs : List Value), xs.length = n → Rd w B A xs → Rd w B A' (xs.drop k)) ∧ ((A = none → c = 0) → A' = none → c - k = 0) := by
  subst hx
  have he : P.elem t = e := by simp [Program.elem, ht]
  refine ⟨if c = k then A else A.map (·.add (k * 1)), fun w => ?_, fun w B xs hl hr => ?_, fun h1 h2 => ?_⟩
  · rw [run_sliceAt_slice w t _ _ _ _ (by rw [he]; exact ht), run_slice_l w t A n c (by rw [he]; exact ht) .i64 (k : Int) (by omega) (by omega), he, hs]
    simp [sliced]
  · by_cases h : c = k
    · rw [if_pos h]
      have : xs.drop k = [] := List.drop_eq_nil_of_le (by omega)
      rw [this]
      exact Rd.nil _ _ _
    · rw [if_neg h]
      rcases Classical.em (xs = []) with h0 | h0
      · subst h0; simpa using Rd.nil w B _
      · obtain ⟨g, o, rfl⟩ := hr.at_ h0
        have e1 : Option.map (fun (x : Addr) => x.add (k * 1)) (some ⟨g, o, none⟩) = some ⟨g, o + k, none⟩ := by
          rcases Nat.eq_zero_or_pos k with h2 | h2
          · subst h2; simp [Addr.add]
          · simp [Addr.add, Nat.ne_of_gt h2]
        rw [e1]
        exact hr.drop k
  · by_cases h : c = k
    · omega
    · rw [if_neg h] at h2
      cases A with
      | none => have := h1 rfl; omega
      | some a => simp at h2
end Go.Proofs.Ytahichieakdbnaa
