/- vint's numbers without memory: Zig, Zag, Size; and what stands on Put and Take. -/
import Derived.Test.YtignfhdblakcfaaDoorPut
import Derived.Test.YtignfhdblakcfaaDoorTake
namespace Go.Proofs.YtignfhdblakcfaaDoor
open Go.ChangeShapes Go.WideShapes Go.ChangeAt Go.RowKit
set_option linter.unusedVariables false

def NumPost (w : World) (v : Value) (e : Ending) (w' : World) : Prop := e = .returned v ∧ w = w'
theorem num_ret {w : World} {v v' : Value} (h : v' = v) : NumPost w v (.returned v') w := ⟨by rw [h], rfl⟩
theorem take_range (bs : List Nat) : (Vm.take bs).1 ≤ 18446744073709551615 ∧ (Vm.take bs).2.1 ≤ 10 ∧ (Vm.take bs).2.2 ≤ 3 := by
  have hf : ∀ n l k, Vm.fin n l = some k → k < n ∧ k < l.length := by
    intro n
    induction n with
    | zero => intro l k h; simp [Vm.fin] at h
    | succ n ih =>
      intro l k h
      match l with
      | [] => simp [Vm.fin] at h
      | b :: r =>
        unfold Vm.fin at h
        split at h
        · simp at h; subst h; simp
        · simp only [Option.map_eq_some_iff] at h
          obtain ⟨a, ha, rfl⟩ := h
          have := ih r a ha
          simp; omega
  unfold Vm.take
  split
  · split <;> simp
  · next k hk =>
    have h1 := hf 10 bs k hk
    split
    · simp
    · next hb =>
      refine ⟨Vm.part_64 (j := 0) h1.2 (by omega) (fun h9 => ?_), by simp; omega, by simp⟩
      simp at hb
      have := hb.2 h9
      simpa using this


end Go.Proofs.YtignfhdblakcfaaDoor
