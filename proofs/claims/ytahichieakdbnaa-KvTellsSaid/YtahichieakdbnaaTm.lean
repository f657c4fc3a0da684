/- Transactions in plain words. -/
import Derived.Test.YtahichieakdbnaaDm
import Derived.Test.YtahichieakdbnaaClk
import Derived.Test.YtahichieakdbnaaRos
namespace Go.Proofs.Ytahichieakdbnaa
set_option linter.unusedVariables false
/-- a write: its key, its value, or that it is gone -/
abbrev Wr := ByteArray × ByteArray × Bool
/-- a transaction: origin, number, what it depends on, writes -/
abbrev Txn := Int × Int × (Int × Int × Int) × List Wr
namespace Tm
def tooB (x : Wr) : Bool := decide (64 < x.1.size) || decide (256 < x.2.1.size)
def oddB (x : Wr) : Bool := x.2.2 && !decide (x.2.1.size = 0)
def dep (o : Int) (c : Int × Int × Int) : Int := if o = 0 then c.1 else if o = 1 then c.2.1 else c.2.2
def check (t : Txn) : Nat :=
  if ¬ (0 ≤ t.1 ∧ t.1 ≤ 2) then 9
  else if t.2.1 < 1 ∨ 4611686018427387903 < t.2.1 ∨ rightB t.2.2.1.1 t.2.2.1.2.1 t.2.2.1.2.2 = false then 1
  else if dep t.1 t.2.2.1 ≠ t.2.1 - 1 then 11
  else if 16 < t.2.2.2.length ∨ t.2.2.2.any tooB = true then 4
  else if t.2.2.2.any oddB = true then 3 else 0
theorem check_ok {t : Txn} (h : check t = 0) : 0 ≤ t.1 ∧ t.1 ≤ 2 ∧ 1 ≤ t.2.1 ∧ t.2.1 ≤ 4611686018427387903 ∧ rightB t.2.2.1.1 t.2.2.1.2.1 t.2.2.1.2.2 = true ∧ dep t.1 t.2.2.1 = t.2.1 - 1 ∧ t.2.2.2.length ≤ 16 ∧ (∀ x ∈ t.2.2.2, x.1.size ≤ 64 ∧ x.2.1.size ≤ 256) ∧ ∀ x ∈ t.2.2.2, x.2.2 = true → x.2.1.size = 0 := by
  unfold check at h
  split at h
  · cases h
  · next h1 =>
    split at h
    · cases h
    · next h2 =>
      split at h
      · cases h
      · next h3 =>
        split at h
        · cases h
        · next h4 =>
          split at h
          · cases h
          · next h5 =>
            simp only [not_or, Bool.not_eq_false] at h2
            simp only [not_or, Bool.not_eq_true, List.any_eq_false] at h4
            simp only [Bool.not_eq_true, List.any_eq_false] at h5
            refine ⟨by omega, by omega, by omega, by omega, h2.2.2, by omega, by omega, fun x hx => ?_, fun x hx hg => ?_⟩
            · have := h4.2 x hx
              simp [tooB] at this
              omega
            · have := h5 x hx
              simp [oddB, hg] at this
              rw [this]; rfl
end Tm
end Go.Proofs.Ytahichieakdbnaa
