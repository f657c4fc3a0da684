/- clock.Right, packetboatref04.Right, .Covers: what only looks at clocks. -/
import Derived.Test.YtahichieakdbnaaW
import Derived.Handy
import Derived.Test.YtahichieakdbnaaInv
namespace Go.Proofs.Ytahichieakdbnaa
open Go.ChangeShapes Go.WideShapes Go.ChangeAt Go.RowKit
set_option linter.unusedVariables false

/-- a clock's value -/
def clk (x y z : Int) : Value := .agg #[.int .i64 x, .int .i64 y, .int .i64 z]
def okB (x : Int) : Bool := decide (0 ≤ x ∧ x ≤ 4611686018427387903)
def rightB (x y z : Int) : Bool := okB x && okB y && okB z
def BoolPost (w : World) (b : Bool) (e : Ending) (w' : World) : Prop := e = .returned (.bool b) ∧ Below w.heap.size w w'
theorem okB_t {x : Int} (h0 : 0 ≤ x) (h1 : x ≤ 4611686018427387903) : okB x = true := by simp [okB, h0, h1]
theorem okB_f {x : Int} (h : ¬ (0 ≤ x ∧ x ≤ 4611686018427387903)) : okB x = false := by simp only [okB, decide_eq_false_iff_not]; exact h
theorem boolPost {w w' : World} {b c : Bool} (h : b = c) (hb : Below w.heap.size w w') : BoolPost w c (.returned (.bool b)) w' := ⟨by rw [h], hb⟩

def covB (a b c x y z : Int) : Bool := decide (x ≤ a ∧ y ≤ b ∧ z ≤ c)
theorem covB_t {a b c x y z : Int} (h1 : x ≤ a) (h2 : y ≤ b) (h3 : z ≤ c) : covB a b c x y z = true := by simp [covB, h1, h2, h3]
theorem covB_f {a b c x y z : Int} (h : ¬ (x ≤ a ∧ y ≤ b ∧ z ≤ c)) : covB a b c x y z = false := by simp only [covB, decide_eq_false_iff_not]; exact h
theorem right_le {a b c : Int} (h : rightB a b c = true) : (0 ≤ a ∧ a ≤ 4611686018427387903) ∧ (0 ≤ b ∧ b ≤ 4611686018427387903) ∧ (0 ≤ c ∧ c ≤ 4611686018427387903) := by
  simpa [rightB, okB, and_assoc] using h

end Go.Proofs.Ytahichieakdbnaa
