/- clock.Right, packetboatref04.Right, .Covers: what only looks at clocks. -/
import Derived.Test.YtgjkeccopjgjlaaW
import Derived.Handy
import Derived.Test.YtgjkeccopjgjlaaInv
namespace Go.Proofs.Ytgjkeccopjgjlaa
open Go.ChangeShapes Go.WideShapes Go.ChangeAt Go.RowKit
set_option linter.unusedVariables false

/-- a clock's value -/
def clk (x y z : Int) : Value := .agg #[.int .i64 x, .int .i64 y, .int .i64 z]
def okB (x : Int) : Bool := decide (0 ≤ x ∧ x ≤ 4611686018427387903)
def rightB (x y z : Int) : Bool := okB x && okB y && okB z
def BoolPost (w : World) (b : Bool) (e : Ending) (w' : World) : Prop := e = .returned (.bool b) ∧ Below w.heap.size w w'
theorem okB_t {x : Int} (h0 : 0 ≤ x) (h1 : x ≤ 4611686018427387903) : okB x = true := by simp [okB, h0, h1]
theorem okB_f {x : Int} (h : ¬ (0 ≤ x ∧ x ≤ 4611686018427387903)) : okB x = false := by simp only [okB, decide_eq_false_iff_not]; exact h
theorem boolPost {w w' : World} {b c : Bool} (h : b = c) (hb : Below w.heap.size w w') : BoolPost w c (.returned (.bool b)) w' := ⟨by rw [h], hb⟩

set_option maxHeartbeats 1000000 in
theorem Right_any (w : World) (x y z : Int) :
    Calls Try.prog 41 #[.agg #[.int .i64 x, .int .i64 y, .int .i64 z]] w (BoolPost w (rightB x y z)) := by
  have i0 : ∀ w, (Instr.index 29 (.agg #[.int .i64 x, .int .i64 y, .int .i64 z]) (.int .i64 0)).run Try.prog w = .ok (.int .i64 x) w := fun _ => by kernel_rfl
  have i1 : ∀ w, (Instr.index 29 (.agg #[.int .i64 x, .int .i64 y, .int .i64 z]) (.int .i64 1)).run Try.prog w = .ok (.int .i64 y) w := fun _ => by kernel_rfl
  have i2 : ∀ w, (Instr.index 29 (.agg #[.int .i64 x, .int .i64 y, .int .i64 z]) (.int .i64 2)).run Try.prog w = .ok (.int .i64 z) w := fun _ => by kernel_rfl
  have H0 : ∀ c : Bool, c = rightB x y z → ∀ o : Obj, BoolPost w (rightB x y z) (.returned (.bool c)) (w.alloc o) := fun c hc o => boolPost hc ((Below.refl _ _).alloc (Nat.le_refl _) _)
  have H := Lib.hid H0; clear H0
  by_cases hx : 0 ≤ x ∧ x ≤ 4611686018427387903
  · obtain ⟨hx0, hx1⟩ := hx
    have hx2 : ¬ x < 0 := by omega
    have hx3 : ¬ 4611686018427387903 < x := by omega
    by_cases hy : 0 ≤ y ∧ y ≤ 4611686018427387903
    · obtain ⟨hy0, hy1⟩ := hy
      have hy2 : ¬ y < 0 := by omega
      have hy3 : ¬ 4611686018427387903 < y := by omega
      by_cases hz : 0 ≤ z ∧ z ≤ 4611686018427387903
      · obtain ⟨hz0, hz1⟩ := hz
        have hz2 : ¬ z < 0 := by omega
        have hz3 : ¬ 4611686018427387903 < z := by omega
        have HR := Lib.hid (show true = rightB x y z by simp [rightB, okB_t, *])
        go_enter Try.func41, Try.ntmps41
        go_wp2
        go_rounds 4
        go_ret
        exact H.out _ HR.out _
      · have HR := Lib.hid (show false = rightB x y z by simp [rightB, okB_f hz])
        go_enter Try.func41, Try.ntmps41
        go_wp2
        go_rounds 3
        all_goals first | (go_ret; exact H.out _ HR.out _) | omega
    · have HR := Lib.hid (show false = rightB x y z by simp [rightB, okB_f hy])
      go_enter Try.func41, Try.ntmps41
      go_wp2
      go_rounds 2
      all_goals first | (go_ret; exact H.out _ HR.out _) | omega
  · have HR := Lib.hid (show false = rightB x y z by simp [rightB, okB_f hx])
    go_enter Try.func41, Try.ntmps41
    go_wp2
    go_rounds 1
    all_goals first | (go_ret; exact H.out _ HR.out _) | omega
set_option maxHeartbeats 1000000 in
theorem RRight_any (w : World) (x y z : Int) :
    Calls Try.prog 45 #[.agg #[.int .i64 x, .int .i64 y, .int .i64 z]] w (BoolPost w (rightB x y z)) := by
  have H0 : ∀ c : Bool, c = rightB x y z → ∀ o : Obj, BoolPost w (rightB x y z) (.returned (.bool c)) (w.alloc o) := fun c hc o => boolPost hc ((Below.refl _ _).alloc (Nat.le_refl _) _)
  have H := Lib.hid H0; clear H0
  by_cases hx : 0 ≤ x
  · by_cases hx2 : x ≤ 4611686018427387903
    · by_cases hy : 0 ≤ y
      · by_cases hy2 : y ≤ 4611686018427387903
        · by_cases hz : 0 ≤ z
          · by_cases hz2 : z ≤ 4611686018427387903
            · have HR := Lib.hid (show true = rightB x y z by simp [rightB, okB_t, *])
              go_enter Try.func45, Try.ntmps45
              go_wp2
              go_ret
              exact H.out _ HR.out _
            · have HR := Lib.hid (show false = rightB x y z by simp [rightB, okB_f (x := z) (by omega)])
              go_enter Try.func45, Try.ntmps45
              go_wp2
              go_ret
              exact H.out _ HR.out _
          · have HR := Lib.hid (show false = rightB x y z by simp [rightB, okB_f (x := z) (by omega)])
            go_enter Try.func45, Try.ntmps45
            go_wp2
            go_ret
            exact H.out _ HR.out _
        · have HR := Lib.hid (show false = rightB x y z by simp [rightB, okB_f (x := y) (by omega)])
          go_enter Try.func45, Try.ntmps45
          go_wp2
          go_ret
          exact H.out _ HR.out _
      · have HR := Lib.hid (show false = rightB x y z by simp [rightB, okB_f (x := y) (by omega)])
        go_enter Try.func45, Try.ntmps45
        go_wp2
        go_ret
        exact H.out _ HR.out _
    · have HR := Lib.hid (show false = rightB x y z by simp [rightB, okB_f (x := x) (by omega)])
      go_enter Try.func45, Try.ntmps45
      go_wp2
      go_ret
      exact H.out _ HR.out _
  · have HR := Lib.hid (show false = rightB x y z by simp [rightB, okB_f (x := x) (by omega)])
    go_enter Try.func45, Try.ntmps45
    go_wp2
    go_ret
    exact H.out _ HR.out _

def covB (a b c x y z : Int) : Bool := decide (x ≤ a ∧ y ≤ b ∧ z ≤ c)
theorem covB_t {a b c x y z : Int} (h1 : x ≤ a) (h2 : y ≤ b) (h3 : z ≤ c) : covB a b c x y z = true := by simp [covB, h1, h2, h3]
theorem covB_f {a b c x y z : Int} (h : ¬ (x ≤ a ∧ y ≤ b ∧ z ≤ c)) : covB a b c x y z = false := by simp only [covB, decide_eq_false_iff_not]; exact h
theorem right_le {a b c : Int} (h : rightB a b c = true) : (0 ≤ a ∧ a ≤ 4611686018427387903) ∧ (0 ≤ b ∧ b ≤ 4611686018427387903) ∧ (0 ≤ c ∧ c ≤ 4611686018427387903) := by
  simpa [rightB, okB, and_assoc] using h

end Go.Proofs.Ytgjkeccopjgjlaa
