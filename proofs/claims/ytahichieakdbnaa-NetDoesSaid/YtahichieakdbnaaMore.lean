/- crc.More and crc.Sum: the sum of bytes. -/
import Derived.Test.YtahichieakdbnaaW
import Derived.Test.YtahichieakdbnaaCm
namespace Go.Proofs.Ytahichieakdbnaa
open Go.ChangeShapes Go.WideShapes Go.ChangeAt Go.RowKit
set_option linter.unusedVariables false

def MorePost (w : World) (x : Nat) (e : Ending) (w' : World) : Prop := e = .returned (.int .u32 (x : Int)) ∧ w = w'
theorem xor32 {a b : Nat} (ha : a < 4294967296) (hb : b < 4294967296) : bits .xor .u32 (a : Int) (b : Int) = ((a ^^^ b : Nat) : Int) := u32_xor_nat a b ha hb
theorem xor32d {a b : Nat} (ha : a < 4294967296) (hb : b < 4294967296) : bits .xor .u32 ((a : Int) / 16) (b : Int) = ((a / 16 ^^^ b : Nat) : Int) := by
  rw [show ((a : Int) / 16) = ((a / 16 : Nat) : Int) by omega]
  exact u32_xor_nat _ b (by omega) hb
theorem xorF {a : Nat} (ha : a < 4294967296) : bits .xor .u32 IntKind.u32.max (a : Int) = ((a ^^^ Cm.F : Nat) : Int) := by
  have e : IntKind.u32.max = ((4294967295 : Nat) : Int) := by decide
  rw [e, u32_xor_nat _ _ (by omega) ha, Nat.xor_comm]
  rfl
theorem and15 (a : Nat) (ha : a < 4294967296) : bits .and .u32 (a : Int) 15 = ((a % 16 : Nat) : Int) := by
  rw [show (15 : Int) = ((15 : Nat) : Int) from rfl, u32_and_nat _ _ ha (by omega), nat_mask4]
def MoreRel (s : Nat) (bs : List Nat) (s5 s12 : Value) : Prop := ∃ k c : Nat, s5 = .int .u32 (c : Int) ∧ s12 = .int .i64 (k : Int) ∧ k ≤ bs.length ∧ c < 4294967296 ∧ Hid (c = Cm.run (s ^^^ Cm.F) (bs.take k))

end Go.Proofs.Ytahichieakdbnaa
