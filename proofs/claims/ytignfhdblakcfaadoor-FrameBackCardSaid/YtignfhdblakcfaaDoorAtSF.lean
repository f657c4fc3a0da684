/- vint.Size as callers meet it. -/
import Derived.Test.YtignfhdblakcfaaDoorSizeF
import Derived.Test.YtignfhdblakcfaaDoorAtF
namespace Go.Proofs.YtignfhdblakcfaaDoor
open Go.ChangeShapes Go.WideShapes Go.ChangeAt Go.RowKit
set_option linter.unusedVariables false

theorem Size_at (w : World) (x : Int) (y : Int) (h0 : 0 ≤ x) (h1 : x ≤ 18446744073709551615) (hy : ((Vm.enc x.toNat).length : Int) = y) :
    Calls Tryd.prog 28 #[.int .u64 x] w fun e w' => e = .returned (.int .i64 y) ∧ w = w' := by
  obtain ⟨n, rfl⟩ := Int.eq_ofNat_of_zero_le h0
  subst hy
  exact Size_any w n (by omega)
end Go.Proofs.YtignfhdblakcfaaDoor
