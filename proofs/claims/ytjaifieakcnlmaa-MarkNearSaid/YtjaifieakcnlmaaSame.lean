/- packetboatref01.Same: are bytes the same? -/
import Derived.Test.YtjaifieakcnlmaaW
namespace Go.Proofs.Ytjaifieakcnlmaa
open Go.ChangeShapes Go.WideShapes Go.ChangeAt Go.RowKit
set_option linter.unusedVariables false

def SamePost (w : World) (x : Bool) (e : Ending) (w' : World) : Prop := e = .returned (.bool x) ∧ ∃ q, w' = w.drewN q
theorem same_ret {x b : Bool} (h : x = b) {w w' : World} (hw : ∃ q, w' = w.drewN q) : SamePost w x (.returned (.bool b)) w' := ⟨by rw [h], hw⟩
def SameRel (w : World) (bs ds : List Nat) (s3 : Value) (wr : World) : Prop := ∃ k : Nat, s3 = .int .i64 (k : Int) ∧ k ≤ bs.length ∧ (∃ q, wr = w.drewN q) ∧ ∀ j, j < k → bs[j]?.getD 0 = ds[j]?.getD 0
theorem same_all {bs ds : List Nat} (hl : bs.length = ds.length) (h : ∀ j, j < bs.length → bs[j]?.getD 0 = ds[j]?.getD 0) : bs = ds := by
  apply List.ext_getElem hl
  intro i h1 h2
  have := h i h1
  rw [List.getElem?_eq_getElem h1, List.getElem?_eq_getElem h2] at this
  simpa using this

end Go.Proofs.Ytjaifieakcnlmaa
