/- txn.Check. -/
import Derived.Test.YtahichieakdbnaaTm
import Derived.Test.YtahichieakdbnaaBlk
import Derived.Test.YtahichieakdbnaaBas
import Derived.Handy
namespace Go.Proofs.Ytahichieakdbnaa
open Go.ChangeShapes Go.WideShapes Go.ChangeAt Go.RowKit
set_option linter.unusedVariables false
set_option linter.unusedSimpArgs false

def aggW (x : Wr) : Value := .agg #[.string x.1, .string x.2.1, .bool x.2.2]
/-- three cells that are a write -/
def RWr (cs : List Value) (x : Wr) : Prop := cs = [.string x.1, .string x.2.1, .bool x.2.2]
abbrev WrR (w : World) (B : Nat) (A : Option Addr) (ws : List Wr) : Prop := StR 3 RWr w B A ws
theorem WrR.below {w w' : World} {B : Nat} {A : Option Addr} {ws : List Wr} (h : WrR w B A ws) (hb : Below B w w') : WrR w' B A ws := StR.below h hb (fun _ _ h => h)
theorem WrR.step {w w' : World} {A : Option Addr} {ws : List Wr} (h : WrR w w.heap.size A ws) (hb : Below w.heap.size w w') : WrR w' w'.heap.size A ws := StR.more (WrR.below h hb) hb.size
theorem WrR.row {w : World} {B : Nat} {A : Option Addr} {ws : List Wr} (h : WrR w B A ws) {k : Nat} (hk : k < ws.length) : ∃ g o x, A = some ⟨g, o, none⟩ ∧ g < B ∧ ws[k]? = some x ∧ w.cell? ⟨g, o + k * 3, none⟩ = some (.string x.1) ∧ w.cell? ⟨g, o + k * 3 + 1, none⟩ = some (.string x.2.1) ∧ w.cell? ⟨g, o + k * 3 + 2, none⟩ = some (.bool x.2.2) := by
  obtain ⟨g, o, x, cs, e, hg, hk', hl, rfl, hc⟩ := StR.row h hk
  exact ⟨g, o, x, e, hg, hk', hc 0 _ rfl, hc 1 _ rfl, hc 2 _ rfl⟩
def BoolP (w : World) (b : Bool) (e : Ending) (w' : World) : Prop := e = .returned (.bool b) ∧ Below w.heap.size w w'
end Go.Proofs.Ytahichieakdbnaa
