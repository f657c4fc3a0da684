/-
  No cell of these rows narrows 'for every input' (looked for: loops, veiled, ifaces, maps, wideKeys, modest, calm, conditions, laid).
  DERIVED. THE GIVEN ROWS OF THIS SEAT. 9 by the template 'for every input the law returns true; each argument reads behind the call as it read before'; 0 by the template 'total and deterministic' (their statements: YtignfhdblakcfaaTotals.lean).
  GIVEN WITH THE SEED: the statements are not yours to turn. If you find one false, say at which input.
  Laid BY PROGRAM, IN A SANDBOX (cutbox-rows.mjs): the forced cells as the released guide's own fill.sh prints them over the translation 41daefd904b5ddee… (all of the seat's roots in one cut). By AI agents, Wed Nov 11 2026. No macro, syntax, notation, axiom, sorry.
-/
import Derived.Test.YtignfhdblakcfaaChecked
import GoSem.Claim
import GoSem.ClaimJoined
import GoSem.ClaimMapViews
import Derived.JoinedTies
import Derived.KernelRfl
namespace Go.Proofs.Ytignfhdblakcfaa
/- THE CELL 'sum', in the pinned program and in every row, IS THE sha256 OF THE DUMP (.gsa) THAT YtignfhdblakcfaaProg.lean LOADS. Nothing in Lean hashes anything: it is a label: what it is worth is what the hold of that sum in a sandbox is worth. -/
noncomputable def Try.pinned : Pinned := { name := "ytignfhdblakcfaa", sum := "41daefd904b5ddee7f4c44c586081a45e9e7eb2f3bd2eedaea2f7ff1c8ad8088", checked := Try.checked }
namespace Rows
def none {H : Type} : Left H := { results := [], args := [] }

/-- 'packetboatlaw04.ClockTells': WHATEVER THE INPUT: true; the input reads as it did. -/
def clockTellsSpec : ChangeSpec := { name := "clockTells", fn := fun _ => fun
  | [d1, d2, d3, d4, d5] => { results := [.lit (.bool true)], args := [d1, d2, d3, d4, d5] }
  | _ => none }
def clockTellsRow : OpenClaim := { program := "ytignfhdblakcfaa", sum := "41daefd904b5ddee7f4c44c586081a45e9e7eb2f3bd2eedaea2f7ff1c8ad8088", func := "packetboat/packetboatlaw04.ClockTells", spec := "clockTells", apart := false }
def ClockTellsSaid : Prop := clockTellsRow.holds Try.pinned (OpenSpec.ofChange clockTellsSpec)

/-- ITS FALSE NEIGHBOUR: 'it returns false'. Refute it at one input. -/
def clockTellsWrong : ChangeSpec := { name := "clockTells", fn := fun _ => fun
  | [d1, d2, d3, d4, d5] => { results := [.lit (.bool false)], args := [d1, d2, d3, d4, d5] }
  | _ => none }
def ClockTellsWrongFalsely : Prop := clockTellsRow.holds Try.pinned (OpenSpec.ofChange clockTellsWrong)

/-- 'packetboatlaw04.ClockBack': WHATEVER THE INPUT: true; the input reads as it did. -/
def clockBackSpec : ChangeSpec := { name := "clockBack", fn := fun _ => fun
  | [d1, d2, d3] => { results := [.lit (.bool true)], args := [d1, d2, d3] }
  | _ => none }
def clockBackRow : OpenClaim := { program := "ytignfhdblakcfaa", sum := "41daefd904b5ddee7f4c44c586081a45e9e7eb2f3bd2eedaea2f7ff1c8ad8088", func := "packetboat/packetboatlaw04.ClockBack", spec := "clockBack", apart := false }
def ClockBackSaid : Prop := clockBackRow.holds Try.pinned (OpenSpec.ofChange clockBackSpec)

/-- ITS FALSE NEIGHBOUR: 'it returns false'. Refute it at one input. -/
def clockBackWrong : ChangeSpec := { name := "clockBack", fn := fun _ => fun
  | [d1, d2, d3] => { results := [.lit (.bool false)], args := [d1, d2, d3] }
  | _ => none }
def ClockBackWrongFalsely : Prop := clockBackRow.holds Try.pinned (OpenSpec.ofChange clockBackWrong)

/-- 'packetboatlaw04.ClockOrder': WHATEVER THE INPUT: true; the input reads as it did. -/
def clockOrderSpec : ChangeSpec := { name := "clockOrder", fn := fun _ => fun
  | [d1, d2, d3, d4] => { results := [.lit (.bool true)], args := [d1, d2, d3, d4] }
  | _ => none }
def clockOrderRow : OpenClaim := { program := "ytignfhdblakcfaa", sum := "41daefd904b5ddee7f4c44c586081a45e9e7eb2f3bd2eedaea2f7ff1c8ad8088", func := "packetboat/packetboatlaw04.ClockOrder", spec := "clockOrder", apart := false }
def ClockOrderSaid : Prop := clockOrderRow.holds Try.pinned (OpenSpec.ofChange clockOrderSpec)

/-- ITS FALSE NEIGHBOUR: 'it returns false'. Refute it at one input. -/
def clockOrderWrong : ChangeSpec := { name := "clockOrder", fn := fun _ => fun
  | [d1, d2, d3, d4] => { results := [.lit (.bool false)], args := [d1, d2, d3, d4] }
  | _ => none }
def ClockOrderWrongFalsely : Prop := clockOrderRow.holds Try.pinned (OpenSpec.ofChange clockOrderWrong)

/-- 'packetboatlaw05.DictDoes': WHATEVER THE INPUT: true; the input reads as it did. -/
def dictDoesSpec : ChangeSpec := { name := "dictDoes", fn := fun _ => fun
  | [d] => { results := [.lit (.bool true)], args := [d] }
  | _ => none }
def dictDoesRow : OpenClaim := { program := "ytignfhdblakcfaa", sum := "41daefd904b5ddee7f4c44c586081a45e9e7eb2f3bd2eedaea2f7ff1c8ad8088", func := "packetboat/packetboatlaw05.DictDoes", spec := "dictDoes", inPlace := ["maps.clone"], apart := false }
def DictDoesSaid : Prop := dictDoesRow.holds Try.pinned (OpenSpec.ofChange dictDoesSpec)

/-- ITS FALSE NEIGHBOUR: 'it returns false'. Refute it at one input. -/
def dictDoesWrong : ChangeSpec := { name := "dictDoes", fn := fun _ => fun
  | [d] => { results := [.lit (.bool false)], args := [d] }
  | _ => none }
def DictDoesWrongFalsely : Prop := dictDoesRow.holds Try.pinned (OpenSpec.ofChange dictDoesWrong)

/-- 'packetboatlaw05.DictBack': WHATEVER THE INPUT: true; the input reads as it did. -/
def dictBackSpec : ChangeSpec := { name := "dictBack", fn := fun _ => fun
  | [d1, d2] => { results := [.lit (.bool true)], args := [d1, d2] }
  | _ => none }
def dictBackRow : OpenClaim := { program := "ytignfhdblakcfaa", sum := "41daefd904b5ddee7f4c44c586081a45e9e7eb2f3bd2eedaea2f7ff1c8ad8088", func := "packetboat/packetboatlaw05.DictBack", spec := "dictBack", inPlace := ["maps.clone"], apart := false }
def DictBackSaid : Prop := dictBackRow.holds Try.pinned (OpenSpec.ofChange dictBackSpec)

/-- ITS FALSE NEIGHBOUR: 'it returns false'. Refute it at one input. -/
def dictBackWrong : ChangeSpec := { name := "dictBack", fn := fun _ => fun
  | [d1, d2] => { results := [.lit (.bool false)], args := [d1, d2] }
  | _ => none }
def DictBackWrongFalsely : Prop := dictBackRow.holds Try.pinned (OpenSpec.ofChange dictBackWrong)

/-- 'packetboatlaw05.DictFew': WHATEVER THE INPUT: true; the input reads as it did. -/
def dictFewSpec : ChangeSpec := { name := "dictFew", fn := fun _ => fun
  | [d] => { results := [.lit (.bool true)], args := [d] }
  | _ => none }
def dictFewRow : OpenClaim := { program := "ytignfhdblakcfaa", sum := "41daefd904b5ddee7f4c44c586081a45e9e7eb2f3bd2eedaea2f7ff1c8ad8088", func := "packetboat/packetboatlaw05.DictFew", spec := "dictFew", inPlace := ["maps.clone"], apart := false }
def DictFewSaid : Prop := dictFewRow.holds Try.pinned (OpenSpec.ofChange dictFewSpec)

/-- ITS FALSE NEIGHBOUR: 'it returns false'. Refute it at one input. -/
def dictFewWrong : ChangeSpec := { name := "dictFew", fn := fun _ => fun
  | [d] => { results := [.lit (.bool false)], args := [d] }
  | _ => none }
def DictFewWrongFalsely : Prop := dictFewRow.holds Try.pinned (OpenSpec.ofChange dictFewWrong)

/-- 'packetboatlaw10.MarkNear': WHATEVER THE INPUT: true; the input reads as it did. -/
def markNearSpec : ChangeSpec := { name := "markNear", fn := fun _ => fun
  | [d1, d2, d3] => { results := [.lit (.bool true)], args := [d1, d2, d3] }
  | _ => none }
def markNearRow : OpenClaim := { program := "ytignfhdblakcfaa", sum := "41daefd904b5ddee7f4c44c586081a45e9e7eb2f3bd2eedaea2f7ff1c8ad8088", func := "packetboat/packetboatlaw10.MarkNear", spec := "markNear", unfollowed := true, recurses := true, apart := false }
def MarkNearSaid : Prop := markNearRow.holds Try.pinned (OpenSpec.ofChange markNearSpec)

/-- ITS FALSE NEIGHBOUR: 'it returns false'. Refute it at one input. -/
def markNearWrong : ChangeSpec := { name := "markNear", fn := fun _ => fun
  | [d1, d2, d3] => { results := [.lit (.bool false)], args := [d1, d2, d3] }
  | _ => none }
def MarkNearWrongFalsely : Prop := markNearRow.holds Try.pinned (OpenSpec.ofChange markNearWrong)

/-- 'packetboatlaw18.SendDoes': WHATEVER THE INPUT: true; the input reads as it did. -/
def sendDoesSpec : ChangeSpec := { name := "sendDoes", fn := fun _ => fun
  | [d1, d2] => { results := [.lit (.bool true)], args := [d1, d2] }
  | _ => none }
def sendDoesRow : OpenClaim := { program := "ytignfhdblakcfaa", sum := "41daefd904b5ddee7f4c44c586081a45e9e7eb2f3bd2eedaea2f7ff1c8ad8088", func := "packetboat/packetboatlaw18.SendDoes", spec := "sendDoes", unfollowed := true, recurses := true, apart := false }
def SendDoesSaid : Prop := sendDoesRow.holds Try.pinned (OpenSpec.ofChange sendDoesSpec)

/-- ITS FALSE NEIGHBOUR: 'it returns false'. Refute it at one input. -/
def sendDoesWrong : ChangeSpec := { name := "sendDoes", fn := fun _ => fun
  | [d1, d2] => { results := [.lit (.bool false)], args := [d1, d2] }
  | _ => none }
def SendDoesWrongFalsely : Prop := sendDoesRow.holds Try.pinned (OpenSpec.ofChange sendDoesWrong)

/-- 'packetboatlaw18.SendSynced': WHATEVER THE INPUT: true; the input reads as it did. -/
def sendSyncedSpec : ChangeSpec := { name := "sendSynced", fn := fun _ => fun
  | [d] => { results := [.lit (.bool true)], args := [d] }
  | _ => none }
def sendSyncedRow : OpenClaim := { program := "ytignfhdblakcfaa", sum := "41daefd904b5ddee7f4c44c586081a45e9e7eb2f3bd2eedaea2f7ff1c8ad8088", func := "packetboat/packetboatlaw18.SendSynced", spec := "sendSynced", unfollowed := true, recurses := true, apart := false }
def SendSyncedSaid : Prop := sendSyncedRow.holds Try.pinned (OpenSpec.ofChange sendSyncedSpec)

/-- ITS FALSE NEIGHBOUR: 'it returns false'. Refute it at one input. -/
def sendSyncedWrong : ChangeSpec := { name := "sendSynced", fn := fun _ => fun
  | [d] => { results := [.lit (.bool false)], args := [d] }
  | _ => none }
def SendSyncedWrongFalsely : Prop := sendSyncedRow.holds Try.pinned (OpenSpec.ofChange sendSyncedWrong)

/- THE SECOND FORM. 'bulk': how many values and letters a reading holds, each counted each time it is reached (what is shared counts as often as it is met; a slice's spare places count too). A statement '..UptoSaid' is the law's where the arguments, and the package variables that the reading takes, are together of bulk at most 1048576: NARROWER than '..Said'. Prove '..Said' where nothing that the law and all that it calls make is longer than what came in: it says more and counts as full. Else prove '..UptoSaid'. A law counts once. -/
mutual
def uptoBulk {H : Type} : DataW H → Nat
  | .lit (.string bytes) => bytes.length + 1
  | .lit _ => 1
  | .nil => 1
  | .ptr d => uptoBulk d + 1
  | .slice elems spare => uptoBulkAll elems + uptoBulkAll spare + 1
  | .agg parts => uptoBulkAll parts + 1
  | .iface _ d => uptoBulk d + 1
  | .map entries => uptoBulkEntries entries + 1
  | .held _ => 1
def uptoBulkAll {H : Type} : List (DataW H) → Nat
  | [] => 0
  | d :: r => uptoBulk d + uptoBulkAll r
def uptoBulkEntries {H : Type} : List (Lit × DataW H) → Nat
  | [] => 0
  | x :: r => uptoBulkEntry x + uptoBulkEntries r
def uptoBulkEntry {H : Type} : Lit × DataW H → Nat
  | (.string bytes, d) => bytes.length + uptoBulk d + 1
  | (_, d) => uptoBulk d + 1
 end
def uptoSmall : (H : Type) → List (DataW H) → Bool := fun _ ds => decide (uptoBulkAll ds ≤ 1048576)
def OpenSpec.upto (s : _root_.Go.ChangeSpec) : _root_.Go.OpenSpec := { _root_.Go.OpenSpec.ofChange s with cond := some uptoSmall }

/-- 'packetboatlaw04.ClockTells', WHERE WHAT IT READS IS OF BULK AT MOST 1048576: true; the input reads as it did. -/
def clockTellsUptoRow : OpenClaim := { program := "ytignfhdblakcfaa", sum := "41daefd904b5ddee7f4c44c586081a45e9e7eb2f3bd2eedaea2f7ff1c8ad8088", func := "packetboat/packetboatlaw04.ClockTells", spec := "clockTells", apart := false, narrowed := true }
def ClockTellsUptoSaid : Prop := clockTellsUptoRow.holds Try.pinned (OpenSpec.upto clockTellsSpec)

/-- 'packetboatlaw04.ClockBack', WHERE WHAT IT READS IS OF BULK AT MOST 1048576: true; the input reads as it did. -/
def clockBackUptoRow : OpenClaim := { program := "ytignfhdblakcfaa", sum := "41daefd904b5ddee7f4c44c586081a45e9e7eb2f3bd2eedaea2f7ff1c8ad8088", func := "packetboat/packetboatlaw04.ClockBack", spec := "clockBack", apart := false, narrowed := true }
def ClockBackUptoSaid : Prop := clockBackUptoRow.holds Try.pinned (OpenSpec.upto clockBackSpec)

/-- 'packetboatlaw04.ClockOrder', WHERE WHAT IT READS IS OF BULK AT MOST 1048576: true; the input reads as it did. -/
def clockOrderUptoRow : OpenClaim := { program := "ytignfhdblakcfaa", sum := "41daefd904b5ddee7f4c44c586081a45e9e7eb2f3bd2eedaea2f7ff1c8ad8088", func := "packetboat/packetboatlaw04.ClockOrder", spec := "clockOrder", apart := false, narrowed := true }
def ClockOrderUptoSaid : Prop := clockOrderUptoRow.holds Try.pinned (OpenSpec.upto clockOrderSpec)

/-- 'packetboatlaw05.DictDoes', WHERE WHAT IT READS IS OF BULK AT MOST 1048576: true; the input reads as it did. -/
def dictDoesUptoRow : OpenClaim := { program := "ytignfhdblakcfaa", sum := "41daefd904b5ddee7f4c44c586081a45e9e7eb2f3bd2eedaea2f7ff1c8ad8088", func := "packetboat/packetboatlaw05.DictDoes", spec := "dictDoes", inPlace := ["maps.clone"], apart := false, narrowed := true }
def DictDoesUptoSaid : Prop := dictDoesUptoRow.holds Try.pinned (OpenSpec.upto dictDoesSpec)

/-- 'packetboatlaw05.DictBack', WHERE WHAT IT READS IS OF BULK AT MOST 1048576: true; the input reads as it did. -/
def dictBackUptoRow : OpenClaim := { program := "ytignfhdblakcfaa", sum := "41daefd904b5ddee7f4c44c586081a45e9e7eb2f3bd2eedaea2f7ff1c8ad8088", func := "packetboat/packetboatlaw05.DictBack", spec := "dictBack", inPlace := ["maps.clone"], apart := false, narrowed := true }
def DictBackUptoSaid : Prop := dictBackUptoRow.holds Try.pinned (OpenSpec.upto dictBackSpec)

/-- 'packetboatlaw05.DictFew', WHERE WHAT IT READS IS OF BULK AT MOST 1048576: true; the input reads as it did. -/
def dictFewUptoRow : OpenClaim := { program := "ytignfhdblakcfaa", sum := "41daefd904b5ddee7f4c44c586081a45e9e7eb2f3bd2eedaea2f7ff1c8ad8088", func := "packetboat/packetboatlaw05.DictFew", spec := "dictFew", inPlace := ["maps.clone"], apart := false, narrowed := true }
def DictFewUptoSaid : Prop := dictFewUptoRow.holds Try.pinned (OpenSpec.upto dictFewSpec)

/-- 'packetboatlaw10.MarkNear', WHERE WHAT IT READS IS OF BULK AT MOST 1048576: true; the input reads as it did. -/
def markNearUptoRow : OpenClaim := { program := "ytignfhdblakcfaa", sum := "41daefd904b5ddee7f4c44c586081a45e9e7eb2f3bd2eedaea2f7ff1c8ad8088", func := "packetboat/packetboatlaw10.MarkNear", spec := "markNear", unfollowed := true, recurses := true, apart := false, narrowed := true }
def MarkNearUptoSaid : Prop := markNearUptoRow.holds Try.pinned (OpenSpec.upto markNearSpec)

/-- 'packetboatlaw18.SendDoes', WHERE WHAT IT READS IS OF BULK AT MOST 1048576: true; the input reads as it did. -/
def sendDoesUptoRow : OpenClaim := { program := "ytignfhdblakcfaa", sum := "41daefd904b5ddee7f4c44c586081a45e9e7eb2f3bd2eedaea2f7ff1c8ad8088", func := "packetboat/packetboatlaw18.SendDoes", spec := "sendDoes", unfollowed := true, recurses := true, apart := false, narrowed := true }
def SendDoesUptoSaid : Prop := sendDoesUptoRow.holds Try.pinned (OpenSpec.upto sendDoesSpec)

/-- 'packetboatlaw18.SendSynced', WHERE WHAT IT READS IS OF BULK AT MOST 1048576: true; the input reads as it did. -/
def sendSyncedUptoRow : OpenClaim := { program := "ytignfhdblakcfaa", sum := "41daefd904b5ddee7f4c44c586081a45e9e7eb2f3bd2eedaea2f7ff1c8ad8088", func := "packetboat/packetboatlaw18.SendSynced", spec := "sendSynced", unfollowed := true, recurses := true, apart := false, narrowed := true }
def SendSyncedUptoSaid : Prop := sendSyncedUptoRow.holds Try.pinned (OpenSpec.upto sendSyncedSpec)

end Rows
end Go.Proofs.Ytignfhdblakcfaa
