/-
  No cell of these rows narrows 'for every input' (looked for: loops, veiled, ifaces, maps, wideKeys, modest, calm, conditions, laid).
  DERIVED. THE GIVEN ROWS OF THIS SEAT. 10 by the template 'for every input the law returns true; each argument reads behind the call as it read before'; 0 by the template 'total and deterministic' (their statements: YtahichieakdbnaaTotals.lean).
  GIVEN WITH THE SEED: the statements are not yours to turn. If you find one false, say at which input.
  Laid BY PROGRAM, IN A SANDBOX (cutbox-rows.mjs): the forced cells as the released guide's own fill.sh prints them over the translation 1f37e58e7eee148c… (all of the seat's roots in one cut). By AI agents, Wed Nov 11 2026. No macro, syntax, notation, axiom, sorry.
-/
import Derived.Test.YtahichieakdbnaaChecked
import GoSem.Claim
import GoSem.ClaimJoined
import GoSem.ClaimMapViews
import Derived.JoinedTies
import Derived.KernelRfl
namespace Go.Proofs.Ytahichieakdbnaa
/- THE CELL 'sum', in the pinned program and in every row, IS THE sha256 OF THE DUMP (.gsa) THAT YtahichieakdbnaaProg.lean LOADS. Nothing in Lean hashes anything: it is a label: what it is worth is what the hold of that sum in a sandbox is worth. -/
noncomputable def Try.pinned : Pinned := { name := "ytahichieakdbnaa", sum := "1f37e58e7eee148c32eb1428e7f0cb5bc203f911c20edca4b1389d5b1d9fc2e3", checked := Try.checked }
namespace Rows
def none {H : Type} : Left H := { results := [], args := [] }

/-- 'packetboatlaw08.DiskDoes': WHATEVER THE INPUT: true; the input reads as it did. -/
def diskDoesSpec : ChangeSpec := { name := "diskDoes", fn := fun _ => fun
  | [d1, d2] => { results := [.lit (.bool true)], args := [d1, d2] }
  | _ => none }
def diskDoesRow : OpenClaim := { program := "ytahichieakdbnaa", sum := "1f37e58e7eee148c32eb1428e7f0cb5bc203f911c20edca4b1389d5b1d9fc2e3", func := "packetboat/packetboatlaw08.DiskDoes", spec := "diskDoes", unfollowed := true, recurses := true, apart := false }
def DiskDoesSaid : Prop := diskDoesRow.holds Try.pinned (OpenSpec.ofChange diskDoesSpec)

/-- ITS FALSE NEIGHBOUR: 'it returns false'. Refute it at one input. -/
def diskDoesWrong : ChangeSpec := { name := "diskDoes", fn := fun _ => fun
  | [d1, d2] => { results := [.lit (.bool false)], args := [d1, d2] }
  | _ => none }
def DiskDoesWrongFalsely : Prop := diskDoesRow.holds Try.pinned (OpenSpec.ofChange diskDoesWrong)

/-- 'packetboatlaw08.DiskSure': WHATEVER THE INPUT: true; the input reads as it did. -/
def diskSureSpec : ChangeSpec := { name := "diskSure", fn := fun _ => fun
  | [d1, d2] => { results := [.lit (.bool true)], args := [d1, d2] }
  | _ => none }
def diskSureRow : OpenClaim := { program := "ytahichieakdbnaa", sum := "1f37e58e7eee148c32eb1428e7f0cb5bc203f911c20edca4b1389d5b1d9fc2e3", func := "packetboat/packetboatlaw08.DiskSure", spec := "diskSure", unfollowed := true, recurses := true, apart := false }
def DiskSureSaid : Prop := diskSureRow.holds Try.pinned (OpenSpec.ofChange diskSureSpec)

/-- ITS FALSE NEIGHBOUR: 'it returns false'. Refute it at one input. -/
def diskSureWrong : ChangeSpec := { name := "diskSure", fn := fun _ => fun
  | [d1, d2] => { results := [.lit (.bool false)], args := [d1, d2] }
  | _ => none }
def DiskSureWrongFalsely : Prop := diskSureRow.holds Try.pinned (OpenSpec.ofChange diskSureWrong)

/-- 'packetboatlaw08.DiskDown': WHATEVER THE INPUT: true; the input reads as it did. -/
def diskDownSpec : ChangeSpec := { name := "diskDown", fn := fun _ => fun
  | [d1, d2] => { results := [.lit (.bool true)], args := [d1, d2] }
  | _ => none }
def diskDownRow : OpenClaim := { program := "ytahichieakdbnaa", sum := "1f37e58e7eee148c32eb1428e7f0cb5bc203f911c20edca4b1389d5b1d9fc2e3", func := "packetboat/packetboatlaw08.DiskDown", spec := "diskDown", unfollowed := true, recurses := true, apart := false }
def DiskDownSaid : Prop := diskDownRow.holds Try.pinned (OpenSpec.ofChange diskDownSpec)

/-- ITS FALSE NEIGHBOUR: 'it returns false'. Refute it at one input. -/
def diskDownWrong : ChangeSpec := { name := "diskDown", fn := fun _ => fun
  | [d1, d2] => { results := [.lit (.bool false)], args := [d1, d2] }
  | _ => none }
def DiskDownWrongFalsely : Prop := diskDownRow.holds Try.pinned (OpenSpec.ofChange diskDownWrong)

/-- 'packetboatlaw16.KvTells': WHATEVER THE INPUT: true; the input reads as it did. -/
def kvTellsSpec : ChangeSpec := { name := "kvTells", fn := fun _ => fun
  | [d1, d2, d3] => { results := [.lit (.bool true)], args := [d1, d2, d3] }
  | _ => none }
def kvTellsRow : OpenClaim := { program := "ytahichieakdbnaa", sum := "1f37e58e7eee148c32eb1428e7f0cb5bc203f911c20edca4b1389d5b1d9fc2e3", func := "packetboat/packetboatlaw16.KvTells", spec := "kvTells", inPlace := ["maps.clone"], recurses := true, apart := false }
def KvTellsSaid : Prop := kvTellsRow.holds Try.pinned (OpenSpec.ofChange kvTellsSpec)

/-- ITS FALSE NEIGHBOUR: 'it returns false'. Refute it at one input. -/
def kvTellsWrong : ChangeSpec := { name := "kvTells", fn := fun _ => fun
  | [d1, d2, d3] => { results := [.lit (.bool false)], args := [d1, d2, d3] }
  | _ => none }
def KvTellsWrongFalsely : Prop := kvTellsRow.holds Try.pinned (OpenSpec.ofChange kvTellsWrong)

/-- 'packetboatlaw16.KvLast': WHATEVER THE INPUT: true; the input reads as it did. -/
def kvLastSpec : ChangeSpec := { name := "kvLast", fn := fun _ => fun
  | [d1, d2] => { results := [.lit (.bool true)], args := [d1, d2] }
  | _ => none }
def kvLastRow : OpenClaim := { program := "ytahichieakdbnaa", sum := "1f37e58e7eee148c32eb1428e7f0cb5bc203f911c20edca4b1389d5b1d9fc2e3", func := "packetboat/packetboatlaw16.KvLast", spec := "kvLast", inPlace := ["maps.clone"], recurses := true, apart := false }
def KvLastSaid : Prop := kvLastRow.holds Try.pinned (OpenSpec.ofChange kvLastSpec)

/-- ITS FALSE NEIGHBOUR: 'it returns false'. Refute it at one input. -/
def kvLastWrong : ChangeSpec := { name := "kvLast", fn := fun _ => fun
  | [d1, d2] => { results := [.lit (.bool false)], args := [d1, d2] }
  | _ => none }
def KvLastWrongFalsely : Prop := kvLastRow.holds Try.pinned (OpenSpec.ofChange kvLastWrong)

/-- 'packetboatlaw16.KvBack': WHATEVER THE INPUT: true; the input reads as it did. -/
def kvBackSpec : ChangeSpec := { name := "kvBack", fn := fun _ => fun
  | [d1, d2] => { results := [.lit (.bool true)], args := [d1, d2] }
  | _ => none }
def kvBackRow : OpenClaim := { program := "ytahichieakdbnaa", sum := "1f37e58e7eee148c32eb1428e7f0cb5bc203f911c20edca4b1389d5b1d9fc2e3", func := "packetboat/packetboatlaw16.KvBack", spec := "kvBack", inPlace := ["maps.clone"], recurses := true, apart := false }
def KvBackSaid : Prop := kvBackRow.holds Try.pinned (OpenSpec.ofChange kvBackSpec)

/-- ITS FALSE NEIGHBOUR: 'it returns false'. Refute it at one input. -/
def kvBackWrong : ChangeSpec := { name := "kvBack", fn := fun _ => fun
  | [d1, d2] => { results := [.lit (.bool false)], args := [d1, d2] }
  | _ => none }
def KvBackWrongFalsely : Prop := kvBackRow.holds Try.pinned (OpenSpec.ofChange kvBackWrong)

/-- 'packetboatlaw21.NetDoes': WHATEVER THE INPUT: true; the input reads as it did. -/
def netDoesSpec : ChangeSpec := { name := "netDoes", fn := fun _ => fun
  | [d] => { results := [.lit (.bool true)], args := [d] }
  | _ => none }
def netDoesRow : OpenClaim := { program := "ytahichieakdbnaa", sum := "1f37e58e7eee148c32eb1428e7f0cb5bc203f911c20edca4b1389d5b1d9fc2e3", func := "packetboat/packetboatlaw21.NetDoes", spec := "netDoes", apart := false }
def NetDoesSaid : Prop := netDoesRow.holds Try.pinned (OpenSpec.ofChange netDoesSpec)

/-- ITS FALSE NEIGHBOUR: 'it returns false'. Refute it at one input. -/
def netDoesWrong : ChangeSpec := { name := "netDoes", fn := fun _ => fun
  | [d] => { results := [.lit (.bool false)], args := [d] }
  | _ => none }
def NetDoesWrongFalsely : Prop := netDoesRow.holds Try.pinned (OpenSpec.ofChange netDoesWrong)

/-- 'packetboatlaw21.NetTrue': WHATEVER THE INPUT: true; the input reads as it did. -/
def netTrueSpec : ChangeSpec := { name := "netTrue", fn := fun _ => fun
  | [d] => { results := [.lit (.bool true)], args := [d] }
  | _ => none }
def netTrueRow : OpenClaim := { program := "ytahichieakdbnaa", sum := "1f37e58e7eee148c32eb1428e7f0cb5bc203f911c20edca4b1389d5b1d9fc2e3", func := "packetboat/packetboatlaw21.NetTrue", spec := "netTrue", apart := false }
def NetTrueSaid : Prop := netTrueRow.holds Try.pinned (OpenSpec.ofChange netTrueSpec)

/-- ITS FALSE NEIGHBOUR: 'it returns false'. Refute it at one input. -/
def netTrueWrong : ChangeSpec := { name := "netTrue", fn := fun _ => fun
  | [d] => { results := [.lit (.bool false)], args := [d] }
  | _ => none }
def NetTrueWrongFalsely : Prop := netTrueRow.holds Try.pinned (OpenSpec.ofChange netTrueWrong)

/-- 'packetboatlaw21.NetSpoilt': WHATEVER THE INPUT: true; the input reads as it did. -/
def netSpoiltSpec : ChangeSpec := { name := "netSpoilt", fn := fun _ => fun
  | [d] => { results := [.lit (.bool true)], args := [d] }
  | _ => none }
def netSpoiltRow : OpenClaim := { program := "ytahichieakdbnaa", sum := "1f37e58e7eee148c32eb1428e7f0cb5bc203f911c20edca4b1389d5b1d9fc2e3", func := "packetboat/packetboatlaw21.NetSpoilt", spec := "netSpoilt", apart := false }
def NetSpoiltSaid : Prop := netSpoiltRow.holds Try.pinned (OpenSpec.ofChange netSpoiltSpec)

/-- ITS FALSE NEIGHBOUR: 'it returns false'. Refute it at one input. -/
def netSpoiltWrong : ChangeSpec := { name := "netSpoilt", fn := fun _ => fun
  | [d] => { results := [.lit (.bool false)], args := [d] }
  | _ => none }
def NetSpoiltWrongFalsely : Prop := netSpoiltRow.holds Try.pinned (OpenSpec.ofChange netSpoiltWrong)

/-- 'packetboatlaw21.NetAll': WHATEVER THE INPUT: true; the input reads as it did. -/
def netAllSpec : ChangeSpec := { name := "netAll", fn := fun _ => fun
  | [d] => { results := [.lit (.bool true)], args := [d] }
  | _ => none }
def netAllRow : OpenClaim := { program := "ytahichieakdbnaa", sum := "1f37e58e7eee148c32eb1428e7f0cb5bc203f911c20edca4b1389d5b1d9fc2e3", func := "packetboat/packetboatlaw21.NetAll", spec := "netAll", apart := false }
def NetAllSaid : Prop := netAllRow.holds Try.pinned (OpenSpec.ofChange netAllSpec)

/-- ITS FALSE NEIGHBOUR: 'it returns false'. Refute it at one input. -/
def netAllWrong : ChangeSpec := { name := "netAll", fn := fun _ => fun
  | [d] => { results := [.lit (.bool false)], args := [d] }
  | _ => none }
def NetAllWrongFalsely : Prop := netAllRow.holds Try.pinned (OpenSpec.ofChange netAllWrong)

/- THE SECOND FORM. 'bulk': how many values and letters a reading holds, each counted each time it is reached (what is shared counts as often as it is met; a slice's spare places count too). A statement '..UptoSaid' is the law's where the arguments, and the package variables that the reading takes, are together of bulk at most 1048576: NARROWER than '..Said'. Prove '..Said' where nothing that the law and all that it calls make is longer than what came in: it says more and counts as full. Else prove '..UptoSaid'. A law counts once. -/
mutual
def uptoBulk {H : Type} : DataW H → Nat
  | .lit (.string bytes) => bytes.length + 1
  | .lit _ => 1
  | .nil => 1
  | .ptr d => uptoBulk d + 1
  | .slice elems spare => uptoBulkAll elems + uptoBulkAll spare + 1
  | .agg parts => uptoBulkAll parts + 1
  | .iface _ d => uptoBulk d + 1
  | .map entries => uptoBulkEntries entries + 1
  | .held _ => 1
def uptoBulkAll {H : Type} : List (DataW H) → Nat
  | [] => 0
  | d :: r => uptoBulk d + uptoBulkAll r
def uptoBulkEntries {H : Type} : List (Lit × DataW H) → Nat
  | [] => 0
  | x :: r => uptoBulkEntry x + uptoBulkEntries r
def uptoBulkEntry {H : Type} : Lit × DataW H → Nat
  | (.string bytes, d) => bytes.length + uptoBulk d + 1
  | (_, d) => uptoBulk d + 1
 end
def uptoSmall : (H : Type) → List (DataW H) → Bool := fun _ ds => decide (uptoBulkAll ds ≤ 1048576)
def OpenSpec.upto (s : _root_.Go.ChangeSpec) : _root_.Go.OpenSpec := { _root_.Go.OpenSpec.ofChange s with cond := some uptoSmall }

/-- 'packetboatlaw08.DiskDoes', WHERE WHAT IT READS IS OF BULK AT MOST 1048576: true; the input reads as it did. -/
def diskDoesUptoRow : OpenClaim := { program := "ytahichieakdbnaa", sum := "1f37e58e7eee148c32eb1428e7f0cb5bc203f911c20edca4b1389d5b1d9fc2e3", func := "packetboat/packetboatlaw08.DiskDoes", spec := "diskDoes", unfollowed := true, recurses := true, apart := false, narrowed := true }
def DiskDoesUptoSaid : Prop := diskDoesUptoRow.holds Try.pinned (OpenSpec.upto diskDoesSpec)

/-- 'packetboatlaw08.DiskSure', WHERE WHAT IT READS IS OF BULK AT MOST 1048576: true; the input reads as it did. -/
def diskSureUptoRow : OpenClaim := { program := "ytahichieakdbnaa", sum := "1f37e58e7eee148c32eb1428e7f0cb5bc203f911c20edca4b1389d5b1d9fc2e3", func := "packetboat/packetboatlaw08.DiskSure", spec := "diskSure", unfollowed := true, recurses := true, apart := false, narrowed := true }
def DiskSureUptoSaid : Prop := diskSureUptoRow.holds Try.pinned (OpenSpec.upto diskSureSpec)

/-- 'packetboatlaw08.DiskDown', WHERE WHAT IT READS IS OF BULK AT MOST 1048576: true; the input reads as it did. -/
def diskDownUptoRow : OpenClaim := { program := "ytahichieakdbnaa", sum := "1f37e58e7eee148c32eb1428e7f0cb5bc203f911c20edca4b1389d5b1d9fc2e3", func := "packetboat/packetboatlaw08.DiskDown", spec := "diskDown", unfollowed := true, recurses := true, apart := false, narrowed := true }
def DiskDownUptoSaid : Prop := diskDownUptoRow.holds Try.pinned (OpenSpec.upto diskDownSpec)

/-- 'packetboatlaw16.KvTells', WHERE WHAT IT READS IS OF BULK AT MOST 1048576: true; the input reads as it did. -/
def kvTellsUptoRow : OpenClaim := { program := "ytahichieakdbnaa", sum := "1f37e58e7eee148c32eb1428e7f0cb5bc203f911c20edca4b1389d5b1d9fc2e3", func := "packetboat/packetboatlaw16.KvTells", spec := "kvTells", inPlace := ["maps.clone"], recurses := true, apart := false, narrowed := true }
def KvTellsUptoSaid : Prop := kvTellsUptoRow.holds Try.pinned (OpenSpec.upto kvTellsSpec)

/-- 'packetboatlaw16.KvLast', WHERE WHAT IT READS IS OF BULK AT MOST 1048576: true; the input reads as it did. -/
def kvLastUptoRow : OpenClaim := { program := "ytahichieakdbnaa", sum := "1f37e58e7eee148c32eb1428e7f0cb5bc203f911c20edca4b1389d5b1d9fc2e3", func := "packetboat/packetboatlaw16.KvLast", spec := "kvLast", inPlace := ["maps.clone"], recurses := true, apart := false, narrowed := true }
def KvLastUptoSaid : Prop := kvLastUptoRow.holds Try.pinned (OpenSpec.upto kvLastSpec)

/-- 'packetboatlaw16.KvBack', WHERE WHAT IT READS IS OF BULK AT MOST 1048576: true; the input reads as it did. -/
def kvBackUptoRow : OpenClaim := { program := "ytahichieakdbnaa", sum := "1f37e58e7eee148c32eb1428e7f0cb5bc203f911c20edca4b1389d5b1d9fc2e3", func := "packetboat/packetboatlaw16.KvBack", spec := "kvBack", inPlace := ["maps.clone"], recurses := true, apart := false, narrowed := true }
def KvBackUptoSaid : Prop := kvBackUptoRow.holds Try.pinned (OpenSpec.upto kvBackSpec)

/-- 'packetboatlaw21.NetDoes', WHERE WHAT IT READS IS OF BULK AT MOST 1048576: true; the input reads as it did. -/
def netDoesUptoRow : OpenClaim := { program := "ytahichieakdbnaa", sum := "1f37e58e7eee148c32eb1428e7f0cb5bc203f911c20edca4b1389d5b1d9fc2e3", func := "packetboat/packetboatlaw21.NetDoes", spec := "netDoes", apart := false, narrowed := true }
def NetDoesUptoSaid : Prop := netDoesUptoRow.holds Try.pinned (OpenSpec.upto netDoesSpec)

/-- 'packetboatlaw21.NetTrue', WHERE WHAT IT READS IS OF BULK AT MOST 1048576: true; the input reads as it did. -/
def netTrueUptoRow : OpenClaim := { program := "ytahichieakdbnaa", sum := "1f37e58e7eee148c32eb1428e7f0cb5bc203f911c20edca4b1389d5b1d9fc2e3", func := "packetboat/packetboatlaw21.NetTrue", spec := "netTrue", apart := false, narrowed := true }
def NetTrueUptoSaid : Prop := netTrueUptoRow.holds Try.pinned (OpenSpec.upto netTrueSpec)

/-- 'packetboatlaw21.NetSpoilt', WHERE WHAT IT READS IS OF BULK AT MOST 1048576: true; the input reads as it did. -/
def netSpoiltUptoRow : OpenClaim := { program := "ytahichieakdbnaa", sum := "1f37e58e7eee148c32eb1428e7f0cb5bc203f911c20edca4b1389d5b1d9fc2e3", func := "packetboat/packetboatlaw21.NetSpoilt", spec := "netSpoilt", apart := false, narrowed := true }
def NetSpoiltUptoSaid : Prop := netSpoiltUptoRow.holds Try.pinned (OpenSpec.upto netSpoiltSpec)

/-- 'packetboatlaw21.NetAll', WHERE WHAT IT READS IS OF BULK AT MOST 1048576: true; the input reads as it did. -/
def netAllUptoRow : OpenClaim := { program := "ytahichieakdbnaa", sum := "1f37e58e7eee148c32eb1428e7f0cb5bc203f911c20edca4b1389d5b1d9fc2e3", func := "packetboat/packetboatlaw21.NetAll", spec := "netAll", apart := false, narrowed := true }
def NetAllUptoSaid : Prop := netAllUptoRow.holds Try.pinned (OpenSpec.upto netAllSpec)

end Rows
end Go.Proofs.Ytahichieakdbnaa
