/- vint.All: the bytes of numbers, one behind the other. -/
import Derived.Test.YtahichieakdbnaaPut
namespace Go.Proofs.Ytahichieakdbnaa
open Go.ChangeShapes Go.WideShapes Go.ChangeAt Go.RowKit
set_option linter.unusedVariables false

namespace Vm
def encs (ls : List Nat) : List Nat := ls.flatMap enc
theorem encs_snoc (ls : List Nat) {k : Nat} (h : k < ls.length) : encs (ls.take (k + 1)) = encs (ls.take k) ++ enc (ls[k]?.getD 0) := by
  simp only [encs]
  rw [List.take_succ_eq_append_getElem h, List.getElem?_eq_getElem h, List.flatMap_append]
  simp
theorem encs_le (ls : List Nat) : (encs ls).length ≤ 10 * ls.length := by
  induction ls with
  | nil => simp [encs]
  | cons a r ih => have := enc_le a; simp only [encs, List.flatMap_cons, List.length_append, List.length_cons] at ih ⊢; omega
end Vm

def AllPost (w : World) (ls : List Nat) (e : Ending) (w' : World) : Prop :=
  ∃ v', e = .returned v' ∧ w'.ownsRow w.heap.size 5 1 v' (Vm.encs ls).length (u8s (Vm.encs ls)) ∧ Below w.heap.size w w'
def AllRel (w : World) (ls : List Nat) (s2 sk : Value) (wr : World) : Prop :=
  ∃ k : Nat, sk = .int .i64 (k : Int) ∧ k ≤ ls.length ∧ wr.ownsRow w.heap.size 5 1 s2 (Vm.encs (ls.take k)).length (u8s (Vm.encs (ls.take k))) ∧ Below w.heap.size w wr
theorem all_step {w wr w1 : World} {ls : List Nat} {k : Nat} {v1 : Value} (hk : k < ls.length) (hb : Below w.heap.size w wr) (hb1 : Below w.heap.size wr w1)
    (ho : w1.ownsRow w.heap.size 5 1 v1 ((Vm.encs (ls.take k)).length + (Vm.enc (ls[k]?.getD 0)).length) (u8s (Vm.encs (ls.take k)) ++ u8s (Vm.enc (ls[k]?.getD 0)))) :
    AllRel w ls v1 (.int .i64 ((k : Int) + 1)) w1 := by
  refine ⟨k + 1, by go_num, hk, ?_, hb.trans hb1⟩
  rw [Vm.encs_snoc ls hk, List.length_append, u8s_append]
  exact ho

end Go.Proofs.Ytahichieakdbnaa
