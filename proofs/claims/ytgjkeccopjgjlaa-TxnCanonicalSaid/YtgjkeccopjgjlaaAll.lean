/- vint.All: the bytes of numbers, one behind the other. -/
import Derived.Test.YtgjkeccopjgjlaaPut
namespace Go.Proofs.Ytgjkeccopjgjlaa
open Go.ChangeShapes Go.WideShapes Go.ChangeAt Go.RowKit
set_option linter.unusedVariables false

namespace Vm
def encs (ls : List Nat) : List Nat := ls.flatMap enc
theorem encs_snoc (ls : List Nat) {k : Nat} (h : k < ls.length) : encs (ls.take (k + 1)) = encs (ls.take k) ++ enc (ls[k]?.getD 0) := by
  simp only [encs]
  rw [List.take_succ_eq_append_getElem h, List.getElem?_eq_getElem h, List.flatMap_append]
  simp
theorem encs_le (ls : List Nat) : (encs ls).length ≤ 10 * ls.length := by
  induction ls with
  | nil => simp [encs]
  | cons a r ih => have := enc_le a; simp only [encs, List.flatMap_cons, List.length_append, List.length_cons] at ih ⊢; omega
end Vm

def AllPost (w : World) (ls : List Nat) (e : Ending) (w' : World) : Prop :=
  ∃ v', e = .returned v' ∧ w'.ownsRow w.heap.size 5 1 v' (Vm.encs ls).length (u8s (Vm.encs ls)) ∧ Below w.heap.size w w'
def AllRel (w : World) (ls : List Nat) (s2 sk : Value) (wr : World) : Prop :=
  ∃ k : Nat, sk = .int .i64 (k : Int) ∧ k ≤ ls.length ∧ wr.ownsRow w.heap.size 5 1 s2 (Vm.encs (ls.take k)).length (u8s (Vm.encs (ls.take k))) ∧ Below w.heap.size w wr
theorem all_step {w wr w1 : World} {ls : List Nat} {k : Nat} {v1 : Value} (hk : k < ls.length) (hb : Below w.heap.size w wr) (hb1 : Below w.heap.size wr w1)
    (ho : w1.ownsRow w.heap.size 5 1 v1 ((Vm.encs (ls.take k)).length + (Vm.enc (ls[k]?.getD 0)).length) (u8s (Vm.encs (ls.take k)) ++ u8s (Vm.enc (ls[k]?.getD 0)))) :
    AllRel w ls v1 (.int .i64 ((k : Int) + 1)) w1 := by
  refine ⟨k + 1, by go_num, hk, ?_, hb.trans hb1⟩
  rw [Vm.encs_snoc ls hk, List.length_append, u8s_append]
  exact ho

set_option maxRecDepth 100000 in
theorem All_any (w : World) (A : Option Addr) (c : Nat) (ls : List Nat) (B : Nat) (hr : Rd w B A (u64s ls)) (hB : B ≤ w.heap.size) (h64 : ∀ b ∈ ls, b ≤ 18446744073709551615) (hl : ls.length ≤ 1000000) :
    Calls Try.prog 46 #[.slice A ls.length c] w (AllPost w ls) := by
  go_enter Try.func46, Try.ntmps46
  go_wp2
  go_loopw [3, 8] (fun s3 s8 wr => AllRel w ls s3 s8 wr) (fun _ s8 _ => ls.length - (intOf s8).toNat)
  case atStart => exact ⟨0, rfl, by omega, by simpa [Vm.encs, u8s] using World.ownsRow_nil _ _ _ _, Below.refl _ _⟩
  case round =>
    obtain ⟨k, rfl, hk, ho, hb⟩ := hrel
    by_cases hlt : k < ls.length
    · obtain ⟨g, o, rfl, hg, hc0⟩ := (hr.below (hb.mono hB)).u64 (by intro h; simp [h] at hlt)
      have hc := hc0 k hlt
      clear hc0
      obtain ⟨x, hx⟩ : ∃ x, x = ls[k]?.getD 0 := ⟨_, rfl⟩
      have hx64 : x ≤ 18446744073709551615 := by rw [hx, List.getElem?_eq_getElem hlt]; exact h64 _ (List.getElem_mem hlt)
      have hst := fun (v1 : Value) (w1 : World) => all_step (w := w) (wr := wr) (w1 := w1) (v1 := v1) hlt hb
      rw [← hx] at hc hst
      have HX := Lib.hid hx; clear hx
      have hlen := Vm.encs_le (ls.take k)
      have hlt' : (ls.take k).length ≤ ls.length := by simp; omega
      have HP := Lib.hid (put_any wr w.heap.size u3 _ _ x ho hb.size hx64 (by omega))
      have HS := Lib.hid hst; clear hst
      go_wp2_with fail
      refine HP.out.mono ?_
      rintro e w1 ⟨v1, rfl, ho1, hb1, hne⟩
      have R := HS.out v1 w1 hb1 ho1
      have HR := Lib.hid R; clear R ho1 hb1 hne ho hb
      go_wp2
      go_roundw
      case rel => exact HR.out
      case measure => simp [intOf]; omega
    · have hkk : k = ls.length := by omega
      have R : AllPost w ls (.returned u3) wr := ⟨u3, rfl, by rw [hkk, List.take_length] at ho; exact ho, hb⟩
      have HR := Lib.hid R; clear R hkk ho hb
      go_wp2
      go_ret
      exact HR.out
end Go.Proofs.Ytgjkeccopjgjlaa
