/- vint's numbers without memory: Zig, Zag, Size; and what stands on Put and Take. -/
import Derived.Test.YtahichieakdbnaaPut
import Derived.Test.YtahichieakdbnaaTake
namespace Go.Proofs.Ytahichieakdbnaa
open Go.ChangeShapes Go.WideShapes Go.ChangeAt Go.RowKit
set_option linter.unusedVariables false

def NumPost (w : World) (v : Value) (e : Ending) (w' : World) : Prop := e = .returned v ∧ w = w'
theorem num_ret {w : World} {v v' : Value} (h : v' = v) : NumPost w v (.returned v') w := ⟨by rw [h], rfl⟩
theorem xor_all {n : Nat} (h : n ≤ 18446744073709551615) : bits .xor .u64 IntKind.u64.max (n : Int) = 18446744073709551615 - (n : Int) := by
  have e : IntKind.u64.max = ((18446744073709551615 : Nat) : Int) := by decide
  rw [e, u64_xor_nat _ _ (by omega) (by omega)]
  have h1 : 18446744073709551615 ^^^ n = 18446744073709551615 - n := by
    apply Nat.eq_of_testBit_eq
    intro i
    have e2 : 18446744073709551615 - n = 2 ^ 64 - (n + 1) := by omega
    have e3 : (18446744073709551615 : Nat) = 2 ^ 64 - 1 := by decide
    rw [e2, Nat.testBit_two_pow_sub_succ (by omega), Nat.testBit_xor, e3, Nat.testBit_two_pow_sub_one]
    by_cases hi : i < 64
    · simp [hi]
    · have h2 : n.testBit i = false := Nat.testBit_lt_two_pow (Nat.lt_of_lt_of_le (show n < 2 ^ 64 by omega) (Nat.pow_le_pow_right (by omega) (by omega)))
      simp [hi, h2]
  rw [h1]; omega
theorem zig_neg {n : Int} (h0 : -9223372036854775808 ≤ n) (hn : n < 0) : bits BinOp.xor IntKind.u64 IntKind.u64.max (IntKind.u64.wrap (IntKind.u64.wrap n * 2)) = ((Vm.zig n : Nat) : Int) := by
  have e : IntKind.u64.wrap (IntKind.u64.wrap n * 2) = ((18446744073709551616 + 2 * n).toNat : Int) := by
    rw [IntKind.wrap_u64, IntKind.wrap_u64]; omega
  rw [e, xor_all (by omega)]
  unfold Vm.zig
  rw [if_pos hn]
  omega
theorem zag_neg {n : Nat} (h1 : n ≤ 18446744073709551615) (hn : n % 2 = 1) : wrap64 (bits BinOp.xor IntKind.u64 IntKind.u64.max ((n : Int) / 2)) = Vm.zag n := by
  rw [show ((n : Int) / 2) = ((n / 2 : Nat) : Int) by omega, xor_all (by omega)]
  unfold wrap64 Vm.zag
  rw [if_pos hn]
  omega
def TakeSPost (w : World) (bs : List Nat) (e : Ending) (w' : World) : Prop :=
  (if (Vm.take bs).2.2 = 0 then e = .returned (.tuple #[.int .i64 (Vm.zag (Vm.take bs).1), .int .i64 ((Vm.take bs).2.1 : Int), .int .i64 0])
   else e = .returned (.tuple #[.int .i64 0, .int .i64 0, .int .i64 ((Vm.take bs).2.2 : Int)])) ∧ w = w'

theorem takeS_ok {w : World} {bs : List Nat} {a b c : Nat} (h : Vm.take bs = (a, b, c)) (hc : c = 0) : TakeSPost w bs (.returned (.tuple #[.int .i64 (Vm.zag a), .int .i64 (b : Int), .int .i64 0])) w := by
  subst hc
  unfold TakeSPost
  rw [h]
  simp
theorem takeS_no {w : World} {bs : List Nat} {a b c : Nat} (h : Vm.take bs = (a, b, c)) (hc : c ≠ 0) : TakeSPost w bs (.returned (.tuple #[.int .i64 0, .int .i64 0, .int .i64 (c : Int)])) w := by
  unfold TakeSPost
  rw [h]
  simp [hc]
theorem take_range (bs : List Nat) : (Vm.take bs).1 ≤ 18446744073709551615 ∧ (Vm.take bs).2.1 ≤ 10 ∧ (Vm.take bs).2.2 ≤ 3 := by
  have hf : ∀ n l k, Vm.fin n l = some k → k < n ∧ k < l.length := by
    intro n
    induction n with
    | zero => intro l k h; simp [Vm.fin] at h
    | succ n ih =>
      intro l k h
      match l with
      | [] => simp [Vm.fin] at h
      | b :: r =>
        unfold Vm.fin at h
        split at h
        · simp at h; subst h; simp
        · simp only [Option.map_eq_some_iff] at h
          obtain ⟨a, ha, rfl⟩ := h
          have := ih r a ha
          simp; omega
  unfold Vm.take
  split
  · split <;> simp
  · next k hk =>
    have h1 := hf 10 bs k hk
    split
    · simp
    · next hb =>
      refine ⟨Vm.part_64 (j := 0) h1.2 (by omega) (fun h9 => ?_), by simp; omega, by simp⟩
      simp at hb
      have := hb.2 h9
      simpa using this

end Go.Proofs.Ytahichieakdbnaa
