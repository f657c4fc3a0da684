/- vint's numbers without memory: Zig, Zag, Size; and what stands on Put and Take. -/
import Derived.Test.YtgjkeccopjgjlaaPut
import Derived.Test.YtgjkeccopjgjlaaTake
namespace Go.Proofs.Ytgjkeccopjgjlaa
open Go.ChangeShapes Go.WideShapes Go.ChangeAt Go.RowKit
set_option linter.unusedVariables false

def NumPost (w : World) (v : Value) (e : Ending) (w' : World) : Prop := e = .returned v ∧ w = w'
theorem num_ret {w : World} {v v' : Value} (h : v' = v) : NumPost w v (.returned v') w := ⟨by rw [h], rfl⟩
theorem xor_all {n : Nat} (h : n ≤ 18446744073709551615) : bits .xor .u64 IntKind.u64.max (n : Int) = 18446744073709551615 - (n : Int) := by
  have e : IntKind.u64.max = ((18446744073709551615 : Nat) : Int) := by decide
  rw [e, u64_xor_nat _ _ (by omega) (by omega)]
  have h1 : 18446744073709551615 ^^^ n = 18446744073709551615 - n := by
    apply Nat.eq_of_testBit_eq
    intro i
    have e2 : 18446744073709551615 - n = 2 ^ 64 - (n + 1) := by omega
    have e3 : (18446744073709551615 : Nat) = 2 ^ 64 - 1 := by decide
    rw [e2, Nat.testBit_two_pow_sub_succ (by omega), Nat.testBit_xor, e3, Nat.testBit_two_pow_sub_one]
    by_cases hi : i < 64
    · simp [hi]
    · have h2 : n.testBit i = false := Nat.testBit_lt_two_pow (Nat.lt_of_lt_of_le (show n < 2 ^ 64 by omega) (Nat.pow_le_pow_right (by omega) (by omega)))
      simp [hi, h2]
  rw [h1]; omega
theorem zig_neg {n : Int} (h0 : -9223372036854775808 ≤ n) (hn : n < 0) : bits BinOp.xor IntKind.u64 IntKind.u64.max (IntKind.u64.wrap (IntKind.u64.wrap n * 2)) = ((Vm.zig n : Nat) : Int) := by
  have e : IntKind.u64.wrap (IntKind.u64.wrap n * 2) = ((18446744073709551616 + 2 * n).toNat : Int) := by
    rw [IntKind.wrap_u64, IntKind.wrap_u64]; omega
  rw [e, xor_all (by omega)]
  unfold Vm.zig
  rw [if_pos hn]
  omega
theorem zag_neg {n : Nat} (h1 : n ≤ 18446744073709551615) (hn : n % 2 = 1) : wrap64 (bits BinOp.xor IntKind.u64 IntKind.u64.max ((n : Int) / 2)) = Vm.zag n := by
  rw [show ((n : Int) / 2) = ((n / 2 : Nat) : Int) by omega, xor_all (by omega)]
  unfold wrap64 Vm.zag
  rw [if_pos hn]
  omega
theorem Zig_any (w : World) (n : Int) (h0 : -9223372036854775808 ≤ n) (h1 : n ≤ 9223372036854775807) :
    Calls Try.prog 77 #[.int .i64 n] w (NumPost w (.int .u64 (Vm.zig n : Int))) := by
  by_cases hn : n < 0
  · go_enter Try.func77, Try.ntmps77
    go_wp2
    go_ret
    exact num_ret (by show Value.int .u64 (bits BinOp.xor IntKind.u64 IntKind.u64.max (IntKind.u64.wrap (IntKind.u64.wrap n * 2))) = _; rw [zig_neg h0 hn])
  · go_enter Try.func77, Try.ntmps77
    go_wp2
    go_ret
    exact num_ret (by show Value.int .u64 (n * 2) = _; unfold Vm.zig; rw [if_neg (by omega)]; congr 1; omega)
theorem Zag_any (w : World) (n : Nat) (h1 : n ≤ 18446744073709551615) :
    Calls Try.prog 82 #[.int .u64 (n : Int)] w (NumPost w (.int .i64 (Vm.zag n))) := by
  have e : bits .and .u64 (n : Int) 1 = ((n % 2 : Nat) : Int) := by
    rw [show (1 : Int) = ((1 : Nat) : Int) from rfl, u64_and_nat _ _ (by omega) (by omega), nat_mask1]
  by_cases hn : n % 2 = 1
  · have hb : (bits .and .u64 (n : Int) 1 == 1) = true := by rw [e, hn]; rfl
    clear e
    have H := Lib.hid hn; clear hn
    go_enter Try.func82, Try.ntmps82
    go_wp2
    go_ret
    exact num_ret (by show Value.int .i64 (wrap64 (bits BinOp.xor IntKind.u64 IntKind.u64.max ((n : Int) / 2))) = _; rw [zag_neg h1 H.out])
  · have hb : (bits .and .u64 (n : Int) 1 == 1) = false := by rw [e]; simp; omega
    clear e
    have H := Lib.hid hn; clear hn
    go_enter Try.func82, Try.ntmps82
    go_wp2
    go_ret
    exact num_ret (by show Value.int .i64 ((n : Int) / 2) = _; unfold Vm.zag; rw [if_neg H.out]; congr 1)

def TakeSPost (w : World) (bs : List Nat) (e : Ending) (w' : World) : Prop :=
  (if (Vm.take bs).2.2 = 0 then e = .returned (.tuple #[.int .i64 (Vm.zag (Vm.take bs).1), .int .i64 ((Vm.take bs).2.1 : Int), .int .i64 0])
   else e = .returned (.tuple #[.int .i64 0, .int .i64 0, .int .i64 ((Vm.take bs).2.2 : Int)])) ∧ w = w'

theorem takeS_ok {w : World} {bs : List Nat} {a b c : Nat} (h : Vm.take bs = (a, b, c)) (hc : c = 0) : TakeSPost w bs (.returned (.tuple #[.int .i64 (Vm.zag a), .int .i64 (b : Int), .int .i64 0])) w := by
  subst hc
  unfold TakeSPost
  rw [h]
  simp
theorem takeS_no {w : World} {bs : List Nat} {a b c : Nat} (h : Vm.take bs = (a, b, c)) (hc : c ≠ 0) : TakeSPost w bs (.returned (.tuple #[.int .i64 0, .int .i64 0, .int .i64 (c : Int)])) w := by
  unfold TakeSPost
  rw [h]
  simp [hc]
theorem take_range (bs : List Nat) : (Vm.take bs).1 ≤ 18446744073709551615 ∧ (Vm.take bs).2.1 ≤ 10 ∧ (Vm.take bs).2.2 ≤ 3 := by
  have hf : ∀ n l k, Vm.fin n l = some k → k < n ∧ k < l.length := by
    intro n
    induction n with
    | zero => intro l k h; simp [Vm.fin] at h
    | succ n ih =>
      intro l k h
      match l with
      | [] => simp [Vm.fin] at h
      | b :: r =>
        unfold Vm.fin at h
        split at h
        · simp at h; subst h; simp
        · simp only [Option.map_eq_some_iff] at h
          obtain ⟨a, ha, rfl⟩ := h
          have := ih r a ha
          simp; omega
  unfold Vm.take
  split
  · split <;> simp
  · next k hk =>
    have h1 := hf 10 bs k hk
    split
    · simp
    · next hb =>
      refine ⟨Vm.part_64 (j := 0) h1.2 (by omega) (fun h9 => ?_), by simp; omega, by simp⟩
      simp at hb
      have := hb.2 h9
      simpa using this

set_option maxRecDepth 100000 in
theorem TakeSigned_any (w : World) (A : Option Addr) (c : Nat) (bs : List Nat) (B : Nat) (hr : Rd w B A (u8s bs)) (h256 : ∀ b ∈ bs, b < 256) (hl : bs.length ≤ maxLen) :
    Calls Try.prog 79 #[.slice A bs.length c] w (TakeSPost w bs) := by
  have H := Lib.hid (take_any w A c bs B hr h256 hl)
  have hrange := take_range bs
  obtain ⟨a, b, d, he⟩ : ∃ a b d, Vm.take bs = (a, b, d) := ⟨_, _, _, rfl⟩
  rw [he] at hrange
  simp only at hrange
  obtain ⟨ha, hb, hd⟩ := hrange
  have hpost : ∀ (e : Ending) (w' : World), TakePost w bs e w' → e = .returned (.tuple #[.int .u64 (a : Int), .int .i64 (b : Int), .int .i64 (d : Int)]) ∧ w = w' := by
    intro e w' h; unfold TakePost at h; rw [he] at h; exact h
  have HP := Lib.hid hpost; clear hpost
  by_cases hd0 : d = 0
  · subst hd0
    have R := takeS_ok (w := w) he rfl
    have HR := Lib.hid R; clear R he
    have HZ := Lib.hid (Zag_any w a ha)
    go_enter Try.func79, Try.ntmps79
    go_wp2_with fail
    refine H.out.mono ?_
    intro e w' h
    obtain ⟨rfl, rfl⟩ := HP.out e w' h
    clear h
    go_wp2_with fail
    refine HZ.out.mono ?_
    rintro e w' ⟨rfl, rfl⟩
    go_wp2
    go_ret3
    exact HR.out
  · have R := takeS_no (w := w) he hd0
    have HR := Lib.hid R; clear R he
    have hdn : ((d : Int) != 0) = true := by simp; omega
    go_enter Try.func79, Try.ntmps79
    go_wp2_with fail
    refine H.out.mono ?_
    intro e w' h
    obtain ⟨rfl, rfl⟩ := HP.out e w' h
    clear h
    go_wp2
    go_ret3
    exact HR.out

theorem PutSigned_any (w : World) (n : Int) (h0 : -9223372036854775808 ≤ n) (h1 : n ≤ 9223372036854775807) :
    Calls Try.prog 63 #[.int .i64 n] w (PutPost w.heap.size w 0 [] (Vm.zig n)) := by
  have HZ := Lib.hid (Zig_any w n h0 h1)
  have HP := Lib.hid (Put_any w (Vm.zig n) (by have := Vm.zig_lt h0 h1; omega))
  go_enter Try.func63, Try.ntmps63
  go_wp2_with fail
  refine HZ.out.mono ?_
  rintro e w' ⟨rfl, rfl⟩
  go_wp2_with fail
  refine HP.out.mono ?_
  rintro e w' ⟨v, rfl, h⟩
  have H1 := Lib.hid h; clear h
  go_wp2
  go_ret
  exact ⟨v, rfl, H1.out⟩
end Go.Proofs.Ytgjkeccopjgjlaa
