/- The contracts of vint as callers meet them. -/
import Derived.Test.YtgjkeccopjgjlaaNum
import Derived.Test.YtgjkeccopjgjlaaAll
import Derived.Test.YtgjkeccopjgjlaaSame
namespace Go.Proofs.Ytgjkeccopjgjlaa
open Go.ChangeShapes Go.WideShapes Go.ChangeAt Go.RowKit
set_option linter.unusedVariables false

theorem take_at (w : World) (A : Option Addr) (c : Nat) (bs : List Nat) (B n a b d : Nat) (hr : Rd w B A (u8s bs)) (h256 : ∀ b ∈ bs, b < 256) (hl : bs.length ≤ maxLen) (hn : bs.length = n) (ht : Vm.take bs = (a, b, d)) :
    Calls Try.prog 58 #[.slice A n c] w fun e w' => e = .returned (.tuple #[.int .u64 (a : Int), .int .i64 (b : Int), .int .i64 (d : Int)]) ∧ w = w' := by
  subst hn
  refine (take_any w A c bs B hr h256 hl).mono fun e w' h => ?_
  unfold TakePost at h
  rw [ht] at h
  exact h
theorem takeS_at (w : World) (A : Option Addr) (c : Nat) (bs : List Nat) (B n b : Nat) (a : Int) (m : Nat) (hr : Rd w B A (u8s bs)) (h256 : ∀ b ∈ bs, b < 256) (hl : bs.length ≤ maxLen) (hn : bs.length = n) (ht : Vm.take bs = (m, b, 0)) (ha : Vm.zag m = a) :
    Calls Try.prog 79 #[.slice A n c] w fun e w' => e = .returned (.tuple #[.int .i64 a, .int .i64 (b : Int), .int .i64 0]) ∧ w = w' := by
  subst hn ha
  refine (TakeSigned_any w A c bs B hr h256 hl).mono fun e w' h => ?_
  unfold TakeSPost at h
  rw [ht] at h
  simpa using h
theorem takeS_no_at (w : World) (A : Option Addr) (c : Nat) (bs : List Nat) (B n a b d : Nat) (hr : Rd w B A (u8s bs)) (h256 : ∀ b ∈ bs, b < 256) (hl : bs.length ≤ maxLen) (hn : bs.length = n) (ht : Vm.take bs = (a, b, d)) (hd : d ≠ 0) :
    Calls Try.prog 79 #[.slice A n c] w fun e w' => e = .returned (.tuple #[.int .i64 0, .int .i64 0, .int .i64 (d : Int)]) ∧ w = w' := by
  subst hn
  refine (TakeSigned_any w A c bs B hr h256 hl).mono fun e w' h => ?_
  unfold TakeSPost at h
  rw [ht] at h
  simpa [hd] using h
theorem Put_at (w : World) (x : Int) (bs : List Nat) (k : Nat) (h0 : 0 ≤ x) (h1 : x ≤ 18446744073709551615) (hbs : Vm.enc x.toNat = bs) (hk : bs.length = k) :
    Calls Try.prog 48 #[.int .u64 x] w fun e w' => ∃ v, e = .returned v ∧ Made w' v bs k ∧ Below w.heap.size w w' := by
  obtain ⟨n, rfl⟩ := Int.eq_ofNat_of_zero_le h0
  rw [Int.toNat_natCast] at hbs
  subst hbs
  refine (Put_any w n (by omega)).mono ?_
  rintro e w' ⟨v, rfl, ho, hb, _⟩
  exact ⟨v, rfl, made_of_own (by simpa using ho) hk (Vm.enc_byte (by omega)), hb⟩
theorem PutS_at (w : World) (x : Int) (bs : List Nat) (k : Nat) (h0 : -9223372036854775808 ≤ x) (h1 : x ≤ 9223372036854775807) (hbs : Vm.enc (Vm.zig x) = bs) (hk : bs.length = k) :
    Calls Try.prog 63 #[.int .i64 x] w fun e w' => ∃ v, e = .returned v ∧ Made w' v bs k ∧ Below w.heap.size w w' := by
  subst hbs
  refine (PutSigned_any w x h0 h1).mono ?_
  rintro e w' ⟨v, rfl, ho, hb, _⟩
  exact ⟨v, rfl, made_of_own (by simpa using ho) hk (Vm.enc_byte (Vm.zig_lt h0 h1)), hb⟩
theorem encs_byte {ls : List Nat} (h : ∀ b ∈ ls, b ≤ 18446744073709551615) : ∀ b ∈ Vm.encs ls, b < 256 := by
  intro b hb
  simp only [Vm.encs, List.mem_flatMap] at hb
  obtain ⟨n, hn, hb⟩ := hb
  exact Vm.enc_byte (by have := h n hn; omega) b hb
theorem All_at (w : World) (A : Option Addr) (c : Nat) (ls : List Nat) (B n : Nat) (hr : Rd w B A (u64s ls)) (hB : B ≤ w.heap.size) (h64 : ∀ b ∈ ls, b ≤ 18446744073709551615) (hl : ls.length ≤ 1000000) (hn : ls.length = n) (bs : List Nat) (k : Nat) (hbs : Vm.encs ls = bs) (hk : bs.length = k) :
    Calls Try.prog 46 #[.slice A n c] w fun e w' => ∃ v, e = .returned v ∧ Made w' v bs k ∧ Below w.heap.size w w' := by
  subst hn hbs
  refine (All_any w A c ls B hr hB h64 hl).mono ?_
  rintro e w' ⟨v, rfl, ho, hb⟩
  exact ⟨v, rfl, made_of_own ho hk (encs_byte h64), hb⟩
theorem Zig_at (w : World) (x y : Int) (h0 : -9223372036854775808 ≤ x) (h1 : x ≤ 9223372036854775807) (hy : (Vm.zig x : Int) = y) :
    Calls Try.prog 77 #[.int .i64 x] w fun e w' => e = .returned (.int .u64 y) ∧ w = w' := by subst hy; exact Zig_any w x h0 h1
theorem Zag_at (w : World) (x y : Int) (h0 : 0 ≤ x) (h1 : x ≤ 18446744073709551615) (hy : Vm.zag x.toNat = y) :
    Calls Try.prog 82 #[.int .u64 x] w fun e w' => e = .returned (.int .i64 y) ∧ w = w' := by
  obtain ⟨n, rfl⟩ := Int.eq_ofNat_of_zero_le h0
  subst hy
  exact Zag_any w n (by omega)
end Go.Proofs.Ytgjkeccopjgjlaa
