/- The contracts of vint as callers meet them. -/
import Derived.Test.YtahichieakdbnaaNum
import Derived.Test.YtahichieakdbnaaAll
import Derived.Test.YtahichieakdbnaaSame
namespace Go.Proofs.Ytahichieakdbnaa
open Go.ChangeShapes Go.WideShapes Go.ChangeAt Go.RowKit
set_option linter.unusedVariables false

theorem take_at (w : World) (A : Option Addr) (c : Nat) (bs : List Nat) (B n a b d : Nat) (hr : Rd w B A (u8s bs)) (h256 : ∀ b ∈ bs, b < 256) (hl : bs.length ≤ maxLen) (hn : bs.length = n) (ht : Vm.take bs = (a, b, d)) :
    Calls Try.prog 94 #[.slice A n c] w fun e w' => e = .returned (.tuple #[.int .u64 (a : Int), .int .i64 (b : Int), .int .i64 (d : Int)]) ∧ w = w' := by
  subst hn
  refine (take_any w A c bs B hr h256 hl).mono fun e w' h => ?_
  unfold TakePost at h
  rw [ht] at h
  exact h
theorem Put_at (w : World) (x : Int) (bs : List Nat) (k : Nat) (h0 : 0 ≤ x) (h1 : x ≤ 18446744073709551615) (hbs : Vm.enc x.toNat = bs) (hk : bs.length = k) :
    Calls Try.prog 98 #[.int .u64 x] w fun e w' => ∃ v, e = .returned v ∧ Made w' v bs k ∧ Below w.heap.size w w' := by
  obtain ⟨n, rfl⟩ := Int.eq_ofNat_of_zero_le h0
  rw [Int.toNat_natCast] at hbs
  subst hbs
  refine (Put_any w n (by omega)).mono ?_
  rintro e w' ⟨v, rfl, ho, hb, _⟩
  exact ⟨v, rfl, made_of_own (by simpa using ho) hk (Vm.enc_byte (by omega)), hb⟩
theorem encs_byte {ls : List Nat} (h : ∀ b ∈ ls, b ≤ 18446744073709551615) : ∀ b ∈ Vm.encs ls, b < 256 := by
  intro b hb
  simp only [Vm.encs, List.mem_flatMap] at hb
  obtain ⟨n, hn, hb⟩ := hb
  exact Vm.enc_byte (by have := h n hn; omega) b hb
end Go.Proofs.Ytahichieakdbnaa
