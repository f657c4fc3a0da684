/- vint.Size: how many bytes a number has. -/
import Derived.Test.YtignfhdblakcfaaDoorShelf
import Derived.Test.YtignfhdblakcfaaDoorNumF
namespace Go.Proofs.YtignfhdblakcfaaDoor
open Go.ChangeShapes Go.WideShapes Go.ChangeAt Go.RowKit
set_option linter.unusedVariables false

theorem bitLen_small : ∀ m : Fin 128, (Lib.bitLen (m.val ||| 1) + 6) / 7 = 1 := by decide +kernel
theorem or_one (n : Nat) : n ||| 1 = n / 2 * 2 + 1 := by
  have h := nat_join 1 (n / 2 * 2) 1 (by omega) (by omega)
  rw [← h]
  apply Nat.eq_of_testBit_eq
  intro i
  rw [Nat.testBit_or, Nat.testBit_or]
  cases i with
  | zero => simp
  | succ i =>
    rw [Nat.testBit_succ, Nat.testBit_succ, Nat.testBit_succ]
    congr 2
    omega
theorem size_len : ∀ (k n : Nat), n < 128 ^ (k + 1) → n < 18446744073709551616 → (Lib.bitLen (n ||| 1) + 6) / 7 = (Vm.enc n).length
  | 0, n, h, _ => by
    have h1 := bitLen_small ⟨n, by omega⟩
    simp only at h1
    rw [h1, Vm.enc_small (by omega)]
    rfl
  | k + 1, n, h, h2 => by
    by_cases hs : n < 128
    · have h1 := bitLen_small ⟨n, by omega⟩
      simp only at h1
      rw [h1, Vm.enc_small (by omega)]
      rfl
    · have ih := size_len k (n / 128) (by rw [Nat.pow_succ] at h; omega) (by omega)
      rw [Vm.enc_big (by omega) h2, List.length_cons, ← ih, or_one, or_one]
      have e := Lib.bitLen_shift 7 (n / 2 * 2 + 1) (by omega) (by omega)
      have e2 : (n / 2 * 2 + 1) / 2 ^ 7 = n / 128 := by omega
      rw [e2] at e
      rw [e]
      by_cases hz : n / 128 = n / 128 / 2 * 2 + 1
      · rw [← hz]; omega
      · -- the last bit, put in, adds no place: n / 128 is at least 1
        have e3 := Lib.bitLen_half (n / 128) (by omega) (by omega)
        have e4 := Lib.bitLen_half (n / 128 / 2 * 2 + 1) (by omega) (by omega)
        have e5 : (n / 128 / 2 * 2 + 1) / 2 = n / 128 / 2 := by omega
        rw [e5] at e4
        rw [e3, e4]
        omega
theorem size_eq {n : Nat} (h : n ≤ 18446744073709551615) : (Lib.bitLen (n ||| 1) + 6) / 7 = (Vm.enc n).length :=
  size_len 9 n (by have : (128 : Nat) ^ 10 = 1180591620717411303424 := by decide
                   show n < 128 ^ 10
                   omega) (by omega)
theorem Size_any (w : World) (n : Nat) (h : n ≤ 18446744073709551615) :
    Calls Tryd.prog 28 #[.int .u64 (n : Int)] w (NumPost w (.int .i64 ((Vm.enc n).length : Int))) := by
  have e : bits .or .u64 (n : Int) 1 = ((n ||| 1 : Nat) : Int) := by rw [show (1 : Int) = ((1 : Nat) : Int) from rfl, u64_or_nat _ _ (by omega) (by omega)]
  have hle : n ||| 1 ≤ 18446744073709551615 := by rw [or_one]; omega
  have HL := Lib.hid (Tryd.bits_Len64 ((n ||| 1 : Nat) : Int) w (by omega) (by omega))
  have hsz := size_eq h
  obtain ⟨m, hm⟩ : ∃ m, m = n ||| 1 := ⟨_, rfl⟩
  have hb : Lib.bitLen m ≤ 64 := Lib.bitLen_le m 64 (by omega) (by rw [hm]; omega)
  rw [← hm] at e HL hsz hle
  have HS := Lib.hid hsz; clear hsz
  have HM := Lib.hid hm; clear hm
  obtain ⟨y, hy⟩ : ∃ y, y = Lib.bitLen m := ⟨_, rfl⟩
  rw [← hy] at hb HS
  have HLL : ∀ (e : Ending) (w' : World), (e = .returned (.int .i64 (Lib.bitLen ((m : Nat) : Int).toNat)) ∧ w' = w) → e = .returned (.int .i64 (y : Int)) ∧ w = w' := by
    rintro e w' ⟨rfl, rfl⟩
    exact ⟨by rw [hy]; rfl, rfl⟩
  have HLH := Lib.hid HLL; clear HLL
  have HY := Lib.hid hy; clear hy
  go_enter Tryd.func28, Tryd.ntmps28
  go_wp2_with fail
  refine HL.out.mono ?_
  intro e w' h
  obtain ⟨rfl, rfl⟩ := HLH.out e w' h
  clear h
  go_wp2
  go_ret
  exact num_ret (by show Value.int .i64 ((((y : Nat) : Int) + 6) / 7) = _; rw [← HS.out]; congr 1)
end Go.Proofs.YtignfhdblakcfaaDoor
