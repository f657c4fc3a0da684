/- packetboatref02: the document's answers of layer 2. -/
import Derived.Test.YtignfhdblakcfaaDoorTurn
import Derived.Test.YtignfhdblakcfaaDoorSame
namespace Go.Proofs.YtignfhdblakcfaaDoor
open Go.ChangeShapes Go.WideShapes Go.ChangeAt Go.RowKit
set_option linter.unusedVariables false

namespace Cm
theorem step_bit (c y : Nat) : (if c % 2 = y % 2 then c / 2 else c / 2 ^^^ P) = half (c ^^^ y) ^^^ y / 2 := by
  unfold half
  rw [Nat.xor_div_two]
  have h := @Nat.xor_mod_two_eq_one c y
  by_cases hc : c % 2 = 1 <;> by_cases hy : y % 2 = 1
  · rw [if_pos (by omega), if_neg (by rw [h]; simp [hc, hy])]
    apply Nat.eq_of_testBit_eq
    intro i
    simp only [Nat.testBit_xor]
    cases (c / 2).testBit i <;> cases (y / 2).testBit i <;> rfl
  · rw [if_neg (by omega), if_pos (by rw [h]; simp [hc, hy])]
    apply Nat.eq_of_testBit_eq
    intro i
    simp only [Nat.testBit_xor]
    cases (c / 2).testBit i <;> cases (y / 2).testBit i <;> cases P.testBit i <;> rfl
  · rw [if_neg (by omega), if_pos (by rw [h]; simp [hc, hy])]
    apply Nat.eq_of_testBit_eq
    intro i
    simp only [Nat.testBit_xor]
    cases (c / 2).testBit i <;> cases (y / 2).testBit i <;> cases P.testBit i <;> rfl
  · rw [if_pos (by omega), if_neg (by rw [h]; simp [hc, hy])]
    apply Nat.eq_of_testBit_eq
    intro i
    simp only [Nat.testBit_xor]
    cases (c / 2).testBit i <;> cases (y / 2).testBit i <;> rfl
theorem H_succ (k c : Nat) : H (k + 1) c = half (H k c) := by rw [H_add]; rfl
/-- the reference's sum within a byte -/
def part (c x k : Nat) : Nat := H k (c ^^^ x) ^^^ x / 2 ^ k
theorem part_zero (c x : Nat) : part c x 0 = c := by
  unfold part
  simp only [H, Nat.pow_zero, Nat.div_one]
  rw [Nat.xor_assoc, Nat.xor_self, Nat.xor_zero]
theorem part_succ (c x k : Nat) : part c x (k + 1) = if part c x k % 2 = x / 2 ^ k % 2 then part c x k / 2 else part c x k / 2 ^^^ P := by
  rw [step_bit]
  unfold part
  rw [H_succ, Nat.xor_assoc (H k (c ^^^ x)), Nat.xor_self, Nat.xor_zero, Nat.pow_succ, Nat.div_div_eq_div_mul]
theorem part_eight {c x : Nat} (h : x < 256) : part c x 8 = upd c x := by
  unfold part upd
  rw [show x / 2 ^ 8 = 0 by omega, Nat.xor_zero]
theorem half_le {c : Nat} (h : c < 4294967296) : c / 2 ^^^ P < 4294967296 := xor_lt (by omega) (by decide)
theorem part_lt {c x : Nat} (hc : c < 4294967296) : ∀ k, part c x k < 4294967296
  | 0 => by rw [part_zero]; exact hc
  | k + 1 => by
    rw [part_succ]
    have := part_lt (x := x) hc k
    split
    · omega
    · exact half_le this
theorem F_sub {c : Nat} (h : c < 4294967296) : 4294967295 - c = c ^^^ F := by
  apply Nat.eq_of_testBit_eq
  intro i
  have h1 := Nat.testBit_two_pow_sub_succ (n := 32) (x := c) (by omega) i
  rw [show 2 ^ 32 - (c + 1) = 4294967295 - c by omega] at h1
  rw [h1, Nat.testBit_xor, show F = 2 ^ 32 - 1 from rfl, Nat.testBit_two_pow_sub_one]
  by_cases hi : i < 32
  · simp [hi]
  · have hp : 2 ^ 32 ≤ 2 ^ i := Nat.pow_le_pow_right (by omega) (by omega)
    have : c.testBit i = false := Nat.testBit_lt_two_pow (by omega)
    simp [hi, this]
end Cm

def BitRel (x k : Nat) (s0 s5 : Value) : Prop := ∃ i y : Nat, s0 = .int .u8 (y : Int) ∧ s5 = .int .i64 (i : Int) ∧ i ≤ k ∧ y < 256 ∧ Hid (y = x / 2 ^ i)
set_option maxRecDepth 100000 in
theorem Rbit_any (w : World) (x k r : Nat) (hx : x < 256) (hk : k < 1000) (hr : x / 2 ^ k % 2 = r) :
    Calls Tryd.prog 36 #[.int .u8 (x : Int), .int .i64 (k : Int)] w fun e w' => e = .returned (.int .u32 (r : Int)) ∧ w = w' := by
  have HR := Lib.hid hr
  clear hr
  go_enter Tryd.func36, Tryd.ntmps36
  go_wp2
  go_loop [0, 5] (fun s0 s5 => BitRel x k s0 s5) (fun _ s5 => k - (intOf s5).toNat)
  case atStart => exact ⟨0, x, rfl, rfl, by omega, hx, by show x = x / 2 ^ 0; simp⟩
  case round =>
    obtain ⟨i, y, rfl, rfl, hi, hy, he⟩ := hrel
    by_cases hlt : i < k
    · go_wp2
      go_round
      case rel => exact ⟨i + 1, y / 2, by go_num, by go_num, by omega, by omega, by show y / 2 = x / 2 ^ (i + 1); rw [he.out, Nat.div_div_eq_div_mul, Nat.pow_succ]⟩
      case measure => simp [intOf]; omega
    · obtain rfl : i = k := by omega
      go_wp2
      go_ret
      refine ⟨?_, rfl⟩
      have e : y % 2 = r := by rw [he.out]; exact HR.out
      have e2 : (y : Int) % 2 = (r : Int) := by omega
      show Ending.returned (.int .u32 ((y : Int) % 2)) = .returned (.int .u32 (r : Int))
      rw [e2]

theorem xor32h {a b : Nat} (ha : a < 4294967296) (hb : b < 4294967296) : bits .xor .u32 ((a : Int) / 2) (b : Int) = ((a / 2 ^^^ b : Nat) : Int) := by
  rw [show ((a : Int) / 2) = ((a / 2 : Nat) : Int) by omega]
  exact u32_xor_nat _ b (by omega) hb
def RSumRel (bs : List Nat) (s3 s4 : Value) : Prop := ∃ n c : Nat, s3 = .int .u32 (c : Int) ∧ s4 = .int .i64 (n : Int) ∧ n ≤ bs.length ∧ c < 4294967296 ∧ Hid (c = Cm.run Cm.F (bs.take n))
def RByteRel (c x : Nat) (s3 s5 : Value) : Prop := ∃ k d : Nat, s3 = .int .u32 (d : Int) ∧ s5 = .int .i64 (k : Int) ∧ k ≤ 8 ∧ d < 4294967296 ∧ Hid (d = Cm.part c x k)
set_option maxRecDepth 100000 in
theorem RSum_any (w : World) (A : Option Addr) (len cap : Nat) (bs : List Nat) (B : Nat) (hr : Rd w B A (u8s bs)) (h256 : ∀ b ∈ bs, b < 256) (hn : bs.length = len) (hl : len ≤ maxLen) :
    Calls Tryd.prog 31 #[.slice A len cap] w fun e w' => e = .returned (.int .u32 (Cm.sum bs : Int)) ∧ w = w' := by
  subst hn
  unfold maxLen at hl
  have cB := Lib.hid (fun (w : World) (x k r : Nat) (hx : x < 256) (hk : k < 1000) (hr : x / 2 ^ k % 2 = r) => Rbit_any w x k r hx hk hr)
  go_enter Tryd.func31, Tryd.ntmps31
  go_wp2
  go_loop [3, 4] (fun s3 s4 => RSumRel bs s3 s4) (fun _ s4 => bs.length - (intOf s4).toNat)
  case atStart => exact ⟨0, 4294967295, rfl, rfl, by omega, by omega, by show 4294967295 = _; rfl⟩
  case round =>
    obtain ⟨n, c, rfl, rfl, hn, hc, hrun⟩ := hrel
    by_cases hlt : n < bs.length
    · obtain ⟨g, o, rfl, hg, hcell⟩ := hr.u8 (by intro h; simp [h] at hlt)
      have hx := hcell n hlt
      clear hcell
      obtain ⟨x, hxe⟩ : ∃ x, x = bs[n]?.getD 0 := ⟨_, rfl⟩
      have hx256 : x < 256 := by rw [hxe, List.getElem?_eq_getElem hlt]; exact h256 _ (List.getElem_mem hlt)
      rw [← hxe] at hx
      have hnext : Cm.part c x 8 = Cm.run Cm.F (bs.take (n + 1)) := by
        rw [Cm.part_eight hx256, List.take_succ_eq_append_getElem hlt, Cm.run_append, ← hrun.out, hxe, List.getElem?_eq_getElem hlt]
        rfl
      have HN := Lib.hid hnext
      clear hnext hxe
      go_wp2
      go_loop [3, 5] (fun s3 s5 => RByteRel c x s3 s5) (fun _ s5 => 8 - (intOf s5).toNat)
      case atStart => exact ⟨0, c, rfl, rfl, by omega, hc, by show c = _; rw [Cm.part_zero]⟩
      case round =>
        obtain ⟨k, d, rfl, rfl, hk, hd, hde⟩ := hrel
        by_cases hk8 : k < 8
        · obtain ⟨r, hre⟩ : ∃ r, x / 2 ^ k % 2 = r := ⟨_, rfl⟩
          have HRE := Lib.hid hre
          have hstep := Cm.part_succ c x k
          rw [← hde.out, hre] at hstep
          have HS := Lib.hid hstep
          clear hstep hre
          have e1 : bits .xor .u32 ((d : Int) / 2) 2197175160 = ((d / 2 ^^^ 2197175160 : Nat) : Int) := xor32h (b := 2197175160) hd (by decide)
          obtain ⟨d2, hd2⟩ : ∃ d2, d2 = d / 2 ^^^ 2197175160 := ⟨_, rfl⟩
          have hd2l : d2 < 4294967296 := by rw [hd2]; exact Cm.half_le hd
          rw [← hd2] at e1
          have HD2 := Lib.hid hd2
          clear hd2
          by_cases hb : d % 2 = r
          · have hbi : ((d : Int) % 2 == (r : Int)) = true := by simp; omega
            go_wp2_with fail
            refine (cB.out _ x k r hx256 (by omega) HRE.out).mono ?_
            rintro e w' ⟨rfl, rfl⟩
            go_wp2
            go_round
            case rel => exact ⟨k + 1, d / 2, by go_num, by go_num, by omega, by omega, by show d / 2 = Cm.part c x (k + 1); rw [HS.out, if_pos hb]⟩
            case measure => simp [intOf]; omega
          · have hbi : ((d : Int) % 2 == (r : Int)) = false := by simp; omega
            go_wp2_with fail
            refine (cB.out _ x k r hx256 (by omega) HRE.out).mono ?_
            rintro e w' ⟨rfl, rfl⟩
            go_wp2
            go_round
            case rel => exact ⟨k + 1, d2, rfl, by go_num, by omega, hd2l, by show d2 = Cm.part c x (k + 1); rw [HS.out, if_neg hb, HD2.out]; rfl⟩
            case measure => simp [intOf]; omega
        · obtain rfl : k = 8 := by omega
          go_wp2
          go_round
          case rel => exact ⟨n + 1, d, rfl, by go_num, by omega, hd, by show d = _; rw [hde.out]; exact HN.out⟩
          case measure => simp [intOf]; omega
    · have hfin : 4294967295 - c = Cm.sum bs := by
        rw [Cm.F_sub hc, hrun.out, List.take_of_length_le (by omega)]
        rfl
      have HF := Lib.hid hfin
      clear hfin
      go_wp2
      go_ret
      refine ⟨?_, rfl⟩
      rw [← HF.out]
      show Ending.returned (.int .u32 (4294967295 - (c : Int))) = .returned (.int .u32 ((4294967295 - c : Nat) : Int))
      rw [show ((4294967295 - c : Nat) : Int) = 4294967295 - (c : Int) by omega]
end Go.Proofs.YtignfhdblakcfaaDoor
