/- vint.Take: the number that bytes begin with. -/
import Derived.Test.YtahichieakdbnaaW
import Derived.Test.YtahichieakdbnaaVm
namespace Go.Proofs.Ytahichieakdbnaa
open Go.ChangeShapes Go.WideShapes Go.ChangeAt Go.RowKit
set_option linter.unusedVariables false

def TakePost (w : World) (bs : List Nat) (e : Ending) (w' : World) : Prop :=
  e = .returned (.tuple #[.int .u64 ((Vm.take bs).1 : Int), .int .i64 ((Vm.take bs).2.1 : Int), .int .i64 ((Vm.take bs).2.2 : Int)]) ∧ w = w'

theorem or_step {N x : Nat} (hN : N ≤ 144115188075855871) (hx : x < 256) : bits .or .u64 ((N : Int) * 128) (bits .and .u8 (x : Int) 127) = ((N * 128 + x % 128 : Nat) : Int) := by
  rw [show (127 : Int) = ((127 : Nat) : Int) from rfl, u8_and_nat _ _ hx (by omega), nat_mask7, show (N : Int) * 128 = ((N * 128 : Nat) : Int) by omega, u64_or_nat _ _ (by omega) (by omega),
    nat_join 7 (N * 128) (x % 128) (by omega) (by omega)]
theorem or_step' {N x : Nat} (hN : N ≤ 144115188075855871) (hx : x < 256) : bits .or .u64 ((N : Int) * 128) (IntKind.u64.wrap (bits .and .u8 (x : Int) 127)) = ((N * 128 + x % 128 : Nat) : Int) := by
  have h := or_step hN hx
  rw [show (127 : Int) = ((127 : Nat) : Int) from rfl, u8_and_nat _ _ hx (by omega), nat_mask7] at h ⊢
  rw [IntWalk.u64_in _ ⟨by omega, by omega⟩]
  exact h
def DecRel (bs : List Nat) (k : Nat) (s8 s9 : Value) : Prop := ∃ (N : Nat) (i : Int), s8 = .int .u64 (N : Int) ∧ s9 = .int .i64 i ∧ -1 ≤ i ∧ i ≤ k ∧ Hid (N = Vm.part bs k (i + 1).toNat)
theorem dec_step {bs : List Nat} {k j N : Nat} (hj : j ≤ k) (hk : k < bs.length) (hN : Hid (N = Vm.part bs k ((j : Int) + 1).toNat)) :
    DecRel bs k (.int .u64 ((N * 128 + bs[j]?.getD 0 % 128 : Nat) : Int)) (.int .i64 ((j : Int) - 1)) := by
  refine ⟨_, _, rfl, rfl, by omega, by omega, ?_⟩
  have h := hN.out
  have e : ((j : Int) + 1).toNat = j + 1 := by omega
  rw [e] at h
  show _ = _
  rw [h, ← Vm.part_step hj hk]
  congr 1
  omega
theorem take_short {bs : List Nat} (h : Vm.fin 10 bs = none) (h2 : bs.length < 10) : Vm.take bs = (0, 0, 2) := by simp [Vm.take, h, h2]
theorem take_none {bs : List Nat} (h : Vm.fin 10 bs = none) (h2 : ¬ bs.length < 10) : Vm.take bs = (0, 0, 3) := by simp only [Vm.take, h, if_neg h2]
theorem take_bad {bs : List Nat} {k : Nat} (h : Vm.fin 10 bs = some k) (h2 : (0 < k ∧ bs[k]?.getD 0 = 0) ∨ (k = 9 ∧ 1 < bs[k]?.getD 0)) : Vm.take bs = (0, 0, 3) := by
  simp only [Vm.take, h]
  rw [if_pos (by simpa using h2)]
theorem take_good {bs : List Nat} {k : Nat} (h : Vm.fin 10 bs = some k) (h2 : ¬ ((0 < k ∧ bs[k]?.getD 0 = 0) ∨ (k = 9 ∧ 1 < bs[k]?.getD 0))) : Vm.take bs = (Vm.part bs k 0, k + 1, 0) := by
  simp only [Vm.take, h]
  rw [if_neg (by simpa using h2)]
  rfl
theorem takePost_of {w : World} {bs : List Nat} {a b c : Nat} (h : Vm.take bs = (a, b, c)) : TakePost w bs (.returned (.tuple #[.int .u64 (a : Int), .int .i64 (b : Int), .int .i64 (c : Int)])) w := by
  unfold TakePost
  rw [h]
  exact ⟨rfl, rfl⟩

set_option maxRecDepth 100000 in
theorem take_any (w : World) (A : Option Addr) (c : Nat) (bs : List Nat) (B : Nat) (hr : Rd w B A (u8s bs)) (h256 : ∀ b ∈ bs, b < 256) (hl : bs.length ≤ maxLen) :
    Calls Try.prog 94 #[.slice A bs.length c] w (TakePost w bs) := by
  unfold maxLen at hl
  go_enter Try.func94, Try.ntmps94
  go_wp2
  go_step3
  go_wp2
  go_step3
  go_wp2
  go_loop [5, 12] (fun s5 s12 => ∃ k : Nat, k ≤ 10 ∧ k ≤ bs.length ∧ s5 = .int .i64 (-1) ∧ s12 = .int .i64 k ∧ Hid (∀ j, j < k → 128 ≤ bs[j]?.getD 0)) (fun _ s12 => 10 - (intOf s12).toNat)
  case atStart => exact ⟨0, by omega, by omega, rfl, rfl, fun j hj => absurd hj (by omega)⟩
  case round =>
    obtain ⟨k, hk10, hkl, rfl, rfl, hall⟩ := hrel
    by_cases hlt : k < bs.length
    · obtain ⟨g, o, rfl, hgB, hc0⟩ := hr.u8 (by intro h; simp [h] at hlt)
      obtain ⟨x, hx⟩ : ∃ x, x = bs[k]?.getD 0 := ⟨_, rfl⟩
      have hc := hc0 k hlt
      rw [← hx] at hc
      have hx256 : x < 256 := by rw [hx, List.getElem?_eq_getElem hlt]; exact h256 _ (List.getElem_mem hlt)
      have HX := Lib.hid hx; clear hx
      have HC := Lib.hid hc0; clear hc0
      by_cases h10 : k = 10
      · subst h10
        have hf : Vm.fin 10 bs = none := Vm.fin_none 10 bs (fun j hj _ => hall.out j hj)
        have R := takePost_of (w := w) (take_none hf (by omega))
        have HR := Lib.hid R; clear R hf
        have hlen : (10 : Int) ≤ (bs.length : Int) := by omega
        go_wp2
        go_ret3
        exact HR.out
      have h10' : ((k : Int) == 10) = false := by simp; omega
      by_cases hsm : x < 128
      · have hf : Vm.fin 10 bs = some k := Vm.fin_some 10 k bs (by omega) hlt hall.out (by rw [← HX.out]; exact hsm)
        by_cases hbad : (0 < k ∧ x = 0) ∨ (k = 9 ∧ 1 < x)
        · have R := takePost_of (w := w) (take_bad hf (by rw [← HX.out]; exact hbad))
          have HR := Lib.hid R; clear R hf
          rcases hbad with ⟨h1, rfl⟩ | ⟨rfl, h1⟩
          · go_wp2
            all_goals go_ret3
            all_goals exact HR.out
          · have hx0 : ((x : Int) == 0) = false := by simp; omega
            go_wp2
            go_ret3
            exact HR.out
        · have R := takePost_of (w := w) (take_good hf (by rw [← HX.out]; exact hbad))
          have HR := Lib.hid R; clear R hf
          have h9x : k = 9 → bs[k]?.getD 0 ≤ 1 := by rw [← HX.out]; omega
          have H9 := Lib.hid h9x; clear h9x
          have hx0 : 0 < k → ((x : Int) == 0) = false := by intro h; simp; omega
          have hx1 : k = 9 → ¬ (1 : Int) < (x : Int) := by intro h; omega
          have hb2 := Lib.hid hbad; clear hbad
          by_cases hk0 : 0 < k
          all_goals by_cases hk9 : k = 9
          · have hx0' := hx0 hk0
            have hx1' := hx1 hk9
            clear hx0 hx1
            subst hk9
            go_wp2
            go_loop [8, 9] (fun s8 s9 => DecRel bs 9 s8 s9) (fun _ s9 => (intOf s9 + 1).toNat)
            case atStart => exact ⟨0, _, rfl, rfl, by omega, by omega, by show (0 : Nat) = _; rw [show ((9 : Int) + 1).toNat = 9 + 1 by omega, Vm.part_end]⟩
            case round =>
              obtain ⟨N, i, rfl, rfl, hi1, hi2, hN⟩ := hrel
              by_cases hi : 0 ≤ i
              · obtain ⟨j, rfl⟩ := Int.eq_ofNat_of_zero_le hi
                have hN57 : N ≤ 144115188075855871 := by
                  rw [hN.out, show ((j : Int) + 1).toNat = j + 1 by omega]
                  exact Vm.part_57 hlt (by omega) (by intro h; first | exact H9.out h | exact H9.out trivial | omega)
                have hcj := HC.out j (by omega)
                obtain ⟨y, hy⟩ : ∃ y, y = bs[j]?.getD 0 := ⟨_, rfl⟩
                have hy256 : y < 256 := by rw [hy, List.getElem?_eq_getElem (by omega)]; exact h256 _ (List.getElem_mem _)
                rw [← hy] at hcj
                have HY := Lib.hid hy; clear hy
                have R := dec_step (by omega) hlt hN
                rw [← HY.out, ← or_step' hN57 hy256] at R
                have HR2 := Lib.hid R; clear R
                have hjl : j < bs.length := by omega
                go_wp2
                go_round
                case rel => exact HR2.out
                case measure => simp [intOf]
              · obtain rfl : i = -1 := by omega
                have hN0 : N = Vm.part bs 9 0 := hN.out
                have HN0 := Lib.hid hN0; clear hN0
                go_wp2
                go_ret3
                rw [HN0.out]
                exact HR.out
          · have hx0' := hx0 hk0
            clear hx0 hx1
            go_wp2
            go_loop [8, 9] (fun s8 s9 => DecRel bs k s8 s9) (fun _ s9 => (intOf s9 + 1).toNat)
            case atStart => exact ⟨0, _, rfl, rfl, by omega, by omega, by show (0 : Nat) = _; rw [show ((k : Int) + 1).toNat = k + 1 by omega, Vm.part_end]⟩
            case round =>
              obtain ⟨N, i, rfl, rfl, hi1, hi2, hN⟩ := hrel
              by_cases hi : 0 ≤ i
              · obtain ⟨j, rfl⟩ := Int.eq_ofNat_of_zero_le hi
                have hN57 : N ≤ 144115188075855871 := by
                  rw [hN.out, show ((j : Int) + 1).toNat = j + 1 by omega]
                  exact Vm.part_57 hlt (by omega) (by intro h; first | exact H9.out h | exact H9.out trivial | omega)
                have hcj := HC.out j (by omega)
                obtain ⟨y, hy⟩ : ∃ y, y = bs[j]?.getD 0 := ⟨_, rfl⟩
                have hy256 : y < 256 := by rw [hy, List.getElem?_eq_getElem (by omega)]; exact h256 _ (List.getElem_mem _)
                rw [← hy] at hcj
                have HY := Lib.hid hy; clear hy
                have R := dec_step (by omega) hlt hN
                rw [← HY.out, ← or_step' hN57 hy256] at R
                have HR2 := Lib.hid R; clear R
                have hjl : j < bs.length := by omega
                go_wp2
                go_round
                case rel => exact HR2.out
                case measure => simp [intOf]
              · obtain rfl : i = -1 := by omega
                have hN0 : N = Vm.part bs k 0 := hN.out
                have HN0 := Lib.hid hN0; clear hN0
                go_wp2
                go_ret3
                rw [HN0.out]
                exact HR.out
          · omega
          · clear hx0 hx1
            go_wp2
            go_loop [8, 9] (fun s8 s9 => DecRel bs k s8 s9) (fun _ s9 => (intOf s9 + 1).toNat)
            case atStart => exact ⟨0, _, rfl, rfl, by omega, by omega, by show (0 : Nat) = _; rw [show ((k : Int) + 1).toNat = k + 1 by omega, Vm.part_end]⟩
            case round =>
              obtain ⟨N, i, rfl, rfl, hi1, hi2, hN⟩ := hrel
              by_cases hi : 0 ≤ i
              · obtain ⟨j, rfl⟩ := Int.eq_ofNat_of_zero_le hi
                have hN57 : N ≤ 144115188075855871 := by
                  rw [hN.out, show ((j : Int) + 1).toNat = j + 1 by omega]
                  exact Vm.part_57 hlt (by omega) (by intro h; first | exact H9.out h | exact H9.out trivial | omega)
                have hcj := HC.out j (by omega)
                obtain ⟨y, hy⟩ : ∃ y, y = bs[j]?.getD 0 := ⟨_, rfl⟩
                have hy256 : y < 256 := by rw [hy, List.getElem?_eq_getElem (by omega)]; exact h256 _ (List.getElem_mem _)
                rw [← hy] at hcj
                have HY := Lib.hid hy; clear hy
                have R := dec_step (by omega) hlt hN
                rw [← HY.out, ← or_step' hN57 hy256] at R
                have HR2 := Lib.hid R; clear R
                have hjl : j < bs.length := by omega
                go_wp2
                go_round
                case rel => exact HR2.out
                case measure => simp [intOf]
              · obtain rfl : i = -1 := by omega
                have hN0 : N = Vm.part bs k 0 := hN.out
                have HN0 := Lib.hid hN0; clear hN0
                go_wp2
                go_ret3
                rw [HN0.out]
                exact HR.out
      · go_wp2
        go_round
        case rel => exact ⟨k + 1, by omega, by omega, rfl, by go_num, fun j hj => by
          by_cases h : j = k
          · subst h; rw [← HX.out]; omega
          · exact hall.out j (by omega)⟩
        case measure => simp [intOf]; omega
    · have hf : Vm.fin 10 bs = none := Vm.fin_none 10 bs (fun j _ hj => hall.out j (by omega))
      by_cases hl10 : bs.length < 10
      · have R := takePost_of (w := w) (take_short hf hl10)
        have HR := Lib.hid R; clear R hf
        go_wp2
        go_ret3
        exact HR.out
      · have R := takePost_of (w := w) (take_none hf hl10)
        have HR := Lib.hid R; clear R hf
        go_wp2
        go_ret3
        exact HR.out
end Go.Proofs.Ytahichieakdbnaa
