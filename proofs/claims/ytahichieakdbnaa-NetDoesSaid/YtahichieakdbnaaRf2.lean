/- packetboatref02: Turn. -/
import Derived.Test.YtahichieakdbnaaTurn
namespace Go.Proofs.Ytahichieakdbnaa
open Go.ChangeShapes Go.WideShapes Go.ChangeAt Go.RowKit
set_option linter.unusedVariables false

theorem turn_step2 {w wr : World} {bs : List Nat} {p : Int} {mask k q g len c2 x y : Nat} (hk : k < 32) (hq : p + k = (q : Int)) (hn : bs.length = len) (h256 : ∀ b ∈ bs, b < 256) (hbit : mask / 2 ^ k % 2 = 1) (hin : q / 8 < len) (hy : y = 2 ^ (q % 8))
    (hx : x = (Cm.turnK bs p mask k)[q / 8]?.getD 0) (hgb : w.heap.size ≤ g) (ho : wr.ownsRow w.heap.size 5 1 (.slice (some ⟨g, 0, none⟩) len c2) bs.length (u8s (Cm.turnK bs p mask k))) (hb : Below w.heap.size w wr) :
    (wr.setCell ⟨g, q / 8, none⟩ (.int .u8 (bits .xor .u8 (x : Int) (y : Int)))).ownsRow w.heap.size 5 1 (.slice (some ⟨g, 0, none⟩) len c2) bs.length (u8s (Cm.turnK bs p mask (k + 1)))
      ∧ Below w.heap.size w (wr.setCell ⟨g, q / 8, none⟩ (.int .u8 (bits .xor .u8 (x : Int) (y : Int)))) := by
  have hj : q / 8 < (Cm.turnK bs p mask k).length := by rw [Cm.turnK_length, hn]; exact hin
  have hx256 : x < 256 := by
    rw [hx, List.getElem?_eq_getElem hj]
    exact Cm.turnK_byte h256 p mask k _ (List.getElem_mem hj)
  have hy256 : y < 256 := by rw [hy]; exact Cm.pow_small (by omega)
  refine ⟨?_, hb.setCell (p := ⟨g, q / 8, none⟩) hgb _⟩
  rw [u8_xor_nat _ _ hx256 hy256]
  have e : Cm.turnK bs p mask (k + 1) = (Cm.turnK bs p mask k).set (q / 8) (x ^^^ 2 ^ (q % 8)) := by
    show Cm.stepT _ _ _ _ = _
    unfold Cm.stepT
    rw [Cm.turnK_length, if_pos ⟨hbit, by omega, by omega⟩, hq]
    have e1 : ((q : Int) / 8).toNat = q / 8 := by omega
    have e2 : ((q : Int) % 8).toNat = q % 8 := by omega
    rw [e1, e2, ← hx]
  have e3 : u8s (Cm.turnK bs p mask (k + 1)) = (u8s (Cm.turnK bs p mask k)).set (q / 8) (.int .u8 ((x ^^^ y : Nat) : Int)) := by
    rw [e, hy]; simp [u8s, List.map_set]
  rw [e3]
  rw [hn] at ho ⊢
  exact ((ho.stored (q / 8) _).1)

def RTurnRel (w : World) (bs : List Nat) (p : Int) (mask : Nat) (v : Value) (s8 s9 : Value) (wr : World) : Prop :=
  ∃ k m : Nat, s8 = .int .u32 (m : Int) ∧ s9 = .int .i64 (k : Int) ∧ k ≤ 32 ∧ m < 4294967296 ∧ Hid (m = mask / 2 ^ k) ∧ wr.ownsRow w.heap.size 5 1 v bs.length (u8s (Cm.turnK bs p mask k)) ∧ Below w.heap.size w wr
def RPowRel (r : Nat) (s11 s12 : Value) : Prop := ∃ i y : Nat, s11 = .int .u8 (y : Int) ∧ s12 = .int .i64 (i : Int) ∧ i ≤ r ∧ y < 256 ∧ Hid (y = 2 ^ i)

set_option maxHeartbeats 1000000 in
set_option maxRecDepth 100000 in
theorem RTurn_any (w : World) (A : Option Addr) (len cap : Nat) (bs : List Nat) (p : Int) (mask : Nat) (hr : Rd w w.heap.size A (u8s bs)) (h256 : ∀ b ∈ bs, b < 256) (hn : bs.length = len) (hl : len ≤ 1099511627776) (hnone : A = none → cap = 0)
    (hp0 : -9223372036854775808 ≤ p) (hp1 : p ≤ 9223372036854775807) (hm : mask < 4294967296) :
    Calls Try.prog 66 #[.slice A len cap, .int .i64 p, .int .u32 (mask : Int)] w (TurnPost w bs p mask) := by
  obtain ⟨i0, hi, hz0, hz1, hz2⟩ := info_parts Try.infoB
  have hul : (u8s bs).length = len := by simp [hn]
  have HUL := Lib.hid hul
  have HR := Lib.hid hr
  have HN := Lib.hid hnone
  have HL := Lib.hid hn
  have H256 := Lib.hid h256
  have hb0 := own_lit0 w 5 w.heap.size (Nat.le_refl _)
  have hbw := (Below.refl w.heap.size w).alloc (Nat.le_refl _) (.cells #[] 5)
  clear hul hr hnone hn h256
  go_enter Try.func66, Try.ntmps66
  go_wp2_with (at_builtin; go_must (refine app_own rfl (.tmp 13) (.tmp 14) 32 rfl w.heap.size 5 i0 (.int .u8 0) 1 Try.underlying32 hi hz0 hz1 hz2 rfl (.slice (some ⟨w.heap.size, 0, none⟩) 0 0) 0 [] rfl hb0 w.heap.size A len cap (u8s bs) rfl HUL.out (HR.out.alloc _) HN.out (u8s_one _) (by unfold maxLen; omega) (by omega) (by simp) ?_; intro v2 w2 ho2 hg2 hne2; have hb2 := hbw.grown hg2 (by simp) (fun k hk => (hb0.lt k hk).1); simp only [Nat.zero_add, List.nil_append] at ho2; obtain ⟨g, c2, rfl, hgb, hc1, hc2⟩ := own_some ho2 (hne2 (fun h => by cases h)); clear hg2 hne2 hb0 hbw))
  go_loopw [8, 9] (fun s8 s9 wr => RTurnRel w bs p mask (.slice (some ⟨g, 0, none⟩) len c2) s8 s9 wr) (fun _ s9 _ => 32 - (intOf s9).toNat)
  case atStart => exact ⟨0, mask, rfl, rfl, by omega, hm, by show mask = mask / 2 ^ 0; simp, by rw [HL.out]; exact ho2, hb2⟩
  case round =>
    clear ho2 hb2
    obtain ⟨k, m, rfl, rfl, hk, hml, hme, ho, hb⟩ := hrel
    have hlen := Lib.hid (Cm.turnK_length bs p mask k)
    have hown := Lib.hid ho
    by_cases hlt : k < 32
    · have hnext : m / 2 = mask / 2 ^ (k + 1) := by rw [hme.out, Nat.div_div_eq_div_mul, Nat.pow_succ]
      have HNX := Lib.hid hnext
      have hsame : ¬ (mask / 2 ^ k % 2 = 1 ∧ 0 ≤ p + k ∧ (p + k) / 8 < bs.length) → RTurnRel w bs p mask (.slice (some ⟨g, 0, none⟩) len c2) (.int .u32 ((m : Int) / 2)) (.int .i64 ((k : Int) + 1)) wr := by
        intro h
        refine ⟨k + 1, m / 2, by go_num, by go_num, by omega, by omega, hnext, ?_, hb⟩
        have e : Cm.turnK bs p mask (k + 1) = Cm.turnK bs p mask k := by
          show Cm.stepT _ _ _ _ = _
          unfold Cm.stepT
          rw [Cm.turnK_length, if_neg h]
        rw [e]; exact ho
      have HSM := Lib.hid hsame
      clear hsame hnext
      have hme2 : m % 2 = mask / 2 ^ k % 2 := by rw [← hme.out]
      have HM2 := Lib.hid hme2
      clear hme2
      by_cases hbit : m % 2 = 1
      · have hbv : ((m : Int) % 2 == 1) = true := by simp; omega
        have HBIT : Hid (mask / 2 ^ k % 2 = 1) := Lib.hid (by rw [← HM2.out]; exact hbit)
        clear hbit
        by_cases hneg : p < -(k : Int)
        · have R := HSM.out (by omega)
          have HRR := Lib.hid R
          clear R ho
          go_wp2
          go_roundw
          case rel => exact HRR.out
          case measure => simp [intOf]; omega
        · obtain ⟨q, hq⟩ := Int.eq_ofNat_of_zero_le (show 0 ≤ p + k by omega)
          by_cases hbig : 8 * (len : Int) < p
          · have R := HSM.out (by rw [HL.out]; omega)
            have HRR := Lib.hid R
            clear R ho
            go_wp2
            go_roundw
            case rel => exact HRR.out
            case measure => simp [intOf]; omega
          · by_cases hin : q / 8 < len
            · have hin2 : ¬ 8 * (len : Int) ≤ (q : Int) := by omega
              have hj : q / 8 < (Cm.turnK bs p mask k).length := by rw [hlen.out, HL.out]; exact hin
              obtain ⟨x, hx⟩ : ∃ x, x = (Cm.turnK bs p mask k)[q / 8]?.getD 0 := ⟨_, rfl⟩
              have hcell : wr.cell? ⟨g, q / 8, none⟩ = some (.int .u8 (x : Int)) := by
                rw [HL.out] at ho
                rw [ho.cellAt (q / 8) (by omega), hx]
                simp [u8s, hj]
              have hfr : wr.frozen? ⟨g, q / 8, none⟩ = false := by rw [HL.out] at ho; exact ho.frozenAt (q / 8)
              have hini : (q : Int) / 8 < (len : Int) := by omega
              have HX := Lib.hid hx
              clear hx ho hj
              go_wp2
              go_loop [11, 12] (fun s11 s12 => RPowRel (q % 8) s11 s12) (fun _ s12 => q % 8 - (intOf s12).toNat)
              case atStart => exact ⟨0, 1, rfl, rfl, by omega, by omega, by show 1 = 2 ^ 0; rfl⟩
              case round =>
                obtain ⟨i, y, rfl, rfl, hi2, hy, hye⟩ := hrel
                by_cases hlr : i < q % 8
                · have hlri : (i : Int) < (q : Int) % 8 := by omega
                  have hy2 : y * 2 < 256 := by
                    have h1 := Cm.pow_small (r := i + 1) (by omega)
                    rw [Nat.pow_succ, ← hye.out] at h1
                    exact h1
                  go_wp2
                  go_round
                  case rel => exact ⟨i + 1, y * 2, by go_num, by go_num, by omega, hy2, by show y * 2 = 2 ^ (i + 1); rw [hye.out, Nat.pow_succ]⟩
                  case measure => simp [intOf]; omega
                · have hlri : ¬ (i : Int) < (q : Int) % 8 := by omega
                  have hir : i = q % 8 := by omega
                  have R := turn_step2 (y := y) hlt hq HL.out H256.out HBIT.out hin (by rw [hye.out, hir]) HX.out hgb hown.out hb
                  have HRR := Lib.hid R
                  clear R hir
                  go_wp2
                  go_roundw
                  case rel => exact ⟨k + 1, m / 2, by go_num, by go_num, by omega, by omega, HNX.out, HRR.out.1, HRR.out.2⟩
                  case measure => simp [intOf]; omega
            · have R := HSM.out (by rw [HL.out]; omega)
              have HRR := Lib.hid R
              have hin2 : 8 * (len : Int) ≤ (q : Int) := by omega
              clear R ho
              go_wp2
              go_roundw
              case rel => exact HRR.out
              case measure => simp [intOf]; omega
      · have hbv : ((m : Int) % 2 == 1) = false := by simp; omega
        have R := HSM.out (fun h => hbit (by rw [HM2.out]; exact h.1))
        have HRR := Lib.hid R
        clear R ho hbit
        go_wp2
        go_roundw
        case rel => exact HRR.out
        case measure => simp [intOf]; omega
    · obtain rfl : k = 32 := by omega
      have R : TurnPost w bs p mask (.returned (.slice (some ⟨g, 0, none⟩) len c2)) wr := ⟨_, rfl, ho, hb⟩
      have HRR := Lib.hid R
      clear R ho hb
      go_wp2
      go_ret
      exact HRR.out
end Go.Proofs.Ytahichieakdbnaa
