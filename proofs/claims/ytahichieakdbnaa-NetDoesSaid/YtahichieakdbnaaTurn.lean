/- crc.Turn. -/
import Derived.Test.YtahichieakdbnaaCrc
import Derived.RegionTactic
import Derived.ChangeAlike
namespace Go.Proofs.Ytahichieakdbnaa
open Go.ChangeShapes Go.WideShapes Go.ChangeAt Go.RowKit
set_option linter.unusedVariables false

def TurnPost (w : World) (bs : List Nat) (p : Int) (mask : Nat) (e : Ending) (w' : World) : Prop :=
  ∃ v', e = .returned v' ∧ w'.ownsRow w.heap.size 5 1 v' bs.length (u8s (Cm.turn bs p mask)) ∧ Below w.heap.size w w'
def TurnRel (w : World) (bs : List Nat) (p : Int) (mask : Nat) (v : Value) (s13 : Value) (wr : World) : Prop :=
  ∃ k : Nat, s13 = .int .i64 (k : Int) ∧ k ≤ 32 ∧ wr.ownsRow w.heap.size 5 1 v bs.length (u8s (Cm.turnK bs p mask k)) ∧ Below w.heap.size w wr
theorem own_some {w : World} {base : Nat} {e : TypeId} {v : Value} {n : Nat} {xs : List Value} (h : w.ownsRow base e 1 v n xs) (hne : v ≠ .slice none 0 0) : ∃ g c, v = .slice (some ⟨g, 0, none⟩) n c ∧ base ≤ g ∧ n ≤ c ∧ c ≤ maxLen := by
  rcases h.2 with ⟨h1, _⟩ | ⟨g, cap, cur, hv, hb, hh, hnc, hm, hs, ht⟩
  · exact absurd h1 hne
  · exact ⟨g, cap, hv, hb, hnc, hm⟩

theorem xor8 {x r : Nat} (hx : x < 256) (hr : r < 8) : bits .xor .u8 (x : Int) ((2 : Int) ^ r % 256) = ((x ^^^ 2 ^ r : Nat) : Int) := by
  have h := Cm.pow_small hr
  have e : (2 : Int) ^ r % 256 = ((2 ^ r : Nat) : Int) := by
    have : (2 : Int) ^ r = ((2 ^ r : Nat) : Int) := by simp
    rw [this]
    generalize 2 ^ r = y at h ⊢
    omega
  rw [e, u8_xor_nat _ _ hx h]
theorem turn_step {w wr : World} {bs : List Nat} {p : Int} {mask k q g len c2 x : Nat} (hk : k < 32) (hq : p + k = (q : Int)) (hn : bs.length = len) (h256 : ∀ b ∈ bs, b < 256) (hbit : mask / 2 ^ k % 2 = 1) (hin : q / 8 < len)
    (hx : x = (Cm.turnK bs p mask k)[q / 8]?.getD 0) (hgb : w.heap.size ≤ g) (ho : wr.ownsRow w.heap.size 5 1 (.slice (some ⟨g, 0, none⟩) len c2) bs.length (u8s (Cm.turnK bs p mask k))) (hb : Below w.heap.size w wr) :
    TurnRel w bs p mask (.slice (some ⟨g, 0, none⟩) len c2) (.int .i64 ((k : Int) + 1)) ((wr.setCell ⟨g, q / 8, none⟩ (.int .u8 (bits .xor .u8 (x : Int) ((2 : Int) ^ (q % 8) % 256)))).drew) := by
  have hj : q / 8 < (Cm.turnK bs p mask k).length := by rw [Cm.turnK_length, hn]; exact hin
  have hx256 : x < 256 := by
    rw [hx, List.getElem?_eq_getElem hj]
    exact Cm.turnK_byte h256 p mask k _ (List.getElem_mem hj)
  refine ⟨k + 1, by go_num, by omega, ?_, (hb.setCell (p := ⟨g, q / 8, none⟩) hgb _).drew⟩
  rw [xor8 hx256 (by omega)]
  have e : Cm.turnK bs p mask (k + 1) = (Cm.turnK bs p mask k).set (q / 8) (x ^^^ 2 ^ (q % 8)) := by
    show Cm.stepT _ _ _ _ = _
    unfold Cm.stepT
    rw [Cm.turnK_length, if_pos ⟨hbit, by omega, by omega⟩, hq]
    have e1 : ((q : Int) / 8).toNat = q / 8 := by omega
    have e2 : ((q : Int) % 8).toNat = q % 8 := by omega
    rw [e1, e2, ← hx]
  have e3 : u8s (Cm.turnK bs p mask (k + 1)) = (u8s (Cm.turnK bs p mask k)).set (q / 8) (.int .u8 ((x ^^^ 2 ^ (q % 8) : Nat) : Int)) := by
    rw [e]; simp [u8s, List.map_set]
  rw [e3]
  rw [hn] at ho ⊢
  exact ((ho.stored (q / 8) _).1)

set_option maxHeartbeats 1000000 in
set_option maxRecDepth 100000 in
theorem Turn_any (w : World) (A : Option Addr) (len cap : Nat) (bs : List Nat) (p : Int) (mask : Nat) (hr : Rd w w.heap.size A (u8s bs)) (h256 : ∀ b ∈ bs, b < 256) (hn : bs.length = len) (hl : len ≤ 1099511627776) (hnone : A = none → cap = 0)
    (hp0 : -9223372036854775808 ≤ p) (hp1 : p ≤ 9223372036854775807) (hm : mask < 4294967296) :
    Calls Try.prog 88 #[.slice A len cap, .int .i64 p, .int .u32 (mask : Int)] w (TurnPost w bs p mask) := by
  obtain ⟨i0, hi, hz0, hz1, hz2⟩ := info_parts Try.infoB
  have hul : (u8s bs).length = len := by simp [hn]
  have HUL := Lib.hid hul
  have HR := Lib.hid hr
  have HN := Lib.hid hnone
  have HL := Lib.hid hn
  have H256 := Lib.hid h256
  have hb0 := own_lit0 w 5 w.heap.size (Nat.le_refl _)
  have hbw := (Below.refl w.heap.size w).alloc (Nat.le_refl _) (.cells #[] 5)
  clear hul hr hnone hn h256
  go_enter Try.func88, Try.ntmps88
  go_wp2_with (at_builtin; go_must (refine app_own rfl (.tmp 10) (.tmp 11) 32 rfl w.heap.size 5 i0 (.int .u8 0) 1 Try.underlying32 hi hz0 hz1 hz2 rfl (.slice (some ⟨w.heap.size, 0, none⟩) 0 0) 0 [] rfl hb0 w.heap.size A len cap (u8s bs) rfl HUL.out (HR.out.alloc _) HN.out (u8s_one _) (by unfold maxLen; omega) (by omega) (by simp) ?_; intro v2 w2 ho2 hg2 hne2; have hb2 := hbw.grown hg2 (by simp) (fun k hk => (hb0.lt k hk).1); simp only [Nat.zero_add, List.nil_append] at ho2; obtain ⟨g, c2, rfl, hgb, hc1, hc2⟩ := own_some ho2 (hne2 (fun h => by cases h)); clear hg2 hne2 hb0 hbw))
  go_loopw [13] (fun s13 wr => TurnRel w bs p mask (.slice (some ⟨g, 0, none⟩) len c2) s13 wr) (fun s13 _ => 32 - (intOf s13).toNat)
  case atStart => exact ⟨0, rfl, by omega, by rw [HL.out]; exact ho2, hb2⟩
  case round =>
    clear ho2 hb2
    obtain ⟨k, rfl, hk, ho, hb⟩ := hrel
    have hml := Lib.hid (Cm.turnK_length bs p mask k)
    have hown := Lib.hid ho
    by_cases hlt : k < 32
    · have hsame : ¬ (mask / 2 ^ k % 2 = 1 ∧ 0 ≤ p + k ∧ (p + k) / 8 < bs.length) → TurnRel w bs p mask (.slice (some ⟨g, 0, none⟩) len c2) (.int .i64 ((k : Int) + 1)) wr := by
        intro h
        refine ⟨k + 1, by go_num, by omega, ?_, hb⟩
        have e : Cm.turnK bs p mask (k + 1) = Cm.turnK bs p mask k := by
          show Cm.stepT _ _ _ _ = _
          unfold Cm.stepT
          rw [Cm.turnK_length, if_neg h]
        rw [e]; exact ho
      have HSM := Lib.hid hsame
      have hbv : bits .and .u32 ((mask : Int) / 2 ^ k) 1 = ((mask / 2 ^ k % 2 : Nat) : Int) := by
        have e : ((mask : Int) / 2 ^ k) = ((mask / 2 ^ k : Nat) : Int) := by simp
        rw [e, show (1 : Int) = ((1 : Nat) : Int) from rfl, u32_and_nat _ _ (by have := Nat.div_le_self mask (2 ^ k); omega) (by omega), nat_mask1]
      by_cases hbit : mask / 2 ^ k % 2 = 1
      · have hb1 : bits .and .u32 ((mask : Int) / 2 ^ k) 1 = 1 := by rw [hbv, hbit]; rfl
        clear hbv hsame
        have HBIT := Lib.hid hbit; clear hbit
        by_cases hov : p + k ≤ 9223372036854775807
        · by_cases hpos : 0 ≤ p + k
          · obtain ⟨q, hq⟩ := Int.eq_ofNat_of_zero_le hpos
            by_cases hin : q / 8 < len
            · have hj : q / 8 < (Cm.turnK bs p mask k).length := by rw [hml.out, HL.out]; exact hin
              obtain ⟨x, hx⟩ : ∃ x, x = (Cm.turnK bs p mask k)[q / 8]?.getD 0 := ⟨_, rfl⟩
              have hcell : wr.cell? ⟨g, q / 8, none⟩ = some (.int .u8 (x : Int)) := by
                rw [HL.out] at ho
                rw [ho.cellAt (q / 8) (by omega), hx]
                simp [u8s, hj]
              have hfr : wr.frozen? ⟨g, q / 8, none⟩ = false := by rw [HL.out] at ho; exact ho.frozenAt (q / 8)
              have hini : (q : Int) / 8 < (len : Int) := by omega
              have HX := Lib.hid hx
              clear hx ho hj
              have R := turn_step hlt hq HL.out H256.out HBIT.out hin HX.out hgb hown.out hb
              have HRR := Lib.hid R
              clear R
              go_wp2
              go_region
              go_wp2
              go_roundw
              case rel => exact HRR.out
              case measure => simp [intOf]; omega
            · have R := HSM.out (by rw [HL.out]; omega)
              have HRR := Lib.hid R
              clear R
              have hini : (len : Int) ≤ (q : Int) / 8 := by omega
              clear ho
              go_wp2
              go_roundw
              case rel => exact HRR.out
              case measure => simp [intOf]; omega
          · have R := HSM.out (by omega)
            have HRR := Lib.hid R
            clear R ho
            go_wp2
            go_roundw
            case rel => exact HRR.out
            case measure => simp [intOf]; omega
        · have R := HSM.out (by rw [HL.out]; omega)
          have HRR := Lib.hid R
          have hwr : wrap64 (p + k) < 0 := by unfold wrap64; omega
          clear R ho
          go_wp2
          go_roundw
          case rel => exact HRR.out
          case measure => simp [intOf]; omega
      · have hb0 : bits .and .u32 ((mask : Int) / 2 ^ k) 1 = 0 := by rw [hbv]; omega
        have R := HSM.out (fun h => hbit h.1)
        have HRR := Lib.hid R
        clear R ho hbv hsame hbit
        go_wp2
        go_roundw
        case rel => exact HRR.out
        case measure => simp [intOf]; omega
    · obtain rfl : k = 32 := by omega
      have R : TurnPost w bs p mask (.returned (.slice (some ⟨g, 0, none⟩) len c2)) wr := ⟨_, rfl, ho, hb⟩
      have HRR := Lib.hid R
      clear R ho hb
      go_wp2
      go_ret
      exact HRR.out

/-! The contracts as callers meet them. -/
theorem sealed_byte {bs : List Nat} (h : ∀ b ∈ bs, b < 256) : ∀ b ∈ Cm.sealed bs, b < 256 := by
  intro b hb
  rcases List.mem_append.1 hb with hb | hb
  · exact h b hb
  · exact Cm.le4_byte _ b hb
theorem Turn_at (w : World) (A : Option Addr) (len cap : Nat) (bs : List Nat) (p : Int) (mask : Nat) (hr : Rd w w.heap.size A (u8s bs)) (h256 : ∀ b ∈ bs, b < 256) (hn : bs.length = len) (hl : len ≤ 1099511627776) (hnone : A = none → cap = 0)
    (hp0 : -9223372036854775808 ≤ p) (hp1 : p ≤ 9223372036854775807) (hm : mask < 4294967296) (ts : List Nat) (ht : Cm.turn bs p mask = ts) :
    Calls Try.prog 88 #[.slice A len cap, .int .i64 p, .int .u32 (mask : Int)] w fun e w' => ∃ v, e = .returned v ∧ Made w' v ts len ∧ Below w.heap.size w w' := by
  refine (Turn_any w A len cap bs p mask hr h256 hn hl hnone hp0 hp1 hm).mono ?_
  rintro e w' ⟨v, rfl, ho, hb⟩
  subst ht
  exact ⟨v, rfl, made_of_own ho (by rw [Cm.turn_length, hn]) (Cm.turn_byte h256 p mask), hb⟩
end Go.Proofs.Ytahichieakdbnaa
