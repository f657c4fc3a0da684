/- packetboatref01: the document's answers of layer 1. -/
import Derived.Test.YtahichieakdbnaaAt
import Derived.Test.YtahichieakdbnaaVm2
import Derived.Deep.DeepMust
namespace Go.Proofs.Ytahichieakdbnaa
open Go.ChangeShapes Go.WideShapes Go.ChangeAt Go.RowKit
set_option linter.unusedVariables false


theorem rput_step {B : Nat} {w w1 : World} {n nk : Nat} {pre : List Nat} {v1 : Value} (h1 : 128 ≤ nk) (h2 : nk ≤ 18446744073709551615) (hp : pre ++ Vm.enc nk = Vm.enc n)
    (ho : w1.ownsRow B 5 1 v1 (pre.length + 1) (u8s pre ++ [.int .u8 (128 + (nk : Int) % 128)])) (hb : Below B w w1) :
    PutRel B w 0 [] n v1 (.int .u64 ((nk : Int) / 128)) w1 := by
  refine ⟨nk / 128, pre ++ [nk % 128 + 128], by go_num, by omega, ?_, ?_, hb⟩
  · rw [← hp, Vm.enc_big h1 (by omega)]; simp
  · have e1 : 0 + (pre ++ [nk % 128 + 128]).length = pre.length + 1 := by simp
    have e2 : [] ++ u8s (pre ++ [nk % 128 + 128]) = u8s pre ++ [.int .u8 (128 + (nk : Int) % 128)] := by
      simp only [u8s, List.nil_append, List.map_append, List.map_cons, List.map_nil]
      congr 3
      omega
    rw [e1, e2]; exact ho

def RPutRel (w : World) (n : Nat) (s3 s0 : Value) (wr : World) : Prop := PutRel w.heap.size w 0 [] n s3 s0 wr ∧ s3 ≠ .slice none 0 0

set_option maxHeartbeats 400000 in
set_option maxRecDepth 100000 in
theorem RPut_any (w : World) (n : Nat) (hn : n ≤ 18446744073709551615) :
    Calls Try.prog 99 #[.int .u64 (n : Int)] w (PutPost w.heap.size w 0 [] n) := by
  obtain ⟨i0, hi, hz0, hz1, hz2⟩ := info_parts Try.infoB
  go_enter Try.func99, Try.ntmps99
  go_wp2
  go_loopw [3, 0] (fun s3 s0 wr => RPutRel w n s3 s0 wr) (fun _ s0 _ => (intOf s0).toNat)
  case atStart => exact ⟨⟨n, [], rfl, hn, rfl, by simpa [u8s] using own_lit0 w 5 w.heap.size (Nat.le_refl _), (Below.refl _ _).alloc (Nat.le_refl _) _⟩, by simp⟩
  case round =>
    obtain ⟨⟨nk, pre, rfl, hnk, hpre, ho, hbel⟩, hne0⟩ := hrel
    have hlen := pre_le hpre
    have HP := Lib.hid hpre; clear hpre
    have HN0 := Lib.hid hne0; clear hne0
    have hsz := hbel.size
    have hb2 : Below w.heap.size w (wr.alloc (.cells #[.int .u8 (128 + (nk : Int) % 128)] 5)) := hbel.alloc (by omega) _
    have hb3 : Below w.heap.size w (wr.alloc (.cells #[.int .u8 (nk : Int)] 5)) := hbel.alloc (by omega) _
    have hrow := fun k hk => (ho.lt k hk).1
    by_cases hbig : 128 ≤ nk
    · go_wp2_with (at_builtin; go_must (refine wpList_append_own _ rfl _ _ 32 rfl w.heap.size 5 i0 (.int .u8 0) 1 1 Try.underlying32 hi hz0 hz1 hz2 rfl (by decide) _ _ _ rfl (ho.alloc _) ⟨wr.heap.size, 0, none⟩ 1 1 [.int .u8 (128 + (nk : Int) % 128)] rfl rfl (one_new _ _ _) (one_cell rfl) (by unfold maxLen; omega) (by omega) (by simp; omega) ?_; intro v1 w1 ho1 hg1 hne1))
      have hb4 := hb2.grown hg1 (by simp; omega) hrow
      have R := rput_step (w := w) hbig hnk HP.out (by simpa using ho1) hb4
      have hne4 : v1 ≠ .slice none 0 0 := fun h => HN0.out (hne1.1 h).1
      have HR := Lib.hid R
      have HN4 := Lib.hid hne4
      clear ho1 hg1 ho hb2 hb3 hrow R hne4 hne1
      go_wp2
      go_roundw
      case rel => exact ⟨HR.out, HN4.out⟩
      case measure => simp [intOf]; omega
    · go_wp2_with (at_builtin; go_must (refine wpList_append_own _ rfl _ _ 32 rfl w.heap.size 5 i0 (.int .u8 0) 1 1 Try.underlying32 hi hz0 hz1 hz2 rfl (by decide) _ _ _ rfl (ho.alloc _) ⟨wr.heap.size, 0, none⟩ 1 1 [.int .u8 (nk : Int)] rfl rfl (one_new _ _ _) (one_cell rfl) (by unfold maxLen; omega) (by omega) (by simp; omega) ?_; intro v1 w1 ho1 hg1 hne1))
      have hb4 := hb3.grown hg1 (by simp; omega) hrow
      have hne4 : v1 ≠ .slice none 0 0 := fun h => HN0.out (hne1.1 h).1
      have R := put_end (w := w) (wr := wr) (m := 0) (xs := []) (by omega) HP.out (by simpa using ho1) hb4 hne4
      have HR := Lib.hid R
      clear ho1 hg1 ho hb2 hb3 hrow R hne4 hne1
      go_wp2
      go_ret
      exact HR.out

theorem RPut_at (w : World) (x : Int) (bs : List Nat) (k : Nat) (h0 : 0 ≤ x) (h1 : x ≤ 18446744073709551615) (hbs : Vm.enc x.toNat = bs) (hk : bs.length = k) :
    Calls Try.prog 99 #[.int .u64 x] w fun e w' => ∃ v, e = .returned v ∧ Made w' v bs k ∧ Below w.heap.size w w' := by
  obtain ⟨n, rfl⟩ := Int.eq_ofNat_of_zero_le h0
  rw [Int.toNat_natCast] at hbs
  subst hbs
  refine (RPut_any w n (by omega)).mono ?_
  rintro e w' ⟨v, rfl, ho, hb, _⟩
  exact ⟨v, rfl, made_of_own (by simpa using ho) hk (Vm.enc_byte (by omega)), hb⟩

def RTakePost (w : World) (bs : List Nat) (e : Ending) (w' : World) : Prop :=
  e = .returned (.tuple #[.int .u64 ((Vm.take bs).1 : Int), .int .i64 ((Vm.take bs).2.1 : Int), .int .i64 ((Vm.take bs).2.2 : Int)]) ∧ Below w.heap.size w w'
theorem rtakePost_of {w w' : World} {bs : List Nat} {a b c : Nat} (h : Vm.take bs = (a, b, c)) (hb : Below w.heap.size w w') : RTakePost w bs (.returned (.tuple #[.int .u64 (a : Int), .int .i64 (b : Int), .int .i64 (c : Int)])) w' := by
  unfold RTakePost
  rw [h]
  exact ⟨rfl, hb⟩
def RFind (bs : List Nat) (s5 s6 : Value) : Prop :=
  ∃ k : Nat, s6 = .int .i64 (k : Int) ∧ ((s5 = .int .i64 0 ∧ k ≤ 10 ∧ k ≤ bs.length ∧ Hid (∀ j, j < k → 128 ≤ bs[j]?.getD 0)) ∨ (s5 = .int .i64 (k : Int) ∧ 1 ≤ k ∧ k ≤ 10 ∧ k ≤ bs.length ∧ Hid (Vm.fin 10 bs = some (k - 1))))
def RDec (bs : List Nat) (k : Nat) (s7 s8 : Value) : Prop := ∃ (N : Nat) (i : Int), s7 = .int .u64 (N : Int) ∧ s8 = .int .i64 i ∧ -1 ≤ i ∧ i < k ∧ N ≤ 18446744073709551615 ∧ Hid (N = Vm.part bs (k - 1) (i + 1).toNat % 18446744073709551616)
theorem rdec_val (N y : Nat) : IntKind.u64.wrap (IntKind.u64.wrap ((N : Int) * 128) + (y : Int) % 128) = (((N * 128 + y % 128) % 18446744073709551616 : Nat) : Int) := by
  rw [IntKind.wrap_u64, IntKind.wrap_u64]; omega
theorem rdec_step {bs : List Nat} {k j N : Nat} (hj : j < k) (hk : k ≤ bs.length) (hN : Hid (N = Vm.part bs (k - 1) ((j : Int) + 1).toNat % 18446744073709551616)) :
    RDec bs k (.int .u64 (((N * 128 + bs[j]?.getD 0 % 128) % 18446744073709551616 : Nat) : Int)) (.int .i64 ((j : Int) - 1)) := by
  refine ⟨_, _, rfl, rfl, by omega, by omega, by omega, ?_⟩
  have h := hN.out
  have e : ((j : Int) + 1).toNat = j + 1 := by omega
  have e2 : (((j : Int) - 1) + 1).toNat = j := by omega
  rw [e] at h
  show _ = _
  rw [e2, h, Vm.part_step (bs := bs) (k := k - 1) (j := j) (by omega) (by omega)]
  omega

set_option maxHeartbeats 2000000 in
set_option maxRecDepth 100000 in
theorem RTake_any (w : World) (A : Option Addr) (c : Nat) (bs : List Nat) (hr : Rd w w.heap.size A (u8s bs)) (h256 : ∀ b ∈ bs, b < 256) (hlc : bs.length ≤ c) (hcm : c ≤ maxLen) :
    Calls Try.prog 95 #[.slice A bs.length c] w (RTakePost w bs) := by
  unfold maxLen at hcm
  go_enter Try.func95, Try.ntmps95
  go_wp2
  go_loop [5, 6] (fun s5 s6 => RFind bs s5 s6) (fun s5 s6 => 22 - (intOf s6).toNat - (intOf s5).toNat)
  case atStart => exact ⟨0, rfl, .inl ⟨rfl, by omega, by omega, fun j hj => absurd hj (by omega)⟩⟩
  case round =>
    obtain ⟨k, rfl, hst⟩ := hrel
    rcases hst with ⟨rfl, hk10, hkl, hall⟩ | ⟨rfl, hk1, hk10, hkl, hfin⟩
    · by_cases hlt : k < bs.length
      · by_cases h10 : k = 10
        · subst h10
          have hf : Vm.fin 10 bs = none := Vm.fin_none 10 bs (fun j hj _ => hall.out j hj)
          have R := rtakePost_of (w := w) (take_none hf (by omega)) (Below.refl _ _)
          have HR := Lib.hid R; clear R hf
          have hlen : (10 : Int) ≤ (bs.length : Int) := by omega
          go_wp2
          go_ret3
          exact HR.out
        · obtain ⟨g, o, rfl, hgB, hc0⟩ := hr.u8 (by intro h; simp [h] at hlt)
          obtain ⟨x, hx⟩ : ∃ x, x = bs[k]?.getD 0 := ⟨_, rfl⟩
          have hc := hc0 k hlt
          rw [← hx] at hc
          have HX := Lib.hid hx; clear hx
          clear hc0
          have hk9 : k < 10 := by omega
          by_cases hsm : x < 128
          · have hf : Vm.fin 10 bs = some k := Vm.fin_some 10 k bs (by omega) hlt hall.out (by rw [← HX.out]; exact hsm)
            have HF := Lib.hid hf; clear hf
            go_wp2
            go_round
            case rel => exact ⟨k + 1, by go_num, .inr ⟨by go_num, by omega, by omega, by omega, HF.out⟩⟩
            case measure => simp [intOf]; omega
          · go_wp2
            go_round
            case rel => exact ⟨k + 1, by go_num, .inl ⟨rfl, by omega, by omega, fun j hj => by
              by_cases h : j = k
              · subst h; rw [← HX.out]; omega
              · exact hall.out j (by omega)⟩⟩
            case measure => simp [intOf]; omega
      · have hf : Vm.fin 10 bs = none := Vm.fin_none 10 bs (fun j _ hj => hall.out j (by omega))
        by_cases hl10 : bs.length < 10
        · have R := rtakePost_of (w := w) (take_short hf hl10) (Below.refl _ _)
          have HR := Lib.hid R; clear R hf
          go_wp2
          go_ret3
          exact HR.out
        · have R := rtakePost_of (w := w) (take_none hf hl10) (Below.refl _ _)
          have HR := Lib.hid R; clear R hf
          go_wp2
          go_ret3
          exact HR.out
    · have hk0 : ((k : Int) == 0) = false := by simp; omega
      go_wp2
      all_goals
        go_loop [7, 8] (fun s7 s8 => RDec bs k s7 s8) (fun _ s8 => (intOf s8 + 1).toNat)
        case atStart => exact ⟨0, _, rfl, rfl, by omega, by omega, by omega, by show (0 : Nat) = _; rw [show ((k : Int) - 1 + 1).toNat = (k - 1) + 1 by omega, Vm.part_end]⟩
        case round =>
          obtain ⟨N, i, rfl, rfl, hi1, hi2, hN64, hN⟩ := hrel
          by_cases hi : 0 ≤ i
          · obtain ⟨j, rfl⟩ := Int.eq_ofNat_of_zero_le hi
            obtain ⟨g, o, rfl, hgB, hc0⟩ := hr.u8 (by intro h; simp [h] at hkl; omega)
            have hcj := hc0 j (by omega)
            clear hc0
            obtain ⟨y, hy⟩ : ∃ y, y = bs[j]?.getD 0 := ⟨_, rfl⟩
            have hy256 : y < 256 := by rw [hy, List.getElem?_eq_getElem (by omega)]; exact h256 _ (List.getElem_mem _)
            rw [← hy] at hcj
            have HY := Lib.hid hy; clear hy
            have R := rdec_step (by omega) hkl hN
            rw [← HY.out, ← rdec_val N y] at R
            have HR2 := Lib.hid R; clear R
            have hjl : j < bs.length := by omega
            go_wp2
            go_round
            case rel => exact HR2.out
            case measure => simp [intOf]
          · obtain rfl : i = -1 := by omega
            have cP := Lib.hid (fun w => RPut_at w (N : Int) (Vm.enc N) (Vm.enc N).length (by omega) (by omega) (by rw [Int.toNat_natCast]) rfl)
            have hkci : (k : Int) ≤ (c : Int) := by omega
            have hk0i : (0 : Int) ≤ (k : Int) := by omega
            have hle10 := Vm.enc_le N
            have hN0 : N = Vm.part bs (k - 1) 0 % 18446744073709551616 := hN.out
            have hkc : k ≤ c := by omega
            have hs := fun (w : World) (A1 : Option Addr) (c1 B1 B2 : Nat) (h1 : Rd w B1 A1 (u8s (Vm.enc N))) (h2 : Rd w B2 A (u8s bs)) =>
              same_at w A1 A c1 c (Vm.enc N) (bs.take k) B1 B2 (Vm.enc N).length k _ h1 (by rw [show u8s (bs.take k) = (u8s bs).take k by simp [u8s, List.map_take]]; exact h2.take k) (by unfold maxLen; omega) rfl (by rw [List.length_take]; omega) rfl
            by_cases hbad : (0 < k - 1 ∧ bs[k - 1]?.getD 0 = 0) ∨ (k - 1 = 9 ∧ 1 < bs[k - 1]?.getD 0)
            · obtain ⟨q1, q2⟩ := Vm.take_bad_enc hfin.out hbad hN64
              have hd : decide (Vm.enc N = bs.take k) = false := by
                rw [show k = k - 1 + 1 by omega]
                simpa using q1
              rw [hd] at hs
              have HS := Lib.hid hs; clear hs
              have R := fun w' hb => rtakePost_of (w := w) (w' := w') q2 hb
              have HR := Lib.hid R
              clear R q1 q2 hd hbad hN0 hN
              go_wp2_with fail
              go_region_held3 (fun _ => True) (exact trivial) (first
                | (go_at_call 99; refine (cP.out _).mono ?_; rintro e w1 ⟨v, rfl, ⟨A1, c1, rfl, hp1, _, _, _, _, _⟩, hb⟩; have hr1 := Lib.hid (Rd.below (w := w.drew) hr hb); have hb1 : Below w.heap.size w w1 := ((Below.refl _ w).drew).trans hb; clear hb)
                | (go_at_call 25; refine (HS.out _ _ _ _ _ hp1 hr1.out).mono ?_; rintro e w2 ⟨rfl, q, hq⟩; have hb2 : Below w.heap.size w w2 := (by rw [hq]; exact below_drewN hb1 q); clear hq hb1 hp1 hr1)
                | fail)
              go_wp2
              go_ret3
              exact HR.out _ hb2
            · obtain ⟨q0, q1, q2⟩ := Vm.take_good_enc hfin.out hbad h256
              have hN1 : N = Vm.part bs (k - 1) 0 := by rw [hN0]; omega
              have hd : decide (Vm.enc N = bs.take k) = true := by
                rw [hN1, q1, show k - 1 + 1 = k by omega]
                simp
              rw [hd] at hs
              rw [← hN1, show k - 1 + 1 = k by omega] at q2
              have HS := Lib.hid hs; clear hs
              have R := fun w' hb => rtakePost_of (w := w) (w' := w') q2 hb
              have HR := Lib.hid R
              clear R q0 q1 q2 hd hbad hN0 hN hN1
              go_wp2_with fail
              go_region_held3 (fun _ => True) (exact trivial) (first
                | (go_at_call 99; refine (cP.out _).mono ?_; rintro e w1 ⟨v, rfl, ⟨A1, c1, rfl, hp1, _, _, _, _, _⟩, hb⟩; have hr1 := Lib.hid (Rd.below (w := w.drew) hr hb); have hb1 : Below w.heap.size w w1 := ((Below.refl _ w).drew).trans hb; clear hb)
                | (go_at_call 25; refine (HS.out _ _ _ _ _ hp1 hr1.out).mono ?_; rintro e w2 ⟨rfl, q, hq⟩; have hb2 : Below w.heap.size w w2 := (by rw [hq]; exact below_drewN hb1 q); clear hq hb1 hp1 hr1)
                | fail)
              go_wp2
              go_ret3
              exact HR.out _ hb2

theorem rtake_at (w : World) (A : Option Addr) (c : Nat) (bs : List Nat) (n a b d : Nat) (hr : Rd w w.heap.size A (u8s bs)) (h256 : ∀ b ∈ bs, b < 256) (hlc : n ≤ c) (hcm : c ≤ maxLen) (hn : bs.length = n) (ht : Vm.take bs = (a, b, d)) :
    Calls Try.prog 95 #[.slice A n c] w fun e w' => e = .returned (.tuple #[.int .u64 (a : Int), .int .i64 (b : Int), .int .i64 (d : Int)]) ∧ Below w.heap.size w w' := by
  subst hn
  refine (RTake_any w A c bs hr h256 hlc hcm).mono fun e w' h => ?_
  unfold RTakePost at h
  rw [ht] at h
  exact h
end Go.Proofs.Ytahichieakdbnaa
