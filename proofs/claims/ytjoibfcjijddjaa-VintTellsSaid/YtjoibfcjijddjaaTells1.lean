/- law 1, VintTells: the walk. -/
import Derived.Test.YtjoibfcjijddjaaAwake1
import Derived.Test.YtjoibfcjijddjaaRef1
import Derived.Deep.DeepMust
namespace Go.Proofs.Ytjoibfcjijddjaa
open Go.ChangeShapes Go.WideShapes Go.ChangeAt Go.RowKit
set_option linter.unusedVariables false

theorem take_err {bs : List Nat} {a b d : Nat} (h : Vm.take bs = (a, b, d)) (hd : d ≠ 0) : a = 0 ∧ b = 0 := by
  unfold Vm.take at h
  split at h
  · split at h <;> (simp at h; omega)
  · split at h
    · simp at h; omega
    · simp at h; omega
def TellsRel (w : World) (ls : List Nat) (Bk : Nat) (sall sk : Value) (wr : World) : Prop :=
  ∃ k : Nat, sk = .int .i64 (k : Int) ∧ k ≤ ls.length ∧ wr.ownsRow Bk 5 1 sall (Vm.encs (ls.take k)).length (u8s (Vm.encs (ls.take k))) ∧ Below w.heap.size w wr ∧ Bk ≤ wr.heap.size ∧ w.heap.size ≤ Bk
theorem tells_step {w w1 : World} {ls : List Nat} {Bk k : Nat} {v1 : Value} (hk : k < ls.length) (hb1 : Below w.heap.size w w1)
    (ho : w1.ownsRow Bk 5 1 v1 ((Vm.encs (ls.take k)).length + (Vm.enc (ls[k]?.getD 0)).length) (u8s (Vm.encs (ls.take k)) ++ u8s (Vm.enc (ls[k]?.getD 0)))) (h1 : Bk ≤ w1.heap.size) (h2 : w.heap.size ≤ Bk) :
    TellsRel w ls Bk v1 (.int .i64 ((k : Int) + 1)) w1 := by
  refine ⟨k + 1, by go_num, hk, ?_, hb1, h1, h2⟩
  rw [Vm.encs_snoc ls hk, List.length_append, u8s_append]
  exact ho

set_option maxHeartbeats 8000000 in
set_option maxRecDepth 100000 in
theorem tells_walk (w : World) (n : Nat) (m : Int) (A : Option Addr) (len cap : Nat) (bs : List Nat) (A2 : Option Addr) (len2 cap2 : Nat) (ls : List Nat) (hn : n ≤ 18446744073709551615) (hm0 : -9223372036854775808 ≤ m) (hm1 : m ≤ 9223372036854775807)
    (hl : bs.length = len) (h256 : ∀ b ∈ bs, b < 256) (hr : Rd w w.heap.size A (u8s bs)) (hlc : len ≤ cap) (hcm : cap ≤ maxLen)
    (hl2 : ls.length = len2) (h64 : ∀ b ∈ ls, b ≤ 18446744073709551615) (hr2 : Rd w w.heap.size A2 (u64s ls)) :
    Calls Try.prog 3 #[.int .u64 (n : Int), .int .i64 m, .slice A len cap, .slice A2 len2 cap2] w (TruePost w) := by
  obtain ⟨i0, hi, hz0, hz1, hz2⟩ := info_parts Try.infoB
  have cA := Lib.hid (awake_any w)
  by_cases hlong : 1000 < len ∨ 100 < len2
  · clear hm0 hm1
    by_cases h1 : 1000 < len
    · clear hlong
      go_enter Try.func3, Try.ntmps3
      go_wp2_with fail
      refine cA.out.mono ?_
      rintro e w1 ⟨rfl, hb1⟩
      go_wp2
      go_ret
      exact ⟨rfl, hb1⟩
    · have h2 : 100 < len2 := by omega
      clear hlong
      go_enter Try.func3, Try.ntmps3
      go_wp2_with fail
      refine cA.out.mono ?_
      rintro e w1 ⟨rfl, hb1⟩
      go_wp2
      go_ret
      exact ⟨rfl, hb1⟩
  have hlen : len ≤ 1000 := by omega
  have hlen2 : len2 ≤ 100 := by omega
  clear hlong
  obtain ⟨a, b, d, ht⟩ : ∃ a b d, Vm.take bs = (a, b, d) := ⟨_, _, _, rfl⟩
  have hrange := take_range bs
  rw [ht] at hrange
  simp only at hrange
  obtain ⟨ha, hb10, hd3⟩ := hrange
  obtain ⟨sv, hsv⟩ : ∃ sv : Int, sv = if d = 0 then Vm.zag a else 0 := ⟨_, rfl⟩
  have cT := Lib.hid (fun (w : World) (B : Nat) (h : Rd w B A (u8s bs)) => take_at w A cap bs B len a b d h h256 (by rw [hl]; unfold maxLen; omega) hl ht)
  have cR := Lib.hid (fun (w : World) (h : Rd w w.heap.size A (u8s bs)) => rtake_at w A cap bs len a b d h h256 hlc hcm hl ht)
  have cS : Hid (∀ (w : World) (B : Nat), Rd w B A (u8s bs) → Calls Try.prog 9 #[.slice A len cap] w fun e w' => e = .returned (.tuple #[.int .i64 sv, .int .i64 (b : Int), .int .i64 (d : Int)]) ∧ w = w') := by
    intro w B h
    by_cases hd : d = 0
    · rw [hsv, if_pos hd]
      subst hd
      exact takeS_at w A cap bs B len b (Vm.zag a) a h h256 (by rw [hl]; unfold maxLen; omega) hl ht rfl
    · obtain ⟨_, rfl⟩ := take_err ht hd
      rw [hsv, if_neg hd]
      exact takeS_no_at w A cap bs B len a 0 d h h256 (by rw [hl]; unfold maxLen; omega) hl ht hd
  have cZ : Hid (d = 0 → ∀ w : World, Calls Try.prog 10 #[.int .u64 (a : Int)] w fun e w' => e = .returned (.int .i64 sv) ∧ w = w') := by
    intro hd w
    rw [hsv, if_pos hd]
    exact RZag_any w a ha
  have hsv0 : Hid (d ≠ 0 → sv = 0) := fun hd => by rw [hsv, if_neg hd]
  have hsvr : Hid (sv = if d = 0 then Vm.zag a else 0) := hsv
  clear hsv
  -- the numbers that both sides tell
  obtain ⟨pa, hpa⟩ : ∃ pa, Vm.enc n = pa := ⟨_, rfl⟩
  obtain ⟨la, hla⟩ : ∃ la, pa.length = la := ⟨_, rfl⟩
  have hla10 : la ≤ 10 := by rw [← hla, ← hpa]; exact Vm.enc_le n
  obtain ⟨zn, hzn⟩ : ∃ zn : Nat, Vm.zig m = zn := ⟨_, rfl⟩
  have hz64 := Vm.zig_lt hm0 hm1
  rw [hzn] at hz64
  obtain ⟨ps, hps⟩ : ∃ ps, Vm.enc zn = ps := ⟨_, rfl⟩
  obtain ⟨lp, hlp⟩ : ∃ lp, ps.length = lp := ⟨_, rfl⟩
  have hlp10 : lp ≤ 10 := by rw [← hlp, ← hps]; exact Vm.enc_le _
  obtain ⟨es, hes⟩ : ∃ es, Vm.encs ls = es := ⟨_, rfl⟩
  obtain ⟨le, hle⟩ : ∃ le, es.length = le := ⟨_, rfl⟩
  have hle1000 : le ≤ 1000 := by rw [← hle, ← hes]; have := Vm.encs_le ls; omega
  have cP := Lib.hid (fun w => Put_at w (n : Int) pa la (by omega) (by omega) hpa hla)
  have cRP := Lib.hid (fun w => RPut_at w (n : Int) pa la (by omega) (by omega) hpa hla)
  have cSame := Lib.hid (fun (w : World) (A1 A2 : Option Addr) (c1 c2 B1 B2 : Nat) (h1 : Rd w B1 A1 (u8s pa)) (h2 : Rd w B2 A2 (u8s pa)) => same_at w A1 A2 c1 c2 pa pa B1 B2 la la true h1 h2 (by rw [hla]; unfold maxLen; omega) hla hla (by simp))
  have cSz := Lib.hid (fun w => Size_at w (n : Int) (la : Int) (by omega) (by omega) (by rw [Int.toNat_natCast, hpa, hla]))
  have cZig := Lib.hid (fun w => Zig_at w m (zn : Int) hm0 hm1 (by rw [hzn]))
  have cRZig : Hid (∀ w : World, Calls Try.prog 16 #[.int .i64 m] w fun e w' => e = .returned (.int .u64 (zn : Int)) ∧ w = w') := fun w => by rw [← hzn]; exact RZig_any w m hm0 hm1
  have cZag := Lib.hid (fun w => Zag_at w (n : Int) (Vm.zag n) (by omega) (by omega) rfl)
  have cRZag : Hid (∀ w : World, Calls Try.prog 10 #[.int .u64 (n : Int)] w fun e w' => e = .returned (.int .i64 (Vm.zag n)) ∧ w = w') := fun w => RZag_any w n hn
  have cPS := Lib.hid (fun w => PutS_at w m ps lp hm0 hm1 (by rw [hzn, hps]) hlp)
  have cRPS := Lib.hid (fun w => RPut_at w (zn : Int) ps lp (by omega) (by omega) (by rw [Int.toNat_natCast, hps]) hlp)
  have cSameS := Lib.hid (fun (w : World) (A1 A2 : Option Addr) (c1 c2 B1 B2 : Nat) (h1 : Rd w B1 A1 (u8s ps)) (h2 : Rd w B2 A2 (u8s ps)) => same_at w A1 A2 c1 c2 ps ps B1 B2 lp lp true h1 h2 (by rw [hlp]; unfold maxLen; omega) hlp hlp (by simp))
  have cAll := Lib.hid (fun (w : World) (B : Nat) (h : Rd w B A2 (u64s ls)) (hB : B ≤ w.heap.size) => All_at w A2 cap2 ls B len2 h hB h64 (by omega) hl2 es le hes hle)
  have cSameA := Lib.hid (fun (w : World) (A1 A2 : Option Addr) (c1 c2 B1 B2 : Nat) (h1 : Rd w B1 A1 (u8s es)) (h2 : Rd w B2 A2 (u8s es)) => same_at w A1 A2 c1 c2 es es B1 B2 le le true h1 h2 (by rw [hle]; unfold maxLen; omega) hle hle (by simp))
  have cRPk := Lib.hid (fun (w : World) (x : Nat) (hx : x ≤ 18446744073709551615) => RPut_at w (x : Int) (Vm.enc x) (Vm.enc x).length (by omega) (by omega) (by rw [Int.toNat_natCast]) rfl)
  have HZ := Lib.hid hzn
  have HE := Lib.hid hes
  have HLE := Lib.hid hle
  have H64 := Lib.hid h64
  have HL2 := Lib.hid hl2
  have HR := Lib.hid hr
  have HR2 := Lib.hid hr2
  clear hpa hla hzn hps hlp hes hle ht h256 h64 hl2 hl hr hr2 hm0 hm1
  go_enter Try.func3, Try.ntmps3
  go_wp2_with fail
  refine cA.out.mono ?_
  rintro e w1 ⟨rfl, hb1⟩
  have hr1 := Lib.hid ((HR.out.below hb1).more hb1.size)
  have hq1 := Lib.hid ((HR2.out.below hb1).more hb1.size)
  clear HR
  go_wp2_with fail
  refine (cT.out _ _ hr1.out).mono ?_
  rintro e w' ⟨rfl, rfl⟩
  go_wp2_with fail
  refine (cR.out _ hr1.out).mono ?_
  rintro e w2 ⟨rfl, hb⟩
  have hb2 := hb1.trans (hb.mono hb1.size)
  have hr2 := Lib.hid ((hr1.out.below hb).more hb.size)
  have hq2 := Lib.hid ((hq1.out.below hb).more hb.size)
  clear hb hb1 hr1 hq1
  go_wp2_with fail
  refine (cS.out _ _ hr2.out).mono ?_
  rintro e w' ⟨rfl, rfl⟩
  have hd0 : Hid (∀ Q : Prop, (d = 0 → Q) → (d ≠ 0 → Q) → Q) := fun Q h1 h2 => if h : d = 0 then h1 h else h2 h
  by_cases hdz : d = 0
  · have cZ' := Lib.hid (cZ.out hdz)
    have hdb : ((d : Int) == 0) = true := by simp [hdz]
    have HD := Lib.hid hdz; clear hdz
    go_wp2_with fail
    refine (cZ'.out _).mono ?_
    rintro e w' ⟨rfl, rfl⟩
    go_wp2
    go_loopw [19, 57] (fun s19 s57 wr => TellsRel w ls w2.heap.size s19 s57 wr) (fun _ s57 _ => len2 - (intOf s57).toNat)
    case atStart => exact ⟨0, rfl, by omega, by simpa [Vm.encs, u8s] using own_lit0 w2 5 w2.heap.size (Nat.le_refl _), hb2.alloc hb2.size _, by simp, hb2.size⟩
    case round =>
      obtain ⟨k, rfl, hk, ho, hb, hB1, hB2⟩ := hrel
      have hqr := HR2.out.below hb
      by_cases hlt : k < ls.length
      · have hlt2 : k < len2 := by rw [← HL2.out]; exact hlt
        obtain ⟨g, o, rfl, hg, hc0⟩ := hqr.u64 (by intro h; simp [h] at hlt)
        have hc := hc0 k hlt
        clear hc0
        obtain ⟨x, hx⟩ : ∃ x, x = ls[k]?.getD 0 := ⟨_, rfl⟩
        have hx64 : x ≤ 18446744073709551615 := by rw [hx, List.getElem?_eq_getElem hlt]; exact H64.out _ (List.getElem_mem hlt)
        have hst := fun (v1 : Value) (w1 : World) => tells_step (w := w) (w1 := w1) (v1 := v1) (Bk := w2.heap.size) hlt
        rw [← hx] at hc hst
        have HX := Lib.hid hx; clear hx
        have HST := Lib.hid hst; clear hst
        have hlen9 : (Vm.encs (ls.take k)).length ≤ 1000 := by have := Vm.encs_le (ls.take k); rw [List.length_take] at this; omega
        have hx10 := Vm.enc_le x
        have HQ := Lib.hid hqr; clear hqr
        go_wp2_with fail
        refine (cRPk.out _ x hx64).mono ?_
        rintro e w3 ⟨v, rfl, ⟨A3, c3, rfl, hp3, hl3, _, _, _, hn3⟩, hbp⟩
        have ho3 := own_below ho hbp
        have hb3 := hb.trans (hbp.mono hb.size)
        have hB3 : w2.heap.size ≤ w3.heap.size := Nat.le_trans hB1 hbp.size
        have hul : (u8s (Vm.enc x)).length = (Vm.enc x).length := by simp
        have HUL := Lib.hid hul; clear hul hl3
        clear ho hb hbp hB1
        go_wp2_with (at_builtin; go_must (refine app_own rfl (.tmp 61) (.tmp 63) 23 rfl w2.heap.size 5 i0 (.int .u8 0) 1 Try.underlying23 hi hz0 hz1 hz2 rfl _ _ _ rfl ho3 w3.heap.size A3 (Vm.enc x).length c3 (u8s (Vm.enc x)) rfl HUL.out hp3 hn3 (u8s_one _) (by unfold maxLen; omega) (by omega) hB3 ?_; intro v4 w4 ho4 hg4 _hne4; have hb4 := hb3.grown hg4 hb3.size (fun k hk => Nat.le_trans hB2 (ho3.lt k hk).1); have R := Lib.hid (HST.out v4 w4 hb4 ho4 (Nat.le_trans hB3 hg4.size) hB2); clear hg4 ho3 hb3 ho4 hb4 hp3 hn3))
        go_roundw
        case rel => exact R.out
        case measure => simp [intOf]; omega
      · obtain rfl : k = ls.length := by omega
        rw [List.take_length, HE.out, HLE.out] at ho
        obtain ⟨A9, c9, rfl, _, _, _, hall, _⟩ := own_form ho
        clear ho
        have hq9 := Lib.hid ((HR2.out.below hb).more hb.size)
        have hL9 : ¬ (ls.length : Int) < (len2 : Int) := by rw [HL2.out]; omega
        have HA := Lib.hid hall; clear hall hqr
        go_wp2_with fail
        refine (cP.out _).mono ?_
        rintro e w3 ⟨v, rfl, ⟨A3, c3, rfl, hp3, _, _, _, _, _⟩, hbp⟩
        have hb3 := hb.trans (hbp.mono hb.size)
        have HA3 := Lib.hid ((HA.out.below hbp).more hbp.size)
        have hq3 := Lib.hid ((hq9.out.below hbp).more hbp.size)
        clear hb HA hbp hq9
        go_wp2_with fail
        refine (cRP.out _).mono ?_
        rintro e w4 ⟨v, rfl, ⟨A4, c4, rfl, hp4, _, _, _, _, _⟩, hbp⟩
        have hb4 := hb3.trans (hbp.mono hb3.size)
        have HA4 := Lib.hid ((HA3.out.below hbp).more hbp.size)
        have hq4 := Lib.hid ((hq3.out.below hbp).more hbp.size)
        have hp34 := Lib.hid (hp3.below hbp)
        clear hb3 HA3 hbp hp3 hq3
        go_wp2_with fail
        refine (cSame.out _ _ _ _ _ _ _ hp34.out hp4).mono ?_
        rintro e w5 ⟨rfl, q, hq⟩
        have hb5 : Below w.heap.size w w5 := by rw [hq]; exact below_drewN hb4 q
        have HA5 : Hid (Rd w5 w5.heap.size A9 (u8s es)) := by rw [hq]; exact HA4.out
        have hq5 : Hid (Rd w5 w5.heap.size A2 (u64s ls)) := by rw [hq]; exact hq4.out
        clear hq hb4 HA4 hp34 hp4 hq4
        go_wp2_with fail
        refine (cSz.out _).mono ?_
        rintro e w' ⟨rfl, rfl⟩
        go_wp2_with fail
        refine (cRP.out _).mono ?_
        rintro e w6 ⟨v, rfl, ⟨A6, c6, rfl, _, _, _, _, _, _⟩, hbp⟩
        have hb6 := hb5.trans (hbp.mono hb5.size)
        have HA6 := Lib.hid ((HA5.out.below hbp).more hbp.size)
        have hq6 := Lib.hid ((hq5.out.below hbp).more hbp.size)
        clear hb5 HA5 hbp hq5
        go_wp2_with fail
        refine (cZig.out _).mono ?_
        rintro e w' ⟨rfl, rfl⟩
        go_wp2_with fail
        refine (cRZig.out _).mono ?_
        rintro e w' ⟨rfl, rfl⟩
        go_wp2_with fail
        refine (cZag.out _).mono ?_
        rintro e w' ⟨rfl, rfl⟩
        go_wp2_with fail
        refine (cRZag.out _).mono ?_
        rintro e w' ⟨rfl, rfl⟩
        go_wp2_with fail
        refine (cPS.out _).mono ?_
        rintro e w7 ⟨v, rfl, ⟨A7, c7, rfl, hp7, _, _, _, _, _⟩, hbp⟩
        have hb7 := hb6.trans (hbp.mono hb6.size)
        have HA7 := Lib.hid ((HA6.out.below hbp).more hbp.size)
        have hq7 := Lib.hid ((hq6.out.below hbp).more hbp.size)
        clear hb6 HA6 hbp hq6
        go_wp2_with fail
        refine (cRZig.out _).mono ?_
        rintro e w' ⟨rfl, rfl⟩
        go_wp2_with fail
        refine (cRPS.out _).mono ?_
        rintro e w8 ⟨v, rfl, ⟨A8, c8, rfl, hp8, _, _, _, _, _⟩, hbp⟩
        have hb8 := hb7.trans (hbp.mono hb7.size)
        have HA8 := Lib.hid ((HA7.out.below hbp).more hbp.size)
        have hq8 := Lib.hid ((hq7.out.below hbp).more hbp.size)
        have hp78 := Lib.hid (hp7.below hbp)
        clear hb7 HA7 hbp hp7 hq7
        go_wp2_with fail
        refine (cSameS.out _ _ _ _ _ _ _ hp78.out hp8).mono ?_
        rintro e w9 ⟨rfl, q, hq⟩
        have hb9 : Below w.heap.size w w9 := by rw [hq]; exact below_drewN hb8 q
        have HA9 : Hid (Rd w9 w9.heap.size A9 (u8s es)) := by rw [hq]; exact HA8.out
        have hq9 : Hid (Rd w9 w9.heap.size A2 (u64s ls)) := by rw [hq]; exact hq8.out
        clear hq hb8 HA8 hp78 hp8 hq8
        go_wp2_with fail
        refine (cAll.out _ _ hq9.out (Nat.le_refl _)).mono ?_
        rintro e w10 ⟨v, rfl, ⟨A10, c10, rfl, hp10, _, _, _, _, _⟩, hbp⟩
        have hb10 := hb9.trans (hbp.mono hb9.size)
        have HA10 := Lib.hid ((HA9.out.below hbp).more hbp.size)
        clear hb9 HA9 hbp hq9
        go_wp2_with fail
        refine (cSameA.out _ _ _ _ _ _ _ hp10 HA10.out).mono ?_
        rintro e w11 ⟨rfl, q, hq⟩
        have hb11 : Below w.heap.size w w11 := by rw [hq]; exact below_drewN hb10 q
        clear hq hb10 hp10 HA10
        go_wp2
        go_ret
        exact ⟨rfl, hb11⟩
  · obtain rfl : sv = 0 := hsv0.out hdz
    have hdb : ((d : Int) == 0) = false := by simp [hdz]
    have HD := Lib.hid hdz; clear hdz
    go_wp2
    go_loopw [19, 57] (fun s19 s57 wr => TellsRel w ls w2.heap.size s19 s57 wr) (fun _ s57 _ => len2 - (intOf s57).toNat)
    case atStart => exact ⟨0, rfl, by omega, by simpa [Vm.encs, u8s] using own_lit0 w2 5 w2.heap.size (Nat.le_refl _), hb2.alloc hb2.size _, by simp, hb2.size⟩
    case round =>
      obtain ⟨k, rfl, hk, ho, hb, hB1, hB2⟩ := hrel
      have hqr := HR2.out.below hb
      by_cases hlt : k < ls.length
      · have hlt2 : k < len2 := by rw [← HL2.out]; exact hlt
        obtain ⟨g, o, rfl, hg, hc0⟩ := hqr.u64 (by intro h; simp [h] at hlt)
        have hc := hc0 k hlt
        clear hc0
        obtain ⟨x, hx⟩ : ∃ x, x = ls[k]?.getD 0 := ⟨_, rfl⟩
        have hx64 : x ≤ 18446744073709551615 := by rw [hx, List.getElem?_eq_getElem hlt]; exact H64.out _ (List.getElem_mem hlt)
        have hst := fun (v1 : Value) (w1 : World) => tells_step (w := w) (w1 := w1) (v1 := v1) (Bk := w2.heap.size) hlt
        rw [← hx] at hc hst
        have HX := Lib.hid hx; clear hx
        have HST := Lib.hid hst; clear hst
        have hlen9 : (Vm.encs (ls.take k)).length ≤ 1000 := by have := Vm.encs_le (ls.take k); rw [List.length_take] at this; omega
        have hx10 := Vm.enc_le x
        have HQ := Lib.hid hqr; clear hqr
        go_wp2_with fail
        refine (cRPk.out _ x hx64).mono ?_
        rintro e w3 ⟨v, rfl, ⟨A3, c3, rfl, hp3, hl3, _, _, _, hn3⟩, hbp⟩
        have ho3 := own_below ho hbp
        have hb3 := hb.trans (hbp.mono hb.size)
        have hB3 : w2.heap.size ≤ w3.heap.size := Nat.le_trans hB1 hbp.size
        have hul : (u8s (Vm.enc x)).length = (Vm.enc x).length := by simp
        have HUL := Lib.hid hul; clear hul hl3
        clear ho hb hbp hB1
        go_wp2_with (at_builtin; go_must (refine app_own rfl (.tmp 61) (.tmp 63) 23 rfl w2.heap.size 5 i0 (.int .u8 0) 1 Try.underlying23 hi hz0 hz1 hz2 rfl _ _ _ rfl ho3 w3.heap.size A3 (Vm.enc x).length c3 (u8s (Vm.enc x)) rfl HUL.out hp3 hn3 (u8s_one _) (by unfold maxLen; omega) (by omega) hB3 ?_; intro v4 w4 ho4 hg4 _hne4; have hb4 := hb3.grown hg4 hb3.size (fun k hk => Nat.le_trans hB2 (ho3.lt k hk).1); have R := Lib.hid (HST.out v4 w4 hb4 ho4 (Nat.le_trans hB3 hg4.size) hB2); clear hg4 ho3 hb3 ho4 hb4 hp3 hn3))
        go_roundw
        case rel => exact R.out
        case measure => simp [intOf]; omega
      · obtain rfl : k = ls.length := by omega
        rw [List.take_length, HE.out, HLE.out] at ho
        obtain ⟨A9, c9, rfl, _, _, _, hall, _⟩ := own_form ho
        clear ho
        have hq9 := Lib.hid ((HR2.out.below hb).more hb.size)
        have hL9 : ¬ (ls.length : Int) < (len2 : Int) := by rw [HL2.out]; omega
        have HA := Lib.hid hall; clear hall hqr
        go_wp2_with fail
        refine (cP.out _).mono ?_
        rintro e w3 ⟨v, rfl, ⟨A3, c3, rfl, hp3, _, _, _, _, _⟩, hbp⟩
        have hb3 := hb.trans (hbp.mono hb.size)
        have HA3 := Lib.hid ((HA.out.below hbp).more hbp.size)
        have hq3 := Lib.hid ((hq9.out.below hbp).more hbp.size)
        clear hb HA hbp hq9
        go_wp2_with fail
        refine (cRP.out _).mono ?_
        rintro e w4 ⟨v, rfl, ⟨A4, c4, rfl, hp4, _, _, _, _, _⟩, hbp⟩
        have hb4 := hb3.trans (hbp.mono hb3.size)
        have HA4 := Lib.hid ((HA3.out.below hbp).more hbp.size)
        have hq4 := Lib.hid ((hq3.out.below hbp).more hbp.size)
        have hp34 := Lib.hid (hp3.below hbp)
        clear hb3 HA3 hbp hp3 hq3
        go_wp2_with fail
        refine (cSame.out _ _ _ _ _ _ _ hp34.out hp4).mono ?_
        rintro e w5 ⟨rfl, q, hq⟩
        have hb5 : Below w.heap.size w w5 := by rw [hq]; exact below_drewN hb4 q
        have HA5 : Hid (Rd w5 w5.heap.size A9 (u8s es)) := by rw [hq]; exact HA4.out
        have hq5 : Hid (Rd w5 w5.heap.size A2 (u64s ls)) := by rw [hq]; exact hq4.out
        clear hq hb4 HA4 hp34 hp4 hq4
        go_wp2_with fail
        refine (cSz.out _).mono ?_
        rintro e w' ⟨rfl, rfl⟩
        go_wp2_with fail
        refine (cRP.out _).mono ?_
        rintro e w6 ⟨v, rfl, ⟨A6, c6, rfl, _, _, _, _, _, _⟩, hbp⟩
        have hb6 := hb5.trans (hbp.mono hb5.size)
        have HA6 := Lib.hid ((HA5.out.below hbp).more hbp.size)
        have hq6 := Lib.hid ((hq5.out.below hbp).more hbp.size)
        clear hb5 HA5 hbp hq5
        go_wp2_with fail
        refine (cZig.out _).mono ?_
        rintro e w' ⟨rfl, rfl⟩
        go_wp2_with fail
        refine (cRZig.out _).mono ?_
        rintro e w' ⟨rfl, rfl⟩
        go_wp2_with fail
        refine (cZag.out _).mono ?_
        rintro e w' ⟨rfl, rfl⟩
        go_wp2_with fail
        refine (cRZag.out _).mono ?_
        rintro e w' ⟨rfl, rfl⟩
        go_wp2_with fail
        refine (cPS.out _).mono ?_
        rintro e w7 ⟨v, rfl, ⟨A7, c7, rfl, hp7, _, _, _, _, _⟩, hbp⟩
        have hb7 := hb6.trans (hbp.mono hb6.size)
        have HA7 := Lib.hid ((HA6.out.below hbp).more hbp.size)
        have hq7 := Lib.hid ((hq6.out.below hbp).more hbp.size)
        clear hb6 HA6 hbp hq6
        go_wp2_with fail
        refine (cRZig.out _).mono ?_
        rintro e w' ⟨rfl, rfl⟩
        go_wp2_with fail
        refine (cRPS.out _).mono ?_
        rintro e w8 ⟨v, rfl, ⟨A8, c8, rfl, hp8, _, _, _, _, _⟩, hbp⟩
        have hb8 := hb7.trans (hbp.mono hb7.size)
        have HA8 := Lib.hid ((HA7.out.below hbp).more hbp.size)
        have hq8 := Lib.hid ((hq7.out.below hbp).more hbp.size)
        have hp78 := Lib.hid (hp7.below hbp)
        clear hb7 HA7 hbp hp7 hq7
        go_wp2_with fail
        refine (cSameS.out _ _ _ _ _ _ _ hp78.out hp8).mono ?_
        rintro e w9 ⟨rfl, q, hq⟩
        have hb9 : Below w.heap.size w w9 := by rw [hq]; exact below_drewN hb8 q
        have HA9 : Hid (Rd w9 w9.heap.size A9 (u8s es)) := by rw [hq]; exact HA8.out
        have hq9 : Hid (Rd w9 w9.heap.size A2 (u64s ls)) := by rw [hq]; exact hq8.out
        clear hq hb8 HA8 hp78 hp8 hq8
        go_wp2_with fail
        refine (cAll.out _ _ hq9.out (Nat.le_refl _)).mono ?_
        rintro e w10 ⟨v, rfl, ⟨A10, c10, rfl, hp10, _, _, _, _, _⟩, hbp⟩
        have hb10 := hb9.trans (hbp.mono hb9.size)
        have HA10 := Lib.hid ((HA9.out.below hbp).more hbp.size)
        clear hb9 HA9 hbp hq9
        go_wp2_with fail
        refine (cSameA.out _ _ _ _ _ _ _ hp10 HA10.out).mono ?_
        rintro e w11 ⟨rfl, q, hq⟩
        have hb11 : Below w.heap.size w w11 := by rw [hq]; exact below_drewN hb10 q
        clear hq hb10 hp10 HA10
        go_wp2
        go_ret
        exact ⟨rfl, hb11⟩
end Go.Proofs.Ytjoibfcjijddjaa
