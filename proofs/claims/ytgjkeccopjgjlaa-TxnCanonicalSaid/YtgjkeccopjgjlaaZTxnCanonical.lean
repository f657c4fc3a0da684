/- law 6's TxnBack: the walk. -/
import Derived.Test.YtgjkeccopjgjlaaG2
import Derived.Test.YtgjkeccopjgjlaaRows
import Derived.Test.YtgjkeccopjgjlaaW
import Derived.Below
import Derived.ChangeOld
import Derived.WalkKit
import Derived.ProofKit
import Derived.OpenShut
import Derived.ShutString
namespace Go.Proofs.Ytgjkeccopjgjlaa
open Go.ChangeShapes Go.WideShapes Go.ChangeAt Go.RowKit Go.Maps
set_option linter.unusedVariables false
set_option linter.unusedSimpArgs false

theorem hap_old {w : World} {B : Nat} {A : Option Addr} {ws : List Wr} {S : Nat → Prop} (h : WrR w B A ws) (hS : ∀ j, S j → B ≤ j) : ∀ g' o', A = some ⟨g', o', none⟩ → ws ≠ [] → ¬ S g' := by
  intro g' o' hA hn hs
  obtain ⟨g, o, hA', hg, _⟩ := h hn
  rw [hA] at hA'
  injection hA' with hA'
  injection hA' with e _
  have := hS g' hs
  omega
theorem check_at (w : World) (o s x y z : Int) (l : List Wr) (A : Option Addr) (n c d : Nat) (hr : WrR w w.heap.size A l) (hn : l.length = n) (hl : n ≤ 1099511627776) (hc : Tm.check (o, s, (x, y, z), l) = d) :
    Calls Try.prog 12 #[.agg #[.int .i64 o, .int .i64 s, .int .i64 x, .int .i64 y, .int .i64 z, .slice A n c]] w fun e w' => e = .returned (.int .i64 (d : Int)) ∧ Below w.heap.size w w' := by
  subst hc
  exact Check_any w o s x y z l A n c hr hn hl
def BkRel (w : World) (g f n : Nat) (s33 : Value) (wr : World) : Prop :=
  ∃ (k : Nat) (S U : Nat → Prop) (ks : List ByteArray) (e : Nat) (c : Tri3), s33 = .int .i64 (k : Int) ∧ k ≤ n ∧ CodM wr g S ks e c ∧ CodM wr f U ks e c ∧ Apart S U ∧ (∀ j, S j → w.heap.size ≤ j) ∧ (∀ j, U j → w.heap.size ≤ j) ∧ Below w.heap.size w wr
set_option maxRecDepth 100000 in
set_option maxHeartbeats 12000000 in
theorem TxnBack_walk (w : World) (A : Option Addr) (len cap : Nat) (ys : List ActT) (hn : ys.length = len) (hlc : len ≤ cap) (hcm : cap ≤ maxLen) (hr : Acts6 w w.heap.size A ys)
    (Ar : Option Addr) (nr cr : Nat) (rs : List Nat) (hnr : rs.length = nr) (hlr : nr ≤ cr) (hcr : cr ≤ maxLen) (hnor : Ar = none → cr = 0) (hrr : Rd w w.heap.size Ar (u8s rs)) (h256 : ∀ b ∈ rs, b < 256) :
    Calls Try.prog 4 #[.slice A len cap, .slice Ar nr cr] w (TrueP w) := by
  obtain ⟨i0, hi, hz0, hz1, hz2⟩ := info_parts infoU8
  have HN := Lib.hid hn; have HLC := Lib.hid hlc; have HCM := Lib.hid hcm; have HR := Lib.hid hr; have HNR := Lib.hid hnr; have HLR := Lib.hid hlr; have HCR := Lib.hid hcr; have HNOR := Lib.hid hnor; have HRR := Lib.hid hrr; have H256 := Lib.hid h256
  have hcm' : cap ≤ 9223372036854775807 := hcm
  have hcr' : cr ≤ 9223372036854775807 := hcr
  clear hn hr hnr hnor hrr h256 hcm hcr
  go_enter Try.func4, Try.ntmps4
  go_wp2_with fail
  refine (awake6_any w).mono ?_
  rintro en w1 ⟨rfl, hb1⟩
  have B1 := Lib.hid hb1; clear hb1
  go_wp2_with fail
  refine (large6_any w1 A len cap ys (Acts6.step HR.out B1.out) HN.out HLC.out HCM.out).mono ?_
  rintro en w2 ⟨⟨lb, rfl, hfine⟩, hb2⟩
  have B2 := Lib.hid (B1.out.trans (hb2.mono B1.out.size)); have HFI := Lib.hid hfine
  clear hb2 hfine
  cases lb with
  | true =>
    have HP := Lib.hid (show TrueP w (.returned (.bool true)) w2 from ⟨rfl, B2.out⟩)
    go_wp2
    go_ret
    exact HP.out
  | false =>
    by_cases hbig : 9000 < nr
    · have hbI : (9000 : Int) < (nr : Int) := by omega
      have HP := Lib.hid (show TrueP w (.returned (.bool true)) w2 from ⟨rfl, B2.out⟩)
      go_wp2
      go_ret
      exact HP.out
    · have hbI : ¬ (9000 : Int) < (nr : Int) := by omega
      obtain ⟨h30, hsh⟩ := HFI.out rfl
      have HSH := Lib.hid hsh
      have hl30 : len ≤ 30 := by rw [← HN.out]; exact h30
      clear hsh HFI h30
      go_wp2_with fail
      refine (CNew_any w2).mono ?_
      rintro en w3 ⟨g, S3, rfl, hd, hS, hb⟩
      have D3 := Lib.hid hd; have A3 := Lib.hid (fun j hj => Nat.le_trans B2.out.size (hS j hj)); have B3 := Lib.hid (B2.out.trans (hb.mono B2.out.size))
      clear hd hS hb
      go_wp2_with fail
      refine (CNew_any w3).mono ?_
      rintro en w4 ⟨f, U4, rfl, hd, hS, hb⟩
      have START := Lib.hid (show BkRel w g f len (.int .i64 0) w4 from ⟨0, S3, U4, [], 0, (0, 0, 0), rfl, Nat.zero_le _, D3.out.below hb, hd, fun j h1 h2 => by have := D3.out.lt j h1; have := hS j h2; omega, A3.out, fun j hj => Nat.le_trans B3.out.size (hS j hj), B3.out.trans (hb.mono B3.out.size)⟩)
      clear hd hS hb D3 A3 B3
      go_wp2
      go_loopw [33] (fun s33 wr => BkRel w g f len s33 wr) (fun s33 _ => len - (intOf s33).toNat)
      case atStart => exact START.out
      case round =>
        clear START
        obtain ⟨k, S, U, ks, e, c, rfl, hk, hd, hf, hap, hS, hU, hbel⟩ := hrel
        have HB := Lib.hid hbel
        by_cases hlt : k < len
        · obtain ⟨ga, o', d, o, s, x, y, z, l, bs, At, ct, Ab, cb, rfl, hga, hp, ⟨d0, d1, d2, d3, d4, d5, d6, d7⟩, ⟨hw, hlw, hctm, -, -⟩, -, -, -, -, -, -⟩ := Acts6.row (Acts6.below HR.out hbel) (k := k) (by rw [HN.out]; exact hlt)
          have hgw : ga < wr.heap.size := World.block_lt_of_cell? _ _ d0
          have hltI : (k : Int) < (len : Int) := by omega
          have hfa := HSH.out k _ hp
          have hl40 : l.length ≤ 40 := hfa.1.1
          obtain ⟨nw, hnw⟩ : ∃ q, l.length = q := ⟨_, rfl⟩
          obtain ⟨nb, hnb⟩ : ∃ q, bs.length = q := ⟨_, rfl⟩
          rw [hnw] at d6 hlw hl40; rw [hnb] at d7
          have HNW := Lib.hid hnw
          have HWR := Lib.hid hw; have HAP := Lib.hid (hap_old hw hS); have HAP2 := Lib.hid (hap_old hw hU)
          have D4 := Lib.hid hd; have F4 := Lib.hid hf; have X4 := Lib.hid hap; have AS := Lib.hid hS; have AU := Lib.hid hU; have HLT := Lib.hid hlt
          clear hd hf hap hS hU hbel hw hp hfa hnw hnb hctm
          go_wp2_with fail
          generalize hW : wr.alloc (.cells #[.int .i64 d, .int .i64 o, .int .i64 s, .int .i64 x, .int .i64 y, .int .i64 z, .slice At nw ct, .slice Ab nb cb] 41) = w4
          have hb : Below wr.heap.size wr w4 := by rw [← hW]; exact (Below.refl _ wr).alloc (Nat.le_refl _) _
          have Z4 : Hid (Blk w4 wr.heap.size 41 #[.int .i64 d, .int .i64 o, .int .i64 s, .int .i64 x, .int .i64 y, .int .i64 z, .slice At nw ct, .slice Ab nb cb]) := Lib.hid (by rw [← hW]; exact Blk.new wr _ _)
          have D5 := Lib.hid (D4.out.below hb); have F5 := Lib.hid (F4.out.below hb); have B5 := Lib.hid (HB.out.trans (hb.mono HB.out.size)); have BW5 : Hid (Below w.heap.size wr w4) := Lib.hid (hb.mono HB.out.size)
          have W5 : Hid (WrR w4 w4.heap.size At l) := Lib.hid (StR.more (WrR.below HWR.out (hb.mono HB.out.size)) (Nat.le_trans HB.out.size hb.size))
          clear hb hW D4 F4 d0 d1 d2 d3 d4 d5 d6 d7
          obtain ⟨ck, hck⟩ : ∃ q, Tm.check (o, s, (x, y, z), l) = q := ⟨_, rfl⟩
          have HCK := Lib.hid hck
          by_cases hc0 : ck = 0
          · subst hc0
            have hok := D5.out.ok
            have htk := Tm.takeT_put (t := (o, s, (x, y, z), l)) hok.1 hok.2 hck rs
            have hpk := Tm.put_ok (o, s, (x, y, z), l) hok.1 hok.2
            obtain ⟨⟨⟨pb, pd⟩, ⟨k2, e2, c2⟩⟩, hput⟩ : ∃ r, Tm.put ks e c (o, s, (x, y, z), l) = r := ⟨_, rfl⟩
            have hpd : pd = 0 := by
              have h := hput
              unfold Tm.put at h
              rw [if_neg (by rw [hck]; simp)] at h
              simp only [Prod.mk.injEq] at h
              exact h.1.2.symm
            subst hpd
            rw [hput] at htk hpk
            simp only at htk hpk
            obtain ⟨np, hnp⟩ : ∃ q, pb.length = q := ⟨_, rfl⟩
            rw [hnp] at htk hpk
            have HTK := Lib.hid htk; have HPUT := Lib.hid hput; have HNP := Lib.hid hnp; have HPB := Lib.hid hpk.2.2.1
            have hnp6 : np ≤ 6000 := hpk.2.2.2
            clear hok htk hpk hput hnp hck
            refine (CPut_at w4 g S ks e c o s x y z l At nw ct D5.out W5.out HAP.out HNW.out (by omega) pb 0 np k2 e2 c2 HPUT.out HNP.out).mono ?_
            rintro en w6 ⟨v, S6, rfl, hm, hfr, hd, hT⟩
            obtain ⟨Av, cv, rfl, -⟩ := id hm
            have hm2 := hm.rd_of6
            have RV := Lib.hid hm2.1; have HNV := Lib.hid hm2.2.2.2
            have D6 := Lib.hid hd; have F6 := Lib.hid (F5.out.only hT.2 X4.out); have X6 := Lib.hid (X4.out.turn hT F5.out.lt); have AS6 := Lib.hid (hT.1.above B5.out.size AS.out); have B6 := Lib.hid (B5.out.trans (hT.2.to_below B5.out.size AS.out))
            have Z6 := Lib.hid (hT.2.blk Z4.out (D5.out.not_blk Z4.out (by decide) (by decide) (by decide)))
            have BW6 := Lib.hid (BW5.out.trans (hT.2.to_below B5.out.size AS.out))
            clear hm hm2 hfr hd hT
            have W6 : Hid (WrR w6 w6.heap.size At l) := Lib.hid (StR.more (WrR.below HWR.out BW6.out) B6.out.size)
            have q1 := Z6.out.cell 1
            have q2 := Z6.out.cell 2
            have q3 := Z6.out.cell 3
            have q4 := Z6.out.cell 4
            have q5 := Z6.out.cell 5
            have q6 := Z6.out.cell 6
            simp at q1 q2 q3 q4 q5 q6
            go_wp2_with fail
            refine (check_at w6 o s x y z l At nw ct 0 W6.out HNW.out (by omega) HCK.out).mono ?_
            rintro en w7 ⟨rfl, hb⟩
            have D7 := Lib.hid (D6.out.below hb); have F7 := Lib.hid (F6.out.below hb); have B7 := Lib.hid (B6.out.trans (hb.mono B6.out.size)); have BW7 := Lib.hid (BW6.out.trans (hb.mono B6.out.size)); have Z7 := Lib.hid (Z6.out.below hb Z6.out.lt)
            have RV7 := Lib.hid ((RV.out.below hb).more hb.size)
            clear hb q1 q2 q3 q4 q5 q6
            have RR7 := Lib.hid (HRR.out.below B7.out)
            have ho1 := own_lit0 w7 5 w7.heap.size (Nat.le_refl _)
            have HUL : Hid ((u8s pb).length = np) := Lib.hid (by rw [u8s_length, HNP.out])
            have HUL2 : Hid ((u8s rs).length = nr) := Lib.hid (by rw [u8s_length, HNR.out])
            have hB7 := B7.out.size
            have tok1 : True := trivial
            go_wp2_with (first
              | (at_builtin; have _t := tok1; go_must (refine app_own rfl (.tmp 53) (.tmp 54) 39 rfl w7.heap.size 5 i0 (.int .u8 0) 1 Try.underlying39 hi hz0 hz1 hz2 rfl (.slice (some ⟨w7.heap.size, 0, none⟩) 0 0) 0 [] rfl ho1 _ Av np cv (u8s pb) rfl HUL.out (RV7.out.alloc _) HNV.out (u8s_one _) (by unfold maxLen; omega) (by omega) (by simp) ?_; intro v2 x2 ho2 hg2 _hne2; have HO2 := Lib.hid ho2; have HB2 := Lib.hid (below_own (B := w7.heap.size) ho1 hg2 (Nat.le_refl _) (by simp)); have HBX := Lib.hid (((Below.refl _ w7).alloc (Nat.le_refl _) (.cells #[] 5)).trans HB2.out); clear ho2 hg2 ho1 tok1 _t _hne2))
              | (at_builtin; go_must (refine app_own rfl (.tmp 55) (.tmp 56) 39 rfl w7.heap.size 5 i0 (.int .u8 0) 1 Try.underlying39 hi hz0 hz1 hz2 rfl v2 np (u8s pb) rfl (by have := HO2.out; rwa [Nat.zero_add, List.nil_append] at this) _ Ar nr cr (u8s rs) rfl HUL2.out (RR7.out.below (HBX.out.mono hB7)) HNOR.out (u8s_one _) (by unfold maxLen; omega) (by omega) (by have := HB2.out.size; simp at this ⊢; omega) ?_; intro v3 x3 ho3 hg3 _hne3; obtain ⟨A3, c3, rfl, -, -, -, -, -⟩ := own_form ho3; have HO3 := Lib.hid ho3; have HG3 := Lib.hid hg3; clear ho3 hg3 _hne3)))
            have ho3 := HO3.out
            rw [← u8s_append] at ho3
            obtain ⟨A3', c3', hv3, hnc3, hcm3, -, hrd3, hno3⟩ := own_form ho3
            injection hv3 with e1 _ e3
            subst e1 e3
            have hb : Below w7.heap.size w7 x3 := HBX.out.trans (below_own (B := w7.heap.size) (by have := HO2.out; rwa [Nat.zero_add, List.nil_append] at this) HG3.out (Nat.le_refl _) (by have := HB2.out.size; simp at this ⊢; omega))
            have D8 := Lib.hid (D7.out.below hb); have F8 := Lib.hid (F7.out.below hb); have B8 := Lib.hid (B7.out.trans (hb.mono B7.out.size)); have BW8 := Lib.hid (BW7.out.trans (hb.mono B7.out.size)); have Z8 := Lib.hid (Z7.out.below hb Z7.out.lt)
            have RT := Lib.hid hrd3; have HNT := Lib.hid hno3
            have HPL : Hid ((pb ++ rs).length = np + nr) := Lib.hid (by rw [List.length_append, HNP.out, HNR.out])
            have HP256 : Hid (∀ b ∈ pb ++ rs, b < 256) := Lib.hid (fun b hb => by rcases List.mem_append.1 hb with h | h; exact HPB.out b h; exact H256.out b h)
            clear ho3 hrd3 hno3 hb HO2 HB2 HBX HO3 HG3 RV7 RR7 RV HNV
            refine (CTake_at x3 f U ks e c A3 (np + nr) c3 (pb ++ rs) F8.out RT.out HP256.out HPL.out (by omega) hnc3 hcm3 HNT.out o s x y z l np 0 nw k2 e2 c2 HTK.out HNW.out).mono ?_
            rintro en w9 ⟨Rt, Ct, U9, rfl, ho, hd, hT⟩
            have F9 := Lib.hid hd; have D9 := Lib.hid (D8.out.only hT.2 X6.out.symm); have X9 := Lib.hid (X6.out.symm.turn hT D8.out.lt).symm; have AU9 := Lib.hid (hT.1.above B8.out.size AU.out); have B9 := Lib.hid (B8.out.trans (hT.2.to_below B8.out.size AU.out)); have BW9 := Lib.hid (BW8.out.trans (hT.2.to_below B8.out.size AU.out))
            have Z9 := Lib.hid (hT.2.blk Z8.out (F8.out.not_blk Z8.out (by decide) (by decide) (by decide)))
            have WT := Lib.hid (wr_of_own ho hT.2.size)
            clear ho hd hT
            have q1 := Z9.out.cell 1
            have q2 := Z9.out.cell 2
            have q3 := Z9.out.cell 3
            have q4 := Z9.out.cell 4
            have q5 := Z9.out.cell 5
            have q6 := Z9.out.cell 6
            simp at q1 q2 q3 q4 q5 q6
            have hzl := Z9.out.lt
            have hne : wr.heap.size ≠ w9.heap.size := by omega
            go_wp2_with fail
            generalize hW : w9.alloc (.cells #[.int .i64 o, .int .i64 s, .int .i64 x, .int .i64 y, .int .i64 z, .slice Rt nw Ct] 38) = w10
            have hb : Below w9.heap.size w9 w10 := by rw [← hW]; exact (Below.refl _ w9).alloc (Nat.le_refl _) _
            have D10 := Lib.hid (D9.out.below hb); have F10 := Lib.hid (F9.out.below hb); have B10 := Lib.hid (B9.out.trans (hb.mono B9.out.size)); have BW10 := Lib.hid (BW9.out.trans (hb.mono B9.out.size))
            have WT10 : Hid (WrR w10 w10.heap.size Rt l) := Lib.hid (WrR.step WT.out hb)
            have W10 : Hid (WrR w10 w10.heap.size At l) := Lib.hid (StR.more (WrR.below HWR.out BW10.out) B10.out.size)
            clear hb hW q1 q2 q3 q4 q5 q6
            refine (RTSame_any w10 o s x y z o s x y z l l Rt At nw Ct nw ct WT10.out W10.out HNW.out HNW.out (by omega) (by omega)).mono ?_
            rintro en w11 ⟨rfl, hb⟩
            rw [sameB_self]
            have D11 := Lib.hid (D10.out.below hb); have F11 := Lib.hid (F10.out.below hb); have B11 := Lib.hid (B10.out.trans (hb.mono B10.out.size))
            clear hb
            have qe : ∀ w, (Op.equalIn 10000 29 (.agg #[.int .i64 c2.1, .int .i64 c2.2.1, .int .i64 c2.2.2]) (.agg #[.int .i64 c2.1, .int .i64 c2.2.1, .int .i64 c2.2.2])).run Try.prog w = .ok true w := fun w => by rw [eqc_in]; simp [eqcB]
            go_wp2_with fail
            refine (CClock_any w11 g _ _ _ c2 D11.out).mono ?_
            rintro en w12 ⟨rfl, hb⟩
            have D12 := Lib.hid (D11.out.below hb); have F12 := Lib.hid (F11.out.below hb); have B12 := Lib.hid (B11.out.trans (hb.mono B11.out.size))
            clear hb
            go_wp2_with fail
            refine (CClock_any w12 f _ _ _ c2 F12.out).mono ?_
            rintro en w13 ⟨rfl, hb⟩
            have R := Lib.hid (show BkRel w g f len (.int .i64 ((k : Int) + 1)) w13 from ⟨k + 1, S6, U9, k2, e2, c2, by go_num, HLT.out, D12.out.below hb, F12.out.below hb, X9.out, AS6.out, AU9.out, B12.out.trans (hb.mono B12.out.size)⟩)
            clear hb
            go_wp2
            go_roundw
            case rel => exact R.out
            case measure => simp [intOf]; have := HLT.out; omega
          · have hput : Tm.put ks e c (o, s, (x, y, z), l) = (([], ck), (ks, e, c)) := by
              unfold Tm.put
              rw [hck, if_pos hc0]
            have HPUT := Lib.hid hput
            clear hput hck
            refine (CPut_at w4 g S ks e c o s x y z l At nw ct D5.out W5.out HAP.out HNW.out (by omega) [] ck 0 ks e c HPUT.out rfl).mono ?_
            rintro en w6 ⟨v, S6, rfl, hm, hfr, hd, hT⟩
            obtain ⟨Av, cv, rfl, -⟩ := id hm
            have D6 := Lib.hid hd; have F6 := Lib.hid (F5.out.only hT.2 X4.out); have X6 := Lib.hid (X4.out.turn hT F5.out.lt); have AS6 := Lib.hid (hT.1.above B5.out.size AS.out); have B6 := Lib.hid (B5.out.trans (hT.2.to_below B5.out.size AS.out))
            have Z6 := Lib.hid (hT.2.blk Z4.out (D5.out.not_blk Z4.out (by decide) (by decide) (by decide)))
            have BW6 := Lib.hid (BW5.out.trans (hT.2.to_below B5.out.size AS.out))
            clear hm hfr hd hT
            have W6 : Hid (WrR w6 w6.heap.size At l) := Lib.hid (StR.more (WrR.below HWR.out BW6.out) B6.out.size)
            have q1 := Z6.out.cell 1
            have q2 := Z6.out.cell 2
            have q3 := Z6.out.cell 3
            have q4 := Z6.out.cell 4
            have q5 := Z6.out.cell 5
            have q6 := Z6.out.cell 6
            simp at q1 q2 q3 q4 q5 q6
            have hcI : (ck : Int) ≠ 0 := by omega
            go_wp2_with fail
            refine (check_at w6 o s x y z l At nw ct ck W6.out HNW.out (by omega) HCK.out).mono ?_
            rintro en w7 ⟨rfl, hb⟩
            have R := Lib.hid (show BkRel w g f len (.int .i64 ((k : Int) + 1)) w7 from ⟨k + 1, S6, U, ks, e, c, by go_num, HLT.out, D6.out.below hb, F6.out.below hb, X6.out, AS6.out, AU.out, B6.out.trans (hb.mono B6.out.size)⟩)
            clear hb q1 q2 q3 q4 q5 q6
            go_wp2
            go_roundw
            case rel => exact R.out
            case measure => simp [intOf]; have := HLT.out; omega
        · obtain rfl : k = len := by omega
          have HP := Lib.hid (show TrueP w (.returned (.bool true)) wr from ⟨rfl, HB.out⟩)
          clear hd hf hap hS hU hbel
          go_wp2
          go_ret
          exact HP.out
end Go.Proofs.Ytgjkeccopjgjlaa
/- law 6's TxnCanonical: the walk. -/
namespace Go.Proofs.Ytgjkeccopjgjlaa
open Go.ChangeShapes Go.WideShapes Go.ChangeAt Go.RowKit Go.Maps
set_option linter.unusedVariables false
set_option linter.unusedSimpArgs false

theorem Blk.eight {w : World} {g : Nat} {t : TypeId} {a b c d e f p q : Value} (h : Blk w g t #[a, b, c, d, e, f, p, q]) : w.cell? ⟨g, 1, none⟩ = some b ∧ w.cell? ⟨g, 2, none⟩ = some c ∧ w.cell? ⟨g, 3, none⟩ = some d ∧ w.cell? ⟨g, 4, none⟩ = some e ∧ w.cell? ⟨g, 5, none⟩ = some f ∧ w.cell? ⟨g, 6, none⟩ = some p ∧ w.cell? ⟨g, 7, none⟩ = some q :=
  ⟨h.cell 1, h.cell 2, h.cell 3, h.cell 4, h.cell 5, h.cell 6, h.cell 7⟩
theorem CodM.eqv {w : World} {g : Nat} {S : Nat → Prop} {ks ks' : List ByteArray} {e e' : Nat} {c c' : Tri3} (h : CodM w g S ks e c) (h2 : (ks, e, c) = (ks', e', c')) : CodM w g S ks' e' c' := by
  injection h2 with e1 h2
  injection h2 with e2 e3
  subst e1 e2 e3
  exact h
set_option maxRecDepth 100000 in
set_option maxHeartbeats 12000000 in
theorem TxnCanonical_walk (w : World) (A : Option Addr) (len cap : Nat) (ys : List ActT) (hn : ys.length = len) (hlc : len ≤ cap) (hcm : cap ≤ maxLen) (hr : Acts6 w w.heap.size A ys) :
    Calls Try.prog 5 #[.slice A len cap] w (TrueP w) := by
  have HN := Lib.hid hn; have HLC := Lib.hid hlc; have HCM := Lib.hid hcm; have HR := Lib.hid hr
  have hcm' : cap ≤ 9223372036854775807 := hcm
  clear hn hr hcm
  go_enter Try.func5, Try.ntmps5
  go_wp2_with fail
  refine (awake6_any w).mono ?_
  rintro en w1 ⟨rfl, hb1⟩
  have B1 := Lib.hid hb1; clear hb1
  go_wp2_with fail
  refine (large6_any w1 A len cap ys (Acts6.step HR.out B1.out) HN.out HLC.out HCM.out).mono ?_
  rintro en w2 ⟨⟨lb, rfl, hfine⟩, hb2⟩
  have B2 := Lib.hid (B1.out.trans (hb2.mono B1.out.size)); have HFI := Lib.hid hfine
  clear hb2 hfine
  cases lb with
  | true =>
    have HP := Lib.hid (show TrueP w (.returned (.bool true)) w2 from ⟨rfl, B2.out⟩)
    go_wp2
    go_ret
    exact HP.out
  | false =>
    obtain ⟨h30, hsh⟩ := HFI.out rfl
    have HSH := Lib.hid hsh
    have hl30 : len ≤ 30 := by rw [← HN.out]; exact h30
    clear hsh HFI h30
    go_wp2_with fail
    refine (CNew_any w2).mono ?_
    rintro en w3 ⟨g, S3, rfl, hd, hS, hb⟩
    have D3 := Lib.hid hd; have A3 := Lib.hid (fun j hj => Nat.le_trans B2.out.size (hS j hj)); have B3 := Lib.hid (B2.out.trans (hb.mono B2.out.size))
    clear hd hS hb
    go_wp2_with fail
    refine (CNew_any w3).mono ?_
    rintro en w4 ⟨f, U4, rfl, hd, hS, hb⟩
    have START := Lib.hid (show BkRel w g f len (.int .i64 0) w4 from ⟨0, S3, U4, [], 0, (0, 0, 0), rfl, Nat.zero_le _, D3.out.below hb, hd, fun j h1 h2 => by have := D3.out.lt j h1; have := hS j h2; omega, A3.out, fun j hj => Nat.le_trans B3.out.size (hS j hj), B3.out.trans (hb.mono B3.out.size)⟩)
    clear hd hS hb D3 A3 B3
    go_wp2
    go_loopw [27] (fun s27 wr => BkRel w g f len s27 wr) (fun s27 _ => len - (intOf s27).toNat)
    case atStart => exact START.out
    case round =>
      clear START
      obtain ⟨k, S, U, ks, e, ⟨c0, c1, c2⟩, rfl, hk, hd, hf, hap, hS, hU, hbel⟩ := hrel
      have HB := Lib.hid hbel
      by_cases hlt : k < len
      · obtain ⟨ga, o', d, ao, aq, ax, ay, az, al, bs, At, ct, Ab, cb, rfl, hga, hp, ⟨d0, d1, d2, d3, d4, d5, d6, d7⟩, -, hrb, hbc, hbm, hbn, hb256, -⟩ := Acts6.row (Acts6.below HR.out hbel) (k := k) (by rw [HN.out]; exact hlt)
        have hgw : ga < wr.heap.size := World.block_lt_of_cell? _ _ d0
        have hltI : (k : Int) < (len : Int) := by omega
        have hfa := HSH.out k _ hp
        have hl9 : bs.length ≤ 9000 := hfa.2
        obtain ⟨nw, hnw⟩ : ∃ q, al.length = q := ⟨_, rfl⟩
        obtain ⟨nb, hnb⟩ : ∃ q, bs.length = q := ⟨_, rfl⟩
        rw [hnw] at d6; rw [hnb] at d7 hl9 hbc
        have HNB := Lib.hid hnb; have HRB := Lib.hid hrb; have H256 := Lib.hid hb256; have HBN := Lib.hid hbn; have HBM := Lib.hid hbm
        have D4 := Lib.hid hd; have F4 := Lib.hid hf; have X4 := Lib.hid hap; have AS := Lib.hid hS; have AU := Lib.hid hU; have HLT := Lib.hid hlt
        clear hd hf hap hS hU hbel hp hfa hnw hnb hrb hb256 hbn hbm
        go_wp2_with fail
        generalize hW : wr.alloc (.cells #[.int .i64 d, .int .i64 ao, .int .i64 aq, .int .i64 ax, .int .i64 ay, .int .i64 az, .slice At nw ct, .slice Ab nb cb] 41) = w4
        have hb : Below wr.heap.size wr w4 := by rw [← hW]; exact (Below.refl _ wr).alloc (Nat.le_refl _) _
        have Z4 : Hid (Blk w4 wr.heap.size 41 #[.int .i64 d, .int .i64 ao, .int .i64 aq, .int .i64 ax, .int .i64 ay, .int .i64 az, .slice At nw ct, .slice Ab nb cb]) := Lib.hid (by rw [← hW]; exact Blk.new wr _ _)
        have D5 := Lib.hid (D4.out.below hb); have F5 := Lib.hid (F4.out.below hb); have B5 := Lib.hid (HB.out.trans (hb.mono HB.out.size)); have BW5 : Hid (Below w.heap.size wr w4) := Lib.hid (hb.mono HB.out.size)
        clear hb hW D4 F4 d0 d1 d2 d3 d4 d5 d6 d7
        refine (CClock_any w4 g _ _ _ (c0, c1, c2) D5.out).mono ?_
        rintro en w5 ⟨rfl, hb⟩
        have D6 := Lib.hid (D5.out.below hb); have F6 := Lib.hid (F5.out.below hb); have B6 := Lib.hid (B5.out.trans (hb.mono B5.out.size)); have BW6 := Lib.hid (BW5.out.trans (hb.mono B5.out.size)); have Z6 := Lib.hid (Z4.out.below hb Z4.out.lt)
        clear hb
        obtain ⟨q1, q2, q3, q4, q5, q6, q7⟩ := Z6.out.eight
        have hzl := Z6.out.lt
        have hne : wr.heap.size ≠ w5.heap.size := by omega
        go_wp2_with fail
        clear q1 q2 q3 q4 q5 q6 q7
        generalize hW : w5.alloc (.cells #[.int .i64 c0, .int .i64 c1, .int .i64 c2] 29) = w6
        have hb : Below w5.heap.size w5 w6 := by rw [← hW]; exact (Below.refl _ w5).alloc (Nat.le_refl _) _
        have K7 : Hid (Blk w6 w5.heap.size 29 #[.int .i64 c0, .int .i64 c1, .int .i64 c2]) := Lib.hid (by rw [← hW]; exact Blk.new w5 _ _)
        have D7 := Lib.hid (D6.out.below hb); have F7 := Lib.hid (F6.out.below hb); have B7 := Lib.hid (B6.out.trans (hb.mono B6.out.size)); have BW7 := Lib.hid (BW6.out.trans (hb.mono B6.out.size)); have Z7 := Lib.hid (Z6.out.below hb Z6.out.lt)
        have hsz6 : w5.heap.size < w6.heap.size := K7.out.lt
        clear hb hW
        have RB7 : Hid (Rd w6 w6.heap.size Ab (u8s bs)) := Lib.hid ((HRB.out.below BW7.out).more B7.out.size)
        obtain ⟨⟨⟨⟨o, s, ⟨x, y, z⟩, l⟩, n, fl⟩, ⟨k2, e2, c2'⟩⟩, htk⟩ : ∃ r, Tm.takeT ks e (c0, c1, c2) bs = r := ⟨_, rfl⟩
        have HTK := Lib.hid htk
        obtain ⟨nl, hnl⟩ : ∃ q, l.length = q := ⟨_, rfl⟩
        have HNL := Lib.hid hnl
        clear htk hnl
        refine (CTake_at w6 g S ks e (c0, c1, c2) Ab nb cb bs D7.out RB7.out H256.out HNB.out (by omega) hbc HBM.out HBN.out o s x y z l n fl nl k2 e2 c2' HTK.out HNL.out).mono ?_
        rintro en w7 ⟨Rt, Ct, S8, rfl, ho, hd, hT⟩
        have D8 := Lib.hid hd; have F8 := Lib.hid (F7.out.only hT.2 X4.out); have X8 := Lib.hid (X4.out.turn hT F7.out.lt); have AS8 := Lib.hid (hT.1.above B7.out.size AS.out); have B8 := Lib.hid (B7.out.trans (hT.2.to_below B7.out.size AS.out)); have BW8 := Lib.hid (BW7.out.trans (hT.2.to_below B7.out.size AS.out))
        have Z8 := Lib.hid (hT.2.blk Z7.out (D7.out.not_blk Z7.out (by decide) (by decide) (by decide)))
        have K8 := Lib.hid (hT.2.blk K7.out (D7.out.not_blk K7.out (by decide) (by decide) (by decide)))
        have HO := Lib.hid ho
        have WT := Lib.hid (wr_of_own ho hT.2.size)
        have hsz7 : w6.heap.size ≤ w7.heap.size := hT.2.size
        clear ho hd hT
        by_cases hf0 : fl = 0
        · subst hf0
          have hok := D7.out.ok
          obtain ⟨hck, hn1, hn2, hput⟩ := Tm.takeT_back HTK.out hok.1 H256.out
          rw [HNB.out] at hn2
          have hl16 : nl ≤ 16 := by have := (Tm.check_ok hck).2.2.2.2.2.2.1; simp only at this; rw [HNL.out] at this; exact this
          have HCK := Lib.hid hck; have HPUT := Lib.hid hput
          have HTL : Hid ((bs.take n).length = n) := Lib.hid (by rw [List.length_take, HNB.out]; omega)
          clear hok hck hput
          have hzl8 := Z8.out.lt
          have hkl8 := K8.out.lt
          have hnez : wr.heap.size ≠ w7.heap.size := by omega
          go_wp2_with fail
          generalize hW : w7.alloc (.cells #[.int .i64 o, .int .i64 s, .int .i64 x, .int .i64 y, .int .i64 z, .slice Rt nl Ct] 38) = w8
          have hb : Below w7.heap.size w7 w8 := by rw [← hW]; exact (Below.refl _ w7).alloc (Nat.le_refl _) _
          have T9 : Hid (Blk w8 w7.heap.size 38 #[.int .i64 o, .int .i64 s, .int .i64 x, .int .i64 y, .int .i64 z, .slice Rt nl Ct]) := Lib.hid (by rw [← hW]; exact Blk.new w7 _ _)
          have D9 := Lib.hid (D8.out.below hb); have F9 := Lib.hid (F8.out.below hb); have B9 := Lib.hid (B8.out.trans (hb.mono B8.out.size)); have BW9 := Lib.hid (BW8.out.trans (hb.mono B8.out.size)); have Z9 := Lib.hid (Z8.out.below hb Z8.out.lt)
          have WT9 : Hid (WrR w8 w8.heap.size Rt l) := Lib.hid (WrR.step WT.out hb)
          have HO9 := Lib.hid (own_below HO.out hb)
          clear hb hW
          have HAP : Hid (∀ g' o', Rt = some ⟨g', o', none⟩ → l ≠ [] → ¬ U g') := Lib.hid (fun g' o' hA _ => F9.out.not_own HO9.out (by decide) (by decide) (by decide) g' (by rw [hA]; rfl))
          refine (CPut_at w8 f U ks e (c0, c1, c2) o s x y z l Rt nl Ct F9.out WT9.out HAP.out HNL.out (by omega) (bs.take n) 0 n k2 e2 c2' HPUT.out HTL.out).mono ?_
          rintro en w9 ⟨v, U9, rfl, hm, hfr, hd, hT⟩
          obtain ⟨Av, cv, rfl, -⟩ := id hm
          have RV := Lib.hid hm.rd_of6.1
          have F10 := Lib.hid hd; have D10 := Lib.hid (D9.out.only hT.2 X8.out.symm); have X10 := Lib.hid (X8.out.symm.turn hT D9.out.lt).symm; have AU10 := Lib.hid (hT.1.above B9.out.size AU.out); have B10 := Lib.hid (B9.out.trans (hT.2.to_below B9.out.size AU.out)); have BW10 := Lib.hid (BW9.out.trans (hT.2.to_below B9.out.size AU.out))
          have Z10 := Lib.hid (hT.2.blk Z9.out (F9.out.not_blk Z9.out (by decide) (by decide) (by decide)))
          have T10 := Lib.hid (hT.2.blk T9.out (F9.out.not_blk T9.out (by decide) (by decide) (by decide)))
          have HO10 := Lib.hid (hT.2.own HO9.out (F9.out.not_own HO9.out (by decide) (by decide) (by decide)))
          have hsz10 := hT.2.size
          clear hm hfr hd hT
          have hb0 := B10.out.size
          have hsz8 : w7.heap.size < w8.heap.size := T9.out.lt
          obtain ⟨q1, q2, q3, q4, q5, q6, q7⟩ := Z10.out.eight
          obtain ⟨t0, t1, t2, t3, t4, t5⟩ := T10.out.six
          obtain ⟨AP, p1, p2, -⟩ := slice_h (P := Try.prog) 39 5 Try.underlying39 sizeOfU8 Ab nb cb n (n : Int) rfl (by omega)
          have RP : Hid (Rd w9 w9.heap.size AP (u8s (bs.take n))) := Lib.hid (by
            have h := p2 w9 w9.heap.size (u8s bs) (by rw [u8s_length, HNB.out]; exact hn2) ((HRB.out.below BW10.out).more hb0)
            rw [show (u8s bs).take n = u8s (bs.take n) by simp [u8s, List.map_take]] at h
            exact h)
          have hn1I : ¬ (n : Int) < 1 := by omega
          have hn2I : ¬ (nb : Int) < (n : Int) := by omega
          clear p2
          go_wp2_with fail
          refine (same_at w9 Av AP cv cb (bs.take n) (bs.take n) _ _ n n true RV.out RP.out (by rw [HTL.out]; unfold maxLen; omega) HTL.out HTL.out (by simp)).mono ?_
          rintro en w10 ⟨rfl, q, hq⟩
          have hb : Below w9.heap.size w9 w10 := by rw [hq]; exact below_drewN (Below.refl _ _) q
          clear hq q1 q2 q3 q4 q5 q6 q7 t0 t1 t2 t3 t4 t5 p1
          have D11 := Lib.hid (D10.out.below hb); have F11 := Lib.hid (F10.out.below hb); have B11 := Lib.hid (B10.out.trans (hb.mono B10.out.size)); have T11 := Lib.hid (T10.out.below hb T10.out.lt)
          have WT11 : Hid (WrR w10 w10.heap.size Rt l) := Lib.hid (wr_of_own (own_below HO10.out hb) (by have := hb.size; omega))
          clear hb
          obtain ⟨t0, t1, t2, t3, t4, t5⟩ := T11.out.six
          go_wp2_with fail
          refine (check_at w10 o s x y z l Rt nl Ct 0 WT11.out HNL.out (by omega) HCK.out).mono ?_
          rintro en w11 ⟨rfl, hb⟩
          clear t0 t1 t2 t3 t4 t5
          have D12 := Lib.hid (D11.out.below hb); have F12 := Lib.hid (F11.out.below hb); have B12 := Lib.hid (B11.out.trans (hb.mono B11.out.size))
          clear hb
          have qe : ∀ w, (Op.equalIn 10000 29 (.agg #[.int .i64 c2'.1, .int .i64 c2'.2.1, .int .i64 c2'.2.2]) (.agg #[.int .i64 c2'.1, .int .i64 c2'.2.1, .int .i64 c2'.2.2])).run Try.prog w = .ok true w := fun w => by rw [eqc_in]; simp [eqcB]
          go_wp2_with fail
          refine (CClock_any w11 f _ _ _ c2' F12.out).mono ?_
          rintro en w12 ⟨rfl, hb⟩
          have D13 := Lib.hid (D12.out.below hb); have F13 := Lib.hid (F12.out.below hb); have B13 := Lib.hid (B12.out.trans (hb.mono B12.out.size))
          clear hb
          go_wp2_with fail
          refine (CClock_any w12 g _ _ _ c2' D13.out).mono ?_
          rintro en w13 ⟨rfl, hb⟩
          have R := Lib.hid (show BkRel w g f len (.int .i64 ((k : Int) + 1)) w13 from ⟨k + 1, S8, U9, k2, e2, c2', by go_num, HLT.out, D13.out.below hb, F13.out.below hb, X10.out, AS8.out, AU10.out, B13.out.trans (hb.mono B13.out.size)⟩)
          clear hb
          go_wp2
          go_roundw
          case rel => exact R.out
          case measure => simp [intOf]; have := HLT.out; omega
        · obtain ⟨ht0, hn0, hst⟩ := Tm.takeT_err HTK.out hf0
          have hl0 : l = [] := by have h := congrArg (fun t : Txn => t.2.2.2) ht0; exact h
          have hnl0 : nl = 0 := by have := HNL.out; rw [hl0] at this; exact this.symm
          subst hn0 hnl0
          have D8' := Lib.hid (D8.out.eqv hst)
          clear ht0 hst hl0
          have hfI : (fl : Int) ≠ 0 := by omega
          have hkl8 := K8.out.lt
          have hnek : w5.heap.size ≠ w7.heap.size := by omega
          go_wp2
          generalize hW : w7.alloc (.cells #[.int .i64 o, .int .i64 s, .int .i64 x, .int .i64 y, .int .i64 z, .slice Rt 0 Ct] 38) = w8
          have hb : Below w7.heap.size w7 w8 := by rw [← hW]; exact (Below.refl _ w7).alloc (Nat.le_refl _) _
          have T9 : Hid (Blk w8 w7.heap.size 38 #[.int .i64 o, .int .i64 s, .int .i64 x, .int .i64 y, .int .i64 z, .slice Rt 0 Ct]) := Lib.hid (by rw [← hW]; exact Blk.new w7 _ _)
          have D9 := Lib.hid (D8'.out.below hb); have F9 := Lib.hid (F8.out.below hb); have B9 := Lib.hid (B8.out.trans (hb.mono B8.out.size)); have K9 := Lib.hid (K8.out.below hb K8.out.lt)
          clear hb hW
          refine Inv.region_below (fun i v w' => match i with
              | 0 => v = .pointer (some ⟨g, 0, none⟩)
              | 1 => v = .agg #[.int .i64 c0, .int .i64 c1, .int .i64 c2]
              | 2 => v = .agg #[.int .i64 c0, .int .i64 c1, .int .i64 c2]
              | 3 => v = .bool false
              | 4 => v = .bool false
              | 5 => v = .int .i64 0
              | 6 => v = .bool false
              | 7 => v = .bool false
              | 8 => v = .bool false
              | 9 => v = .pointer (some ⟨w7.heap.size, 5, none⟩)
              | 10 => v = .slice Rt 0 Ct
              | 11 => v = .int .i64 0
              | 12 => v = .bool false
              | 13 => v = .bool false
              | _ => True)
            (fun w' => Below w8.heap.size w8 w' ∧ True) 98 [43, 44, 45, 46, 47, 48, 49, 50, 51, 52, 53, 54, 55, 56] (by kernel_rfl) rfl (by kernel_rfl) (by kernel_rfl) ?_ ?_ ?_ ?_
          · intro v v' hC hb
            obtain ⟨hB, -⟩ := hC
            exact ⟨hB.trans (hb.mono hB.size), trivial⟩
          · exact ⟨(Below.refl _ _).drew, trivial⟩
          · refine ⟨⟨fun _ _ _ h _ => h, ?_⟩, ⟨fun _ _ _ h _ => h, ?_⟩, ⟨fun _ _ _ h _ => h, ?_⟩, ⟨fun _ _ _ h _ => h, ?_⟩, ⟨fun _ _ _ h _ => h, ?_⟩, ⟨fun _ _ _ h _ => h, ?_⟩, ⟨fun _ _ _ h _ => h, ?_⟩, ⟨fun _ _ _ h _ => h, ?_⟩, ⟨fun _ _ _ h _ => h, ?_⟩, ⟨fun _ _ _ h _ => h, ?_⟩, ⟨fun _ _ _ h _ => h, ?_⟩, ⟨fun _ _ _ h _ => h, ?_⟩, ⟨fun _ _ _ h _ => h, ?_⟩, ⟨fun _ _ _ h _ => h, ?_⟩, trivial⟩
            · intro act wa hC hd H O K hK
              clear hd
              obtain ⟨hB, -⟩ := hC
              have h3 := O 3 (by kernel_rfl)
              have g3 := Array.getD_eq_getD_getElem?.symm.trans h3
              clear H O
              go_simp
              exact hK _ _ (Below.refl _ _) (fun _ => rfl)
            · intro act wa hC hd H O K hK
              clear hd
              obtain ⟨hB, -⟩ := hC
              have h43 : act.tmps.getD 43 undef = .pointer (some ⟨g, 0, none⟩) := H 1 0 43 (by kernel_rfl) rfl
              have g43 := Array.getD_eq_getD_getElem?.symm.trans h43
              clear H O
              go_simp
              refine (CClock_any wa g _ _ _ (c0, c1, c2) (D9.out.below hB)).mono ?_
              rintro e w1 ⟨rfl, hb⟩
              exact hK _ _ hb (fun _ => rfl)
            · intro act wa hC hd H O K hK
              clear hd
              obtain ⟨hB, -⟩ := hC
              have h7 := O 7 (by kernel_rfl)
              have g7 := Array.getD_eq_getD_getElem?.symm.trans h7
              clear H O
              obtain ⟨xa, xb, xc, -⟩ := Blk.three (K9.out.below hB K9.out.lt)
              have xl := (K9.out.below hB K9.out.lt).lt
              go_simp
              exact hK _ _ (Below.refl _ _) (fun _ => rfl)
            · intro act wa hC hd H O K hK
              clear hd
              obtain ⟨hB, -⟩ := hC
              have h44 : act.tmps.getD 44 undef = .agg #[.int .i64 c0, .int .i64 c1, .int .i64 c2] := H 1 1 44 (by kernel_rfl) rfl
              have g44 := Array.getD_eq_getD_getElem?.symm.trans h44
              have h45 : act.tmps.getD 45 undef = .agg #[.int .i64 c0, .int .i64 c1, .int .i64 c2] := H 1 2 45 (by kernel_rfl) rfl
              have g45 := Array.getD_eq_getD_getElem?.symm.trans h45
              clear H O
              have qe : (Op.equalIn 10000 29 (.agg #[.int .i64 c0, .int .i64 c1, .int .i64 c2]) (.agg #[.int .i64 c0, .int .i64 c1, .int .i64 c2])).run Try.prog wa = .ok true wa := by rw [eqc_in]; simp [eqcB]
              go_simp
              exact hK _ _ (Below.refl _ _) (fun _ => rfl)
            · intro act wa hC hd H O K hK
              clear hd
              obtain ⟨hB, -⟩ := hC
              have h46 : act.tmps.getD 46 undef = .bool false := H 1 3 46 (by kernel_rfl) rfl
              have g46 := Array.getD_eq_getD_getElem?.symm.trans h46
              clear H O
              go_simp
              exact hK _ _ (Below.refl _ _) (fun _ => rfl)
            · intro act wa hC hd H O K hK
              clear hd
              obtain ⟨hB, -⟩ := hC
              have h9 := O 9 (by kernel_rfl)
              have g9 := Array.getD_eq_getD_getElem?.symm.trans h9
              have h47 : act.tmps.getD 47 undef = .bool false := H 1 4 47 (by kernel_rfl) rfl
              have g47 := Array.getD_eq_getD_getElem?.symm.trans h47
              have k47 := Inv.some_bool g47
              clear H O
              go_simp
              exact hK _ _ (Below.refl _ _) (fun _ => rfl)
            · intro act wa hC hd H O K hK
              clear hd
              obtain ⟨hB, -⟩ := hC
              have h48 : act.tmps.getD 48 undef = .int .i64 0 := H 1 5 48 (by kernel_rfl) rfl
              have g48 := Array.getD_eq_getD_getElem?.symm.trans h48
              have h47 : act.tmps.getD 47 undef = .bool false := H 1 4 47 (by kernel_rfl) rfl
              have g47 := Array.getD_eq_getD_getElem?.symm.trans h47
              have k47 := Inv.some_bool g47
              clear H O
              go_simp
              exact hK _ _ (Below.refl _ _) (fun _ => rfl)
            · intro act wa hC hd H O K hK
              clear hd
              obtain ⟨hB, -⟩ := hC
              have h47 : act.tmps.getD 47 undef = .bool false := H 1 4 47 (by kernel_rfl) rfl
              have g47 := Array.getD_eq_getD_getElem?.symm.trans h47
              have h49 : act.tmps.getD 49 undef = .bool false := H 1 6 49 (by kernel_rfl) rfl
              have g49 := Array.getD_eq_getD_getElem?.symm.trans h49
              clear H O
              go_simp
              exact hK _ _ (Below.refl _ _) (fun _ => rfl)
            · intro act wa hC hd H O K hK
              clear hd
              obtain ⟨hB, -⟩ := hC
              have h50 : act.tmps.getD 50 undef = .bool false := H 1 7 50 (by kernel_rfl) rfl
              have g50 := Array.getD_eq_getD_getElem?.symm.trans h50
              clear H O
              go_simp
              exact hK _ _ (Below.refl _ _) (fun _ => rfl)
            · intro act wa hC hd H O K hK
              clear hd
              obtain ⟨hB, -⟩ := hC
              have h8 := O 8 (by kernel_rfl)
              have g8 := Array.getD_eq_getD_getElem?.symm.trans h8
              have h51 : act.tmps.getD 51 undef = .bool false := H 1 8 51 (by kernel_rfl) rfl
              have g51 := Array.getD_eq_getD_getElem?.symm.trans h51
              have k51 := Inv.some_bool g51
              clear H O
              go_simp
              exact hK _ _ (Below.refl _ _) (fun _ => rfl)
            · intro act wa hC hd H O K hK
              clear hd
              obtain ⟨hB, -⟩ := hC
              have h52 : act.tmps.getD 52 undef = .pointer (some ⟨w7.heap.size, 5, none⟩) := H 1 9 52 (by kernel_rfl) rfl
              have g52 := Array.getD_eq_getD_getElem?.symm.trans h52
              have h51 : act.tmps.getD 51 undef = .bool false := H 1 8 51 (by kernel_rfl) rfl
              have g51 := Array.getD_eq_getD_getElem?.symm.trans h51
              have k51 := Inv.some_bool g51
              clear H O
              obtain ⟨xa, xb, xc, xd, xe, xf⟩ := (T9.out.below hB T9.out.lt).six
              have xl := (T9.out.below hB T9.out.lt).lt
              go_simp
              exact hK _ _ (Below.refl _ _) (fun _ => rfl)
            · intro act wa hC hd H O K hK
              clear hd
              obtain ⟨hB, -⟩ := hC
              have h53 : act.tmps.getD 53 undef = .slice Rt 0 Ct := H 1 10 53 (by kernel_rfl) rfl
              have g53 := Array.getD_eq_getD_getElem?.symm.trans h53
              have h51 : act.tmps.getD 51 undef = .bool false := H 1 8 51 (by kernel_rfl) rfl
              have g51 := Array.getD_eq_getD_getElem?.symm.trans h51
              have k51 := Inv.some_bool g51
              clear H O
              go_simp
              exact hK _ _ (Below.refl _ _) (fun _ => rfl)
            · intro act wa hC hd H O K hK
              clear hd
              obtain ⟨hB, -⟩ := hC
              have h54 : act.tmps.getD 54 undef = .int .i64 0 := H 1 11 54 (by kernel_rfl) rfl
              have g54 := Array.getD_eq_getD_getElem?.symm.trans h54
              have h51 : act.tmps.getD 51 undef = .bool false := H 1 8 51 (by kernel_rfl) rfl
              have g51 := Array.getD_eq_getD_getElem?.symm.trans h51
              have k51 := Inv.some_bool g51
              clear H O
              go_simp
              exact hK _ _ (Below.refl _ _) (fun _ => rfl)
            · intro act wa hC hd H O K hK
              clear hd
              obtain ⟨hB, -⟩ := hC
              have h51 : act.tmps.getD 51 undef = .bool false := H 1 8 51 (by kernel_rfl) rfl
              have g51 := Array.getD_eq_getD_getElem?.symm.trans h51
              have h55 : act.tmps.getD 55 undef = .bool false := H 1 12 55 (by kernel_rfl) rfl
              have g55 := Array.getD_eq_getD_getElem?.symm.trans h55
              clear H O
              go_simp
              exact hK _ _ (Below.refl _ _) (fun _ => rfl)
          · intro us w' hC hF
            obtain ⟨hB, -⟩ := hC
            have u56 : us 56 = .bool false := hF 13 56 rfl
            clear hF
            simp only [List.foldl]
            go_simp
            have e56 : us 56 = .bool false := u56
            have R := Lib.hid (show BkRel w g f len (.int .i64 ((k : Int) + 1)) w' from ⟨k + 1, S8, U, ks, e, (c0, c1, c2), by go_num, HLT.out, D9.out.below hB, F9.out.below hB, X8.out, AS8.out, AU.out, B9.out.trans (hB.mono B9.out.size)⟩)
            clear hB u56
            try rw [e56]
            go_wp2
            go_roundw
            case rel => exact R.out
            case measure => simp [intOf]; have := HLT.out; omega
      · obtain rfl : k = len := by omega
        have HP := Lib.hid (show TrueP w (.returned (.bool true)) wr from ⟨rfl, HB.out⟩)
        clear hd hf hap hS hU hbel
        go_wp2
        go_ret
        exact HP.out
end Go.Proofs.Ytgjkeccopjgjlaa
/- The statement 'TxnCanonical': for every input the law answers true, and its arguments read as they read before. The walk is in the texts that are imported. -/
namespace Go.Proofs.Ytgjkeccopjgjlaa.txnCanonical
open Go.ChangeShapes Go.WideShapes Go.ChangeAt Go.RowKit
open Go.ChangeMaps (open_string shut_string)
set_option linter.unusedVariables false

theorem own : ownKnob Try.prog.godebug = none := by kernel_rfl
theorem laidOut : laidOutB Try.prog = true := by kernel_rfl

set_option maxHeartbeats 1000000 in
set_option maxRecDepth 100000 in
theorem lifted (os : Os) (started : os.Started) (H : Type) (enc : TypeId × Value → H) :
    ReturnsInHanded {} Try.checked os 5 .any (Rows.txnCanonicalSpec.pre6 enc Try.prog Try.f5 Rows.txnCanonicalRow.domain false) (Rows.txnCanonicalSpec.post enc Try.prog Try.f5 false true false false) := by
  refine returnsInHanded_of_change (C := Try.checked) own started (by kernel_rfl) Try.func5
    (ChangeSpec.witness6 (enc := enc) (C := Try.checked) false ⟨#[], #[.slice none 0 0], []⟩ 8 (by kernel_rfl) (by kernel_rfl) (by kernel_rfl) (by kernel_rfl)) ?_
  intro W base args ds gs before hval0 hW hcnd _
  have hval : ∀ (j : Nat) t v, Try.f5.params[j]? = some t → args[j]? = some v → Value.okWide Try.prog W .any base t v := hval0
  have hW' := hW
  obtain ⟨p, q, hA0, hV, rfl, hfz, hnd⟩ := hW
  have hA : DataW.TrodAll enc Try.prog W 0 (fun _ => true) true Try.f5.params.toList args.toList ds p := hA0
  rw [Try.params5] at hA hval
  obtain ⟨v0, vs0, d0, ds0, p0, q0, hargs, rfl, rfl, h0, r0⟩ := trodAll_cons hA
  obtain ⟨rfl, rfl, rfl⟩ := trodAll_nil r0
  obtain rfl : args = #[v0] := by cases args; simp_all
  obtain ⟨rfl, rfl⟩ := trodVars_none hV
  have k0 := h0
  have lt0 : ∀ x ∈ p0, x.block < W.heap.size := by obtain ⟨m, hm⟩ := k0; exact DataW.trod_lt m _ _ _ hm
  obtain ⟨a0, len0, cap0, rfl⟩ := okWide_slice Try.underlying22 (hval 0 22 v0 rfl rfl)
  obtain ⟨cs0, hl0, hlc0, hcm0, hr0⟩ := open_acts6 h0
  clear hA0 hval0
  refine (TxnCanonical_walk W a0 len0 cap0 cs0 hl0 hlc0 hcm0 hr0).mono fun e W' ⟨he, bel⟩ => ?_
  subst he
  exact ⟨_, rfl, _, _, _, [], _, [], hW', trodAll_mk1 (shut_bool Try.underlying4 _), (trodAll_cons_mk (Below.trod laidOut (by kernel_rfl) (of_decide_eq_true (by kernel_rfl)) k0 bel lt0) trodAll_mk0), rfl, bel.frame _, fun h => by cases h⟩

theorem over : Rows.txnCanonicalRow.holds Try.pinned (OpenSpec.ofChange Rows.txnCanonicalSpec) :=
  OpenClaim.holds_of_wide 5 Try.f5 rfl rfl rfl rfl rfl rfl rfl ⟨rfl, rfl, rfl, rfl, rfl⟩ rfl rfl rfl rfl rfl (by kernel_rfl) Try.func5 (by kernel_rfl)
    (of_decide_eq_true (by kernel_rfl)) (by unfold Func.isWrapper; first | (rw [if_pos (by decide +kernel)]; kernel_rfl) | (rw [if_neg (by decide +kernel)]; exact ⟨rfl, rfl⟩))
    (fun os started H enc _ => lifted os started H enc)

theorem proved : Rows.TxnCanonicalSaid := over
#print axioms proved
end Go.Proofs.Ytgjkeccopjgjlaa.txnCanonical
