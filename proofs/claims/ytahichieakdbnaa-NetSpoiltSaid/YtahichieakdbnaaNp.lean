/- law 21's NetSpoilt: the walk. -/
import Derived.Test.YtahichieakdbnaaNs
namespace Go.Proofs.Ytahichieakdbnaa
open Go.ChangeShapes Go.WideShapes Go.ChangeAt Go.RowKit Go.Maps
set_option linter.unusedVariables false
set_option linter.unusedSimpArgs false

def TRS (w : World) (g len : Nat) (s4 s5 s31 : Value) (wr : World) : Prop :=
  ∃ (k : Nat) (S : Nat → Prop) (row : List Snt) (sl cl : List Let), s31 = .int .i64 (k : Int) ∧ k ≤ len ∧ NS wr g w.heap.size S s4 s5 cl sl row ∧ s4 ≠ .slice none 0 0 ∧ FacS row sl cl ∧ (∀ y ∈ sl, y.2.length ≤ 300) ∧ sl.length ≤ k ∧ cl.length ≤ 60 * k ∧ Below w.heap.size w wr
set_option maxRecDepth 100000 in
set_option maxHeartbeats 6000000 in
theorem NetSpoilt_walk (w : World) (A : Option Addr) (len cap : Nat) (ys : List ActN) (hn : ys.length = len) (hlc : len ≤ cap) (hcm : cap ≤ maxLen) (hr : ActsN w w.heap.size A ys) :
    Calls Try.prog 11 #[.slice A len cap] w (TrueN w) := by
  obtain ⟨i0, hi, hz0, hz1, hz2⟩ := info_parts infoRLet
  obtain ⟨j0, hj, hy0, hy1, hy2⟩ := info_parts infoLet
  have HN := Lib.hid hn; have HLC0 := Lib.hid hlc; have HCM := Lib.hid hcm; have HR := Lib.hid hr
  have hcm' : cap ≤ 9223372036854775807 := hcm
  clear hn hr hcm
  go_enter Try.func11, Try.ntmps11
  go_wp2_with fail
  refine (awake21_any w).mono ?_
  rintro en w1 ⟨rfl, hb1⟩
  have B1 := Lib.hid hb1; clear hb1
  go_wp2_with fail
  refine (large21_any w1 A len cap ys (ActsN.step HR.out B1.out) HN.out HLC0.out HCM.out).mono ?_
  rintro en w2 ⟨⟨lb, rfl, hfine⟩, hb2⟩
  have B2 := Lib.hid (B1.out.trans (hb2.mono B1.out.size)); have HFI := Lib.hid hfine
  clear hb2 hfine
  cases lb with
  | true =>
    have HP := Lib.hid (show TrueN w (.returned (.bool true)) w2 from ⟨rfl, B2.out⟩)
    go_wp2
    go_ret
    exact HP.out
  | false =>
    by_cases h60 : 60 < len
    · have h60I : (60 : Int) < (len : Int) := by omega
      have HP := Lib.hid (show TrueN w (.returned (.bool true)) w2 from ⟨rfl, B2.out⟩)
      go_wp2
      go_ret
      exact HP.out
    have h60I : ¬ (60 : Int) < (len : Int) := by omega
    obtain ⟨h100, hsh⟩ := HFI.out rfl
    have HSH := Lib.hid hsh
    clear hsh HFI h100
    go_wp2_with fail
    refine (NNew_any w2).mono ?_
    rintro en w3 ⟨g, S3, rfl, hd, hS, hb⟩
    have hB3 := B2.out.trans (hb.mono B2.out.size)
    have START := Lib.hid (show TRS w g len (.slice (some ⟨w3.heap.size, 0, none⟩) 0 0) (.slice (some ⟨w3.heap.size + 1, 0, none⟩) 0 0) (.int .i64 0) ((w3.alloc (.cells #[] 103)).alloc (.cells #[] 98)) from
      ⟨0, S3, [], [], [], rfl, Nat.zero_le _, NS.start hd hB3.size (fun j hj => Nat.le_trans B2.out.size (hS j hj)), by simp, ⟨by simp, fun x hx => by simp at hx, fun x hx => by simp at hx, fun x hx => by simp at hx⟩, fun x hx => by simp at hx, Nat.le_refl _, Nat.le_refl _, (hB3.alloc hB3.size _).alloc (by have := hB3.size; simp; omega) _⟩)
    clear hd hS hb hB3
    go_wp2
    go_loopw [4, 5, 31] (fun s4 s5 s31 wr => TRS w g len s4 s5 s31 wr) (fun _ _ s31 _ => len - (intOf s31).toNat)
    case atStart => exact START.out
    case round =>
      clear START
      obtain ⟨k, S, row, sl, cl, rfl, hk, hN, hne, hF, h300, hns, hnc, hbel⟩ := hrel
      have NEC := Lib.hid hne
      obtain ⟨A5, c5, rfl⟩ := own_sl hN.2.1.toL.choose_spec.2.1
      obtain ⟨g4, c4, rfl, hg4⟩ := own_someS hN.1.toL.choose_spec.2.1 hne
      obtain ⟨ns, hlS⟩ : ∃ q, sl.length = q := ⟨_, rfl⟩
      obtain ⟨nc, hlC⟩ : ∃ q, cl.length = q := ⟨_, rfl⟩
      rw [hlS, hlC] at hN
      rw [hlC] at NEC
      rw [hlS] at hns
      rw [hlC] at hnc
      have HB := Lib.hid hbel; have N0 := Lib.hid hN; have HF := Lib.hid hF; have H300 := Lib.hid h300; have HLS := Lib.hid hlS; have HLC := Lib.hid hlC
      by_cases hlt : k < len
      · obtain ⟨ga, o', d, i, p, m, to, bs, Ab, cb, rfl, hga, hp, ⟨d0, d1, d2, d3, d4, d5⟩, hrb, hbc, hbm, hbn, hb256, hI, hPP, hM⟩ := ActsN.row (ActsN.below HR.out hbel) (k := k) (by rw [HN.out]; exact hlt)
        have hgw : ga < wr.heap.size := World.block_lt_of_cell? _ _ d0
        have hltI : (k : Int) < (len : Int) := by omega
        have hl3 := HSH.out k _ hp
        simp only at hl3
        obtain ⟨nb, hnb⟩ : ∃ q, bs.length = q := ⟨_, rfl⟩
        rw [hnb] at d5 hbc hl3
        have HNB := Lib.hid hnb; have RB := Lib.hid hrb; have H256 := Lib.hid hb256; have HNO := Lib.hid hbn; have HI := Lib.hid hI; have HPP := Lib.hid hPP; have HMM := Lib.hid hM; have HLT := Lib.hid hlt; have HBM := Lib.hid hbm
        rw [hlS, hlC]
        clear hN hF h300 hbel hlS hlC hne hg4 hp hnb hrb hb256 hbn hI hPP hM hbm
        by_cases hq0 : d = 0
        · subst hq0
          go_wp2_with fail
          generalize hW : wr.alloc (.cells #[.int .i64 0, .int .i64 i, .int .i64 p, .int .u32 (m : Int), .int .i64 to, .slice Ab nb cb] 100) = w4
          have hb : Below wr.heap.size wr w4 := by rw [← hW]; exact (Below.refl _ wr).alloc (Nat.le_refl _) _
          have N4 := Lib.hid (N0.out.below hb); have B4 := Lib.hid (HB.out.trans (hb.mono HB.out.size)); have BB4 := Lib.hid (hb.mono HB.out.size)
          have RB4 := Lib.hid ((RB.out.below (hb.mono HB.out.size)).more B4.out.size)
          have Z4 : Hid (Blk w4 wr.heap.size 100 #[.int .i64 0, .int .i64 i, .int .i64 p, .int .u32 (m : Int), .int .i64 to, .slice Ab nb cb]) := Lib.hid (by rw [← hW]; exact Blk.new wr _ _)
          clear hb hW d0 d1 d2 d3 d4 d5
          refine (NSendQ_any w4 g S (OffT (fun j => (Value.slice (some ⟨g4, 0, none⟩) nc c4).ownBlock = some j ∨ (Value.slice A5 ns c5).ownBlock = some j)) row to Ab nb cb bs N4.out.2.2.1 (N4.out.qnew (Nat.le_refl _)) RB4.out H256.out HNB.out (by omega) hbc HNO.out HF.out.1).mono ?_
          rintro en w5 ⟨rfl, S5, hd5, hT⟩
          have B5 := Lib.hid (B4.out.trans (hT.2.to_below B4.out.size N4.out.2.2.2.2.2)); have BB5 := Lib.hid (BB4.out.trans (hT.2.to_below B4.out.size N4.out.2.2.2.2.2))
          have Z5 := Lib.hid (hT.2.blk Z4.out (fun hs => by have := N0.out.lt _ hs; omega))
          rcases send_cases row (to, bs) with e | ⟨e, h64'⟩
          · rw [e] at hd5 ⊢
            have N5 := Lib.hid (N4.out.net B4.out.size hT hd5)
            have R := Lib.hid (show TRS w g len (.slice (some ⟨g4, 0, none⟩) nc c4) (.slice A5 ns c5) (.int .i64 ((k : Int) + 1)) w5 from ⟨k + 1, S5, row, sl, cl, by go_num, HLT.out, N5.out, NEC.out, HF.out, H300.out, by first | (rw [HLS.out]; omega) | (have := HLS.out; omega), by first | (rw [HLC.out]; omega) | (have := HLC.out; omega), B5.out⟩)
            clear hd5 hT e
            go_wp2
            go_roundw
            case rel => exact R.out
            case measure => simp [intOf]; have := HLT.out; omega
          · rw [e] at hd5 ⊢
            have hn5 := N4.out.net B4.out.size hT hd5
            have hb8 : Below w5.heap.size w5 (w5.alloc (.cells #[.int .i64 to, .slice Ab nb cb] 98)) := (Below.refl _ w5).alloc (Nat.le_refl _) _
            have N8 := Lib.hid (hn5.below hb8); have B8 := Lib.hid (B5.out.trans (hb8.mono B5.out.size)); have BB8 := Lib.hid (BB5.out.trans (hb8.mono B5.out.size))
            have F9 := Lib.hid (HF.out.send (l := (to, bs)) h64' (by simp only; rw [HNB.out]; omega) H256.out)
            obtain ⟨ms, m1, m2, m3⟩ := N8.out.2.1
            have M1 := Lib.hid m1; have M2 := Lib.hid m2; have M3 := Lib.hid m3
            have M2' : Hid (World.ownsRow (w5.alloc (.cells #[.int .i64 to, .slice Ab nb cb] 98)) w.heap.size 98 2 (.slice A5 ns c5) ns (fl2 ms)) := Lib.hid (by have h := M2.out; rw [HLS.out] at h; exact h)
            have HW2 : Hid (w.heap.size ≤ (w5.alloc (.cells #[.int .i64 to, .slice Ab nb cb] 98)).heap.size) := Lib.hid B8.out.size
            have HNW := Lib.hid (nw2 w5 98 (.int .i64 to) (.slice Ab nb cb))
            have z4 : w5.cell? ⟨wr.heap.size, 4, none⟩ = some (.int .i64 to) := Z5.out.cell 4
            have z5 : w5.cell? ⟨wr.heap.size, 5, none⟩ = some (.slice Ab nb cb) := Z5.out.cell 5
            clear hd5 hT e h64' hn5 m1 m2 m3 hb8
            go_wp2_with (at_builtin; go_must (refine wpList_append_own_at _ rfl (.tmp 43) (.tmp 46) 110 rfl w.heap.size 98 j0 (.agg #[.int .i64 0, .slice none 0 0]) 2 32 Try.underlying110 hj hy0 hy1 hy2 rfl (by decide) _ ns (fl2 ms) rfl M2'.out ⟨w5.heap.size, 0, none⟩ 1 1 [.int .i64 to, .slice Ab nb cb] rfl rfl HNW.out (by intro u hu; simp at hu; rcases hu with rfl | rfl <;> rfl) (by unfold maxLen; omega) (by omega) HW2.out ?_; intro v3 w9 ho3 hg3 hn3 hat3; obtain ⟨A9, c9, rfl⟩ := own_sl ho3; have HO3 := Lib.hid ho3; have HG3 := Lib.hid hg3; have HAT := Lib.hid hat3; clear ho3 hg3 hn3 hat3))
            have hO9 := Only.of_grown (S := fun q => (Value.slice A5 ns c5).ownBlock = some q) HG3.out (fun q hq => hq)
            have N9 : Hid (NS w9 g w.heap.size S5 (.slice (some ⟨g4, 0, none⟩) nc c4) (.slice A9 (ns + 1) c9) cl (sl ++ [(to, bs)]) (row ++ [((to, bs), false)])) := Lib.hid (by
              refine N8.out.pushS M1.out M2.out M3.out (by rw [HLS.out]; exact HO3.out) HG3.out HAT.out ?_
              refine ⟨⟨Ab, cb, by rw [HNB.out], (RB.out.below BB8.out).more HW2.out, rfl, by rw [HNB.out]; exact hbc, HBM.out, H256.out, HNO.out⟩, fun b o n' c' hv hne hj => ?_⟩
              obtain ⟨b', o', e', hlt', -⟩ := RB.out (by intro h0; apply hne; exact List.map_eq_nil_iff.1 h0)
              injection hv with e1 _ _
              rw [e1] at e'
              injection e' with e'
              injection e' with e' _ _
              rcases hj with (hj | hj) | hj
              · have := N8.out.2.2.2.2.2 b hj; omega
              · have := (N8.out.clt b hj).1; omega
              · have := (N8.out.slt b hj).1; omega)
            have B9 := Lib.hid (B8.out.trans (hO9.to_below B8.out.size (fun j hj => (M2'.out.lt j hj).1)))
            have HLS9 : Hid ((sl ++ [(to, bs)]).length = ns + 1) := Lib.hid (by rw [List.length_append, HLS.out]; rfl)
            have H39 : Hid (∀ y ∈ sl ++ [(to, bs)], y.2.length ≤ 300) := Lib.hid (fun y hy => by
              rcases List.mem_append.1 hy with hy | hy
              · exact H300.out y hy
              · simp at hy; subst hy; simp only; rw [HNB.out]; omega)
            clear hO9
            have R := Lib.hid (show TRS w g len (.slice (some ⟨g4, 0, none⟩) nc c4) (.slice A9 (ns + 1) c9) (.int .i64 ((k : Int) + 1)) w9 from ⟨k + 1, S5, row ++ [((to, bs), false)], sl ++ [(to, bs)], cl, by go_num, HLT.out, N9.out, NEC.out, F9.out, H39.out, by first | (rw [HLS9.out]; omega) | (have := HLS9.out; omega), by first | (rw [HLC.out]; omega) | (have := HLC.out; omega), B9.out⟩)
            go_wp2
            go_roundw
            case rel => exact R.out
            case measure => simp [intOf]; have := HLT.out; omega
        · have n01 : (d == 0) = false := by simp [hq0]
          have n02 : decide (d = 0) = false := by simp [hq0]
          by_cases hq1 : d = 1
          · subst hq1
            go_wp2_with fail
            generalize hW : wr.alloc (.cells #[.int .i64 1, .int .i64 i, .int .i64 p, .int .u32 (m : Int), .int .i64 to, .slice Ab nb cb] 100) = w4
            have hb : Below wr.heap.size wr w4 := by rw [← hW]; exact (Below.refl _ wr).alloc (Nat.le_refl _) _
            have N4 := Lib.hid (N0.out.below hb); have B4 := Lib.hid (HB.out.trans (hb.mono HB.out.size)); have BB4 := Lib.hid (hb.mono HB.out.size)
            have RB4 := Lib.hid ((RB.out.below (hb.mono HB.out.size)).more B4.out.size)
            have Z4 : Hid (Blk w4 wr.heap.size 100 #[.int .i64 1, .int .i64 i, .int .i64 p, .int .u32 (m : Int), .int .i64 to, .slice Ab nb cb]) := Lib.hid (by rw [← hW]; exact Blk.new wr _ _)
            clear hb hW d0 d1 d2 d3 d4 d5
            refine (NTakeQ_any w4 g S (OffT (fun j => (Value.slice (some ⟨g4, 0, none⟩) nc c4).ownBlock = some j ∨ (Value.slice A5 ns c5).ownBlock = some j)) row i N4.out.2.2.1 HI.out.1 HI.out.2 HF.out.1 (fun x hx => by have := (HF.out.2.1 x hx).1; omega)).mono ?_
            rintro en w5 ⟨R5, C5, rfl, hd5, hT, hm5, -⟩
            have hn5 := N4.out.net B4.out.size hT hd5
            have B5 := Lib.hid (B4.out.trans (hT.2.to_below B4.out.size N4.out.2.2.2.2.2))
            obtain ⟨hF5, hor⟩ := HF.out.took (i := i)
            obtain ⟨r, hr⟩ : ∃ r, Nm.take row i = r := ⟨_, rfl⟩
            rw [hr] at hn5 hm5 hF5 hor ⊢
            clear hT hd5 hr
            obtain ⟨⟨⟨tx, bx⟩, isx⟩, row5⟩ := r
            simp only at hn5 hm5 hF5 hor ⊢
            obtain ⟨nx, hnx⟩ : ∃ q, bx.length = q := ⟨_, rfl⟩
            rw [hnx] at hm5 ⊢
            obtain ⟨hrx, hcx, hcmx, hnox, h256x⟩ := hm5.1.parts
            have hb8 : Below w5.heap.size w5 (w5.alloc (.cells #[.int .i64 tx, .slice R5 nx C5] 98)) := (Below.refl _ w5).alloc (Nat.le_refl _) _
            have HNX := Lib.hid hnx; have HCX := Lib.hid (And.intro hcx (And.intro hcmx (And.intro hnox h256x)))
            have N6 := Lib.hid (hn5.below hb8); have B6 := Lib.hid (B5.out.trans (hb8.mono B5.out.size)); have RX := Lib.hid ((hrx.below hb8).more hb8.size)
            have F9 := Lib.hid hF5; have HOR := Lib.hid hor
            have Z6 := Lib.hid (Blk.new w5 98 #[.int .i64 tx, .slice R5 nx C5])
            have hs6 : w5.heap.size < (w5.alloc (.cells #[.int .i64 tx, .slice R5 nx C5] 98)).heap.size := by simp
            clear hn5 hm5 hF5 hor hb8 hnx hrx hcx hcmx hnox h256x
            go_wp2_with fail
            generalize hW : (w5.alloc (.cells #[.int .i64 tx, .slice R5 nx C5] 98)) = w6 at N6 B6 RX Z6 hs6 ⊢
            clear hW
            obtain ⟨A6, c6, hv6, hLR6, -, -⟩ := N6.out.2.1.toL.letR B6.out.size
            have eA : A5 = A6 := by injection hv6
            clear hv6
            subst eA
            refine (Lown_any w6 A5 ns c5 sl hLR6 HLS.out (by omega)).mono ?_
            rintro en w7 ⟨v7, rfl, hl7, hb7⟩
            obtain ⟨ms1, p1, p2, p3⟩ := hl7
            obtain ⟨A7, c7, rfl⟩ := own_sl p2
            have hn7 := N6.out.below hb7
            obtain ⟨ms2, q1, q2, q3⟩ := N6.out.1
            have hq2 := own_below q2 hb7
            have HB7 := Lib.hid hb7; have P1 := Lib.hid p1; have P2 := Lib.hid p2; have P3 := Lib.hid p3; have Q1 := Lib.hid q1; have Q3 := Lib.hid q3; have N7 := Lib.hid hn7
            rw [HLS.out] at p2
            rw [HLC.out] at hq2
            have P2' := Lib.hid p2
            have HCE : Hid (∀ j u, (fl2 ms2)[j]? = some u → w7.cell? ((⟨g4, 0, none⟩ : Addr).add j) = some u) := Lib.hid (fun j u hu => hq2.cells (g := g4) rfl j u hu)
            have HFL : Hid ((fl2 ms2).length = nc * 2) := Lib.hid (by rw [fl2_length, Q1.out, HLC.out])
            have HON := Lib.hid (fl2_one Q1.out Q3.out)
            have hs76 := hb7.size
            clear hLR6 hb7 p1 p2 p3 q1 q2 q3 hq2 hn7
            simp only [HLS.out]
            go_wp2_with (at_builtin; go_must (refine wpList_append_own_at _ rfl (.tmp 60) (.tmp 61) 92 rfl w6.heap.size 103 i0 (.agg #[.int .i64 0, .slice none 0 0]) 2 32 Try.underlying92 hi hz0 hz1 hz2 rfl (by decide) _ ns (fl2 ms1) rfl P2'.out ⟨g4, 0, none⟩ nc c4 (fl2 ms2) rfl HFL.out HCE.out HON.out (by unfold maxLen; omega) (by omega) hs76 ?_; intro v9 w9 ho3 hg3 hn3 hat3; obtain ⟨A9, c9, rfl⟩ := own_sl ho3; have HO3 := Lib.hid ho3; have HG3 := Lib.hid hg3; have HAT := Lib.hid hat3; clear ho3 hg3 hn3 hat3))
            have hT9 := grow_turned HG3.out HAT.out
            have hL9 : LRow 103 w9 w6.heap.size (.slice A9 (ns + nc) c9) (sl ++ cl) := LRow.app (w2 := w7) (v := .slice A7 ns c7) P1.out (by have := P3.out; rw [HLS.out] at this; exact this) Q1.out (fun j m x hm hx => ⟨(Q3.out j m x hm hx).1, ((Q3.out j m x hm hx).2.more HB7.out (fun q hq => (P2'.out.lt q hq).1)).snd⟩) (by rw [HLS.out, HLC.out]; exact HO3.out) hT9
            have hb69 : Below w6.heap.size w6 w9 := HB7.out.trans (hT9.2.to_below hs76 (fun q hq => (P2'.out.lt q hq).1))
            obtain ⟨A10, c10, hv10, hLR9, -, -⟩ := hL9.letR hb69.size
            have eA : A9 = A10 := by injection hv10
            clear hv10
            subst eA
            have N9 := Lib.hid (N6.out.below hb69); have B9 := Lib.hid (B6.out.trans (hb69.mono B6.out.size)); have RX9 := Lib.hid ((RX.out.below hb69).more hb69.size)
            have HS9 := hb69.size
            have ZA := (hb69.cell (p := ⟨w5.heap.size, 0, none⟩) hs6).trans (Z6.out.cell 0)
            have ZB := (hb69.cell (p := ⟨w5.heap.size, 1, none⟩) hs6).trans (Z6.out.cell 1)
            have Z9 := Lib.hid (And.intro ZA ZB)
            have hs9 : w5.heap.size < w9.heap.size := by omega
            obtain ⟨nl, hnl⟩ : ∃ q, ns + nc = q := ⟨_, rfl⟩
            have HNL : Hid ((sl ++ cl).length = nl) := Lib.hid (by rw [List.length_append, HLS.out, HLC.out, hnl])
            have HLR := Lib.hid hLR9
            obtain ⟨L, hL⟩ : ∃ L, sl ++ cl = L := ⟨_, rfl⟩
            rw [hL] at HNL HLR HOR
            have hnlc : (ns : Int) + (nc : Int) = (nl : Int) := by omega
            rw [hnl]
            try rw [hnlc]
            have hnlb : nl ≤ 3660 := by omega
            clear hnlc
            clear hT9 hL9 hb69 ZA ZB hLR9 hnl hL HO3 HG3 HAT P1 P2 P2' P3 Q1 Q3 HCE HFL HON N7 HB7 hs76
            go_wp2
            go_loopw [10, 64] (fun s10 s64 wr => ∃ j : Nat, s10 = .bool (!isx || decide ((tx, bx) ∈ L.take j)) ∧ s64 = .int .i64 (j : Int) ∧ j ≤ nl ∧ Below w9.heap.size w9 wr) (fun _ s64 _ => nl - (intOf s64).toNat)
            case atStart => exact ⟨0, by simp, rfl, Nat.zero_le _, Below.refl _ _⟩
            case round =>
              obtain ⟨j, rfl, rfl, hj, hbel⟩ := hrel
              have HBW := Lib.hid hbel
              by_cases hjl : j < nl
              · have HJL := Lib.hid hjl
                have hjI : (j : Int) < (nl : Int) := by omega
                obtain ⟨gy, oy, ty, by', Ay, cy, rfl, hgy, hy, y0, y1, hry, hcy, hcmy, hnoy, h256y⟩ := LetR.row (LetR.below HLR.out hbel) (k := j) (by rw [HNL.out]; exact hjl)
                have hgyw : gy < wr.heap.size := Nat.lt_of_lt_of_le hgy hbel.size
                obtain ⟨ny, hny⟩ : ∃ q, by'.length = q := ⟨_, rfl⟩
                rw [hny] at y1 hcy
                have HNY := Lib.hid hny; have HCY := Lib.hid (And.intro hcy (And.intro hcmy (And.intro hnoy h256y))); have HY := Lib.hid hy
                have hb7 : Below wr.heap.size wr (wr.alloc (.cells #[.int .i64 ty, .slice Ay ny cy] 103)) := (Below.refl _ wr).alloc (Nat.le_refl _) _
                have HBW := Lib.hid (hbel.trans (hb7.mono hbel.size))
                have RX7 := Lib.hid ((RX9.out.below HBW.out).more HBW.out.size)
                have RY7 := Lib.hid (((hry.more hbel.size).below hb7).more hb7.size)
                have z70 := (HBW.out.cell (p := ⟨w5.heap.size, 0, none⟩) hs9).trans Z9.out.1
                have z71 := (HBW.out.cell (p := ⟨w5.heap.size, 1, none⟩) hs9).trans Z9.out.2
                have e70 := (Blk.new wr 103 #[.int .i64 ty, .slice Ay ny cy]).cell 0
                have e71 := (Blk.new wr 103 #[.int .i64 ty, .slice Ay ny cy]).cell 1
                have hz7 : w5.heap.size < (wr.alloc (.cells #[.int .i64 ty, .slice Ay ny cy] 103)).heap.size := Nat.lt_of_lt_of_le hs9 HBW.out.size
                have he7 : wr.heap.size < (wr.alloc (.cells #[.int .i64 ty, .slice Ay ny cy] 103)).heap.size := by simp
                have Z7 := Lib.hid (And.intro z70 (And.intro z71 (And.intro e70 (And.intro e71 (And.intro hz7 he7)))))
                clear hny hcy hcmy hnoy h256y hy hry hb7 z70 z71 e70 e71 hz7 he7
                by_cases hin : (!isx || decide ((tx, bx) ∈ L.take j)) = true
                · rw [hin]
                  have HIN := Lib.hid (th_grow hin)
                  clear hin
                  go_wp2
                  generalize hW : wr.alloc (.cells #[.int .i64 ty, .slice Ay ny cy] 103) = w7 at HBW RX7 RY7 Z7 ⊢
                  clear hW
                  refine Inr.region_below (fun i v w' => match i with
                      | 0 => v = .bool true
                      | 1 => v = .bool true
                      | 2 => True
                      | 3 => True
                      | 4 => True
                      | 5 => True
                      | 6 => True
                      | 7 => True
                      | 8 => v = .bool true
                      | 9 => v = .bool true
                      | _ => True)
                    (fun w' => Below w7.heap.size w7 w' ∧ True) 117 [68, 69, 70, 71, 72, 73, 74, 75, 76, 10] (by kernel_rfl) rfl (by kernel_rfl) (by kernel_rfl) ?_ ?_ ?_ ?_
                  · intro v v' hC hb
                    obtain ⟨hB, -⟩ := hC
                    exact ⟨hB.trans (hb.mono hB.size), trivial⟩
                  · exact ⟨(Below.refl _ _).drew, trivial⟩
                  · refine ⟨⟨fun _ _ _ h _ => h, ?_⟩, ⟨fun _ _ _ h _ => h, ?_⟩, ⟨fun _ _ _ h _ => h, ?_⟩, ⟨fun _ _ _ h _ => h, ?_⟩, ⟨fun _ _ _ h _ => h, ?_⟩, ⟨fun _ _ _ h _ => h, ?_⟩, ⟨fun _ _ _ h _ => h, ?_⟩, ⟨fun _ _ _ h _ => h, ?_⟩, ⟨fun _ _ _ h _ => h, ?_⟩, ⟨fun _ _ _ h _ => h, ?_⟩, trivial⟩
                    · intro act wa hC hd H O NN K hK
                      clear hd
                      obtain ⟨hB, -⟩ := hC
                      have h10 := NN 12 9 10 (by kernel_rfl) rfl
                      have g10 := Array.getD_eq_getD_getElem?.symm.trans h10
                      clear H O NN
                      go_simp
                      exact hK _ _ (Below.refl _ _) (fun _ => rfl)
                    · intro act wa hC hd H O NN K hK
                      clear hd
                      obtain ⟨hB, -⟩ := hC
                      have h68 : act.tmps.getD 68 undef = .bool true := H 1 0 68 (by kernel_rfl) rfl
                      have g68 := Array.getD_eq_getD_getElem?.symm.trans h68
                      clear H O NN
                      go_simp
                      exact hK _ _ (Below.refl _ _) (fun _ => rfl)
                    · intro act wa hC hd H O NN K hK
                      clear hd
                      obtain ⟨hB, -⟩ := hC
                      have h8 := O 8 (by kernel_rfl)
                      have g8 := Array.getD_eq_getD_getElem?.symm.trans h8
                      have h69 : act.tmps.getD 69 undef = .bool true := H 1 1 69 (by kernel_rfl) rfl
                      have g69 := Array.getD_eq_getD_getElem?.symm.trans h69
                      have k69 := Inv.some_bool g69
                      clear H O NN
                      go_simp
                      exact hK _ _ (Below.refl _ _) (fun _ => trivial)
                    · intro act wa hC hd H O NN K hK
                      clear hd
                      obtain ⟨hB, -⟩ := hC
                      have h70 : True := H 1 2 70 (by kernel_rfl) rfl
                      have h69 : act.tmps.getD 69 undef = .bool true := H 1 1 69 (by kernel_rfl) rfl
                      have g69 := Array.getD_eq_getD_getElem?.symm.trans h69
                      have k69 := Inv.some_bool g69
                      clear H O NN
                      go_simp
                      exact hK _ _ (Below.refl _ _) (fun _ => trivial)
                    · intro act wa hC hd H O NN K hK
                      clear hd
                      obtain ⟨hB, -⟩ := hC
                      have h71 : True := H 1 3 71 (by kernel_rfl) rfl
                      have h69 : act.tmps.getD 69 undef = .bool true := H 1 1 69 (by kernel_rfl) rfl
                      have g69 := Array.getD_eq_getD_getElem?.symm.trans h69
                      have k69 := Inv.some_bool g69
                      clear H O NN
                      go_simp
                      exact hK _ _ (Below.refl _ _) (fun _ => trivial)
                    · intro act wa hC hd H O NN K hK
                      clear hd
                      obtain ⟨hB, -⟩ := hC
                      have h12 := O 12 (by kernel_rfl)
                      have g12 := Array.getD_eq_getD_getElem?.symm.trans h12
                      have h69 : act.tmps.getD 69 undef = .bool true := H 1 1 69 (by kernel_rfl) rfl
                      have g69 := Array.getD_eq_getD_getElem?.symm.trans h69
                      have k69 := Inv.some_bool g69
                      clear H O NN
                      go_simp
                      exact hK _ _ (Below.refl _ _) (fun _ => trivial)
                    · intro act wa hC hd H O NN K hK
                      clear hd
                      obtain ⟨hB, -⟩ := hC
                      have h73 : True := H 1 5 73 (by kernel_rfl) rfl
                      have h69 : act.tmps.getD 69 undef = .bool true := H 1 1 69 (by kernel_rfl) rfl
                      have g69 := Array.getD_eq_getD_getElem?.symm.trans h69
                      have k69 := Inv.some_bool g69
                      clear H O NN
                      go_simp
                      exact hK _ _ (Below.refl _ _) (fun _ => trivial)
                    · intro act wa hC hd H O NN K hK
                      clear hd
                      obtain ⟨hB, -⟩ := hC
                      have h72 : True := H 1 4 72 (by kernel_rfl) rfl
                      have h74 : True := H 1 6 74 (by kernel_rfl) rfl
                      have h69 : act.tmps.getD 69 undef = .bool true := H 1 1 69 (by kernel_rfl) rfl
                      have g69 := Array.getD_eq_getD_getElem?.symm.trans h69
                      have k69 := Inv.some_bool g69
                      clear H O NN
                      go_simp
                      exact hK _ _ (Below.refl _ _) (fun _ => trivial)
                    · intro act wa hC hd H O NN K hK
                      clear hd
                      obtain ⟨hB, -⟩ := hC
                      have h69 : act.tmps.getD 69 undef = .bool true := H 1 1 69 (by kernel_rfl) rfl
                      have g69 := Array.getD_eq_getD_getElem?.symm.trans h69
                      have h75 : True := H 1 7 75 (by kernel_rfl) rfl
                      clear H O NN
                      go_simp
                      exact hK _ _ (Below.refl _ _) (fun _ => rfl)
                    · intro act wa hC hd H O NN K hK
                      clear hd
                      obtain ⟨hB, -⟩ := hC
                      have h76 : act.tmps.getD 76 undef = .bool true := H 1 8 76 (by kernel_rfl) rfl
                      have g76 := Array.getD_eq_getD_getElem?.symm.trans h76
                      clear H O NN
                      go_simp
                      exact hK _ _ (Below.refl _ _) (fun _ => rfl)
                  · intro us w' hC hF
                    obtain ⟨hB, -⟩ := hC
                    have u10 : us 10 = .bool true := hF 9 10 rfl
                    clear hF
                    simp only [List.foldl]
                    go_simp
                    have e76 : us 10 = .bool (true) := u10
                    have HBB := Lib.hid (HBW.out.trans (hB.mono HBW.out.size))
                    clear hB u10
                    try rw [e76]
                    go_wp2
                    go_roundw
                    case rel => exact ⟨j + 1, by rw [HIN.out], by go_num, by have := HJL.out; omega, HBB.out⟩
                    case measure => simp [intOf]; have := HJL.out; omega

                · rw [Bool.eq_false_iff.2 hin]
                  obtain ⟨q, hq⟩ : ∃ q, decide ([(tx, bx)] = [(ty, by')]) = q := ⟨_, rfl⟩
                  have HIN := Lib.hid ((th_next HY.out hin).trans hq)
                  have HQ := Lib.hid hq
                  clear hin hq
                  go_wp2
                  generalize hW : wr.alloc (.cells #[.int .i64 ty, .slice Ay ny cy] 103) = w7 at HBW RX7 RY7 Z7 ⊢
                  clear hW
                  obtain ⟨z70, z71, e70, e71, hz7, he7⟩ := Z7.out
                  refine Inr.region_below (fun i v w' => match i with
                      | 0 => v = .bool false
                      | 1 => v = .bool false
                      | 2 => v = .agg #[.int .i64 tx, .slice R5 nx C5]
                      | 3 => ∃ A, v = .slice A 1 1 ∧ LetR w' w'.heap.size A [(tx, bx)]
                      | 4 => ∃ A c, v = .slice A 1 c ∧ LetR w' w'.heap.size A [(tx, bx)]
                      | 5 => v = .agg #[.int .i64 ty, .slice Ay ny cy]
                      | 6 => ∃ A, v = .slice A 1 1 ∧ LetR w' w'.heap.size A [(ty, by')]
                      | 7 => v = .bool q
                      | 8 => v = .bool q
                      | 9 => v = .bool q
                      | _ => True)
                    (fun w' => Below w7.heap.size w7 w' ∧ True) 117 [68, 69, 70, 71, 72, 73, 74, 75, 76, 10] (by kernel_rfl) rfl (by kernel_rfl) (by kernel_rfl) ?_ ?_ ?_ ?_
                  · intro v v' hC hb
                    obtain ⟨hB, -⟩ := hC
                    exact ⟨hB.trans (hb.mono hB.size), trivial⟩
                  · exact ⟨(Below.refl _ _).drew, trivial⟩
                  · refine ⟨⟨fun _ _ _ h _ => h, ?_⟩, ⟨fun _ _ _ h _ => h, ?_⟩, ⟨fun _ _ _ h _ => h, ?_⟩, ⟨fun v w w' ⟨A, h1, h2⟩ hb => ⟨A, h1, h2.step hb⟩, ?_⟩, ⟨fun v w w' ⟨A, c, h1, h2⟩ hb => ⟨A, c, h1, h2.step hb⟩, ?_⟩, ⟨fun _ _ _ h _ => h, ?_⟩, ⟨fun v w w' ⟨A, h1, h2⟩ hb => ⟨A, h1, h2.step hb⟩, ?_⟩, ⟨fun _ _ _ h _ => h, ?_⟩, ⟨fun _ _ _ h _ => h, ?_⟩, ⟨fun _ _ _ h _ => h, ?_⟩, trivial⟩
                    · intro act wa hC hd H O NN K hK
                      clear hd
                      obtain ⟨hB, -⟩ := hC
                      have h10 := NN 12 9 10 (by kernel_rfl) rfl
                      have g10 := Array.getD_eq_getD_getElem?.symm.trans h10
                      clear H O NN
                      have ya := (hB.cell (p := ⟨w5.heap.size, 0, none⟩) hz7).trans z70
                      have yb := (hB.cell (p := ⟨w5.heap.size, 1, none⟩) hz7).trans z71
                      have yc := (hB.cell (p := ⟨wr.heap.size, 0, none⟩) he7).trans e70
                      have yd := (hB.cell (p := ⟨wr.heap.size, 1, none⟩) he7).trans e71
                      go_simp
                      exact hK _ _ (Below.refl _ _) (fun _ => rfl)
                    · intro act wa hC hd H O NN K hK
                      clear hd
                      obtain ⟨hB, -⟩ := hC
                      have h68 : act.tmps.getD 68 undef = .bool false := H 1 0 68 (by kernel_rfl) rfl
                      have g68 := Array.getD_eq_getD_getElem?.symm.trans h68
                      clear H O NN
                      have ya := (hB.cell (p := ⟨w5.heap.size, 0, none⟩) hz7).trans z70
                      have yb := (hB.cell (p := ⟨w5.heap.size, 1, none⟩) hz7).trans z71
                      have yc := (hB.cell (p := ⟨wr.heap.size, 0, none⟩) he7).trans e70
                      have yd := (hB.cell (p := ⟨wr.heap.size, 1, none⟩) he7).trans e71
                      go_simp
                      exact hK _ _ (Below.refl _ _) (fun _ => rfl)
                    · intro act wa hC hd H O NN K hK
                      clear hd
                      obtain ⟨hB, -⟩ := hC
                      have h8 := O 8 (by kernel_rfl)
                      have g8 := Array.getD_eq_getD_getElem?.symm.trans h8
                      have h69 : act.tmps.getD 69 undef = .bool false := H 1 1 69 (by kernel_rfl) rfl
                      have g69 := Array.getD_eq_getD_getElem?.symm.trans h69
                      have k69 := Inv.some_bool g69
                      clear H O NN
                      have ya := (hB.cell (p := ⟨w5.heap.size, 0, none⟩) hz7).trans z70
                      have yb := (hB.cell (p := ⟨w5.heap.size, 1, none⟩) hz7).trans z71
                      have yc := (hB.cell (p := ⟨wr.heap.size, 0, none⟩) he7).trans e70
                      have yd := (hB.cell (p := ⟨wr.heap.size, 1, none⟩) he7).trans e71
                      go_simp
                      exact hK _ _ (Below.refl _ _) (fun _ => rfl)
                    · intro act wa hC hd H O NN K hK
                      clear hd
                      obtain ⟨hB, -⟩ := hC
                      have h70 : act.tmps.getD 70 undef = .agg #[.int .i64 tx, .slice R5 nx C5] := H 1 2 70 (by kernel_rfl) rfl
                      have g70 := Array.getD_eq_getD_getElem?.symm.trans h70
                      have h69 : act.tmps.getD 69 undef = .bool false := H 1 1 69 (by kernel_rfl) rfl
                      have g69 := Array.getD_eq_getD_getElem?.symm.trans h69
                      have k69 := Inv.some_bool g69
                      clear H O NN
                      have ya := (hB.cell (p := ⟨w5.heap.size, 0, none⟩) hz7).trans z70
                      have yb := (hB.cell (p := ⟨w5.heap.size, 1, none⟩) hz7).trans z71
                      have yc := (hB.cell (p := ⟨wr.heap.size, 0, none⟩) he7).trans e70
                      have yd := (hB.cell (p := ⟨wr.heap.size, 1, none⟩) he7).trans e71
                      go_simp
                      exact hK _ _ ((Below.refl _ _).alloc (Nat.le_refl _) _) (fun _ => ⟨_, rfl, LetR.one ((RX7.out.below hB).more hB.size) HNX.out HCX.out.1 HCX.out.2.1 HCX.out.2.2.1 HCX.out.2.2.2⟩)
                    · intro act wa hC hd H O NN K hK
                      clear hd
                      obtain ⟨hB, -⟩ := hC
                      have h71 : ∃ A, act.tmps.getD 71 undef = .slice A 1 1 ∧ LetR wa wa.heap.size A [(tx, bx)] := H 1 3 71 (by kernel_rfl) rfl
                      obtain ⟨A63, h63, l63⟩ := h71
                      have h69 : act.tmps.getD 69 undef = .bool false := H 1 1 69 (by kernel_rfl) rfl
                      have g69 := Array.getD_eq_getD_getElem?.symm.trans h69
                      have k69 := Inv.some_bool g69
                      clear H O NN
                      have ya := (hB.cell (p := ⟨w5.heap.size, 0, none⟩) hz7).trans z70
                      have yb := (hB.cell (p := ⟨w5.heap.size, 1, none⟩) hz7).trans z71
                      have yc := (hB.cell (p := ⟨wr.heap.size, 0, none⟩) he7).trans e70
                      have yd := (hB.cell (p := ⟨wr.heap.size, 1, none⟩) he7).trans e71
                      go_simp
                      refine (Lown_any wa A63 1 1 _ l63 rfl (by omega)).mono ?_
                      rintro e1 w1 ⟨v8, rfl, hl8, hb⟩
                      obtain ⟨A8, c8, rfl, hr8, -, -⟩ := hl8.letR hb.size
                      exact hK _ _ hb (fun _ => ⟨A8, c8, rfl, hr8⟩)
                    · intro act wa hC hd H O NN K hK
                      clear hd
                      obtain ⟨hB, -⟩ := hC
                      have h12 := O 12 (by kernel_rfl)
                      have g12 := Array.getD_eq_getD_getElem?.symm.trans h12
                      have h69 : act.tmps.getD 69 undef = .bool false := H 1 1 69 (by kernel_rfl) rfl
                      have g69 := Array.getD_eq_getD_getElem?.symm.trans h69
                      have k69 := Inv.some_bool g69
                      clear H O NN
                      have ya := (hB.cell (p := ⟨w5.heap.size, 0, none⟩) hz7).trans z70
                      have yb := (hB.cell (p := ⟨w5.heap.size, 1, none⟩) hz7).trans z71
                      have yc := (hB.cell (p := ⟨wr.heap.size, 0, none⟩) he7).trans e70
                      have yd := (hB.cell (p := ⟨wr.heap.size, 1, none⟩) he7).trans e71
                      go_simp
                      exact hK _ _ (Below.refl _ _) (fun _ => rfl)
                    · intro act wa hC hd H O NN K hK
                      clear hd
                      obtain ⟨hB, -⟩ := hC
                      have h73 : act.tmps.getD 73 undef = .agg #[.int .i64 ty, .slice Ay ny cy] := H 1 5 73 (by kernel_rfl) rfl
                      have g73 := Array.getD_eq_getD_getElem?.symm.trans h73
                      have h69 : act.tmps.getD 69 undef = .bool false := H 1 1 69 (by kernel_rfl) rfl
                      have g69 := Array.getD_eq_getD_getElem?.symm.trans h69
                      have k69 := Inv.some_bool g69
                      clear H O NN
                      have ya := (hB.cell (p := ⟨w5.heap.size, 0, none⟩) hz7).trans z70
                      have yb := (hB.cell (p := ⟨w5.heap.size, 1, none⟩) hz7).trans z71
                      have yc := (hB.cell (p := ⟨wr.heap.size, 0, none⟩) he7).trans e70
                      have yd := (hB.cell (p := ⟨wr.heap.size, 1, none⟩) he7).trans e71
                      go_simp
                      exact hK _ _ ((Below.refl _ _).alloc (Nat.le_refl _) _) (fun _ => ⟨_, rfl, LetR.one ((RY7.out.below hB).more hB.size) HNY.out HCY.out.1 HCY.out.2.1 HCY.out.2.2.1 HCY.out.2.2.2⟩)
                    · intro act wa hC hd H O NN K hK
                      clear hd
                      obtain ⟨hB, -⟩ := hC
                      have h72 : ∃ A c, act.tmps.getD 72 undef = .slice A 1 c ∧ LetR wa wa.heap.size A [(tx, bx)] := H 1 4 72 (by kernel_rfl) rfl
                      obtain ⟨A64, c64, h64', l64⟩ := h72
                      have h74 : ∃ A, act.tmps.getD 74 undef = .slice A 1 1 ∧ LetR wa wa.heap.size A [(ty, by')] := H 1 6 74 (by kernel_rfl) rfl
                      obtain ⟨A66, h66, l66⟩ := h74
                      have h69 : act.tmps.getD 69 undef = .bool false := H 1 1 69 (by kernel_rfl) rfl
                      have g69 := Array.getD_eq_getD_getElem?.symm.trans h69
                      have k69 := Inv.some_bool g69
                      clear H O NN
                      have ya := (hB.cell (p := ⟨w5.heap.size, 0, none⟩) hz7).trans z70
                      have yb := (hB.cell (p := ⟨w5.heap.size, 1, none⟩) hz7).trans z71
                      have yc := (hB.cell (p := ⟨wr.heap.size, 0, none⟩) he7).trans e70
                      have yd := (hB.cell (p := ⟨wr.heap.size, 1, none⟩) he7).trans e71
                      go_simp
                      refine (LSame_any wa A64 A66 1 1 c64 1 _ _ l64 l66 rfl rfl (by omega) (by omega)).mono ?_
                      rintro e1 w1 ⟨rfl, hb⟩
                      rw [HQ.out]
                      exact hK _ _ hb (fun _ => rfl)
                    · intro act wa hC hd H O NN K hK
                      clear hd
                      obtain ⟨hB, -⟩ := hC
                      have h69 : act.tmps.getD 69 undef = .bool false := H 1 1 69 (by kernel_rfl) rfl
                      have g69 := Array.getD_eq_getD_getElem?.symm.trans h69
                      have h75 : act.tmps.getD 75 undef = .bool q := H 1 7 75 (by kernel_rfl) rfl
                      have g75 := Array.getD_eq_getD_getElem?.symm.trans h75
                      clear H O NN
                      have ya := (hB.cell (p := ⟨w5.heap.size, 0, none⟩) hz7).trans z70
                      have yb := (hB.cell (p := ⟨w5.heap.size, 1, none⟩) hz7).trans z71
                      have yc := (hB.cell (p := ⟨wr.heap.size, 0, none⟩) he7).trans e70
                      have yd := (hB.cell (p := ⟨wr.heap.size, 1, none⟩) he7).trans e71
                      go_simp
                      exact hK _ _ (Below.refl _ _) (fun _ => rfl)
                    · intro act wa hC hd H O NN K hK
                      clear hd
                      obtain ⟨hB, -⟩ := hC
                      have h76 : act.tmps.getD 76 undef = .bool q := H 1 8 76 (by kernel_rfl) rfl
                      have g76 := Array.getD_eq_getD_getElem?.symm.trans h76
                      clear H O NN
                      have ya := (hB.cell (p := ⟨w5.heap.size, 0, none⟩) hz7).trans z70
                      have yb := (hB.cell (p := ⟨w5.heap.size, 1, none⟩) hz7).trans z71
                      have yc := (hB.cell (p := ⟨wr.heap.size, 0, none⟩) he7).trans e70
                      have yd := (hB.cell (p := ⟨wr.heap.size, 1, none⟩) he7).trans e71
                      go_simp
                      exact hK _ _ (Below.refl _ _) (fun _ => rfl)
                  · intro us w' hC hF
                    obtain ⟨hB, -⟩ := hC
                    have u10 : us 10 = .bool q := hF 9 10 rfl
                    clear hF
                    simp only [List.foldl]
                    go_simp
                    have e76 : us 10 = .bool (q) := u10
                    have HBB := Lib.hid (HBW.out.trans (hB.mono HBW.out.size))
                    clear hB u10
                    try rw [e76]
                    go_wp2
                    go_roundw
                    case rel => exact ⟨j + 1, by rw [HIN.out], by go_num, by have := HJL.out; omega, HBB.out⟩
                    case measure => simp [intOf]; have := HJL.out; omega

              · obtain rfl : j = nl := by omega
                have N10 := Lib.hid (N9.out.below hbel); have B10 := Lib.hid (B9.out.trans (hbel.mono B9.out.size))
                have hall : (!isx || decide ((tx, bx) ∈ L.take j)) = true := th_all HOR.out HNL.out
                rw [hall]
                have R := Lib.hid (show TRS w g len (.slice (some ⟨g4, 0, none⟩) nc c4) (.slice A5 ns c5) (.int .i64 ((k : Int) + 1)) wr from ⟨k + 1, S, row5, sl, cl, by go_num, HLT.out, N10.out, NEC.out, F9.out, H300.out, by first | (rw [HLS.out]; omega) | (have := HLS.out; omega), by first | (rw [HLC.out]; omega) | (have := HLC.out; omega), B10.out⟩)
                clear hbel hall
                go_wp2
                go_roundw
                case rel => exact R.out
                case measure => simp [intOf]; have := HLT.out; omega
          · have n11 : (d == 1) = false := by simp [hq1]
            have n12 : decide (d = 1) = false := by simp [hq1]
            by_cases hq2 : d = 2
            · subst hq2
              go_wp2_with fail
              generalize hW : wr.alloc (.cells #[.int .i64 2, .int .i64 i, .int .i64 p, .int .u32 (m : Int), .int .i64 to, .slice Ab nb cb] 100) = w4
              have hb : Below wr.heap.size wr w4 := by rw [← hW]; exact (Below.refl _ wr).alloc (Nat.le_refl _) _
              have N4 := Lib.hid (N0.out.below hb); have B4 := Lib.hid (HB.out.trans (hb.mono HB.out.size)); have BB4 := Lib.hid (hb.mono HB.out.size)
              have RB4 := Lib.hid ((RB.out.below (hb.mono HB.out.size)).more B4.out.size)
              have Z4 : Hid (Blk w4 wr.heap.size 100 #[.int .i64 2, .int .i64 i, .int .i64 p, .int .u32 (m : Int), .int .i64 to, .slice Ab nb cb]) := Lib.hid (by rw [← hW]; exact Blk.new wr _ _)
              clear hb hW d0 d1 d2 d3 d4 d5
              refine (NDblQ_any w4 g S (OffT (fun j => (Value.slice (some ⟨g4, 0, none⟩) nc c4).ownBlock = some j ∨ (Value.slice A5 ns c5).ownBlock = some j)) row i N4.out.2.2.1 (N4.out.qnew (Nat.le_refl _)) HI.out.1 HI.out.2 HF.out.1 (fun x hx => by have := (HF.out.2.1 x hx).1; omega)).mono ?_
              rintro en w5 ⟨rfl, S5, hd5, hT⟩
              have N5 := Lib.hid (N4.out.net B4.out.size hT hd5)
              have B5 := Lib.hid (B4.out.trans (hT.2.to_below B4.out.size N4.out.2.2.2.2.2))
              have F5 := Lib.hid (HF.out.dbl i)
              have R := Lib.hid (show TRS w g len (.slice (some ⟨g4, 0, none⟩) nc c4) (.slice A5 ns c5) (.int .i64 ((k : Int) + 1)) w5 from ⟨k + 1, S5, (Nm.dbl row i).2, sl, cl, by go_num, HLT.out, N5.out, NEC.out, F5.out, H300.out, by first | (rw [HLS.out]; omega) | (have := HLS.out; omega), by first | (rw [HLC.out]; omega) | (have := HLC.out; omega), B5.out⟩)
              clear hd5 hT
              go_wp2
              go_roundw
              case rel => exact R.out
              case measure => simp [intOf]; have := HLT.out; omega
            · have n21 : (d == 2) = false := by simp [hq2]
              have n22 : decide (d = 2) = false := by simp [hq2]
              by_cases hq3 : d = 3
              · subst hq3
                go_wp2_with fail
                generalize hW : wr.alloc (.cells #[.int .i64 3, .int .i64 i, .int .i64 p, .int .u32 (m : Int), .int .i64 to, .slice Ab nb cb] 100) = w4
                have hb : Below wr.heap.size wr w4 := by rw [← hW]; exact (Below.refl _ wr).alloc (Nat.le_refl _) _
                have N4 := Lib.hid (N0.out.below hb); have B4 := Lib.hid (HB.out.trans (hb.mono HB.out.size)); have BB4 := Lib.hid (hb.mono HB.out.size)
                have RB4 := Lib.hid ((RB.out.below (hb.mono HB.out.size)).more B4.out.size)
                have Z4 : Hid (Blk w4 wr.heap.size 100 #[.int .i64 3, .int .i64 i, .int .i64 p, .int .u32 (m : Int), .int .i64 to, .slice Ab nb cb]) := Lib.hid (by rw [← hW]; exact Blk.new wr _ _)
                clear hb hW d0 d1 d2 d3 d4 d5
                refine (NTurnQ_any w4 g S (OffT (fun j => (Value.slice (some ⟨g4, 0, none⟩) nc c4).ownBlock = some j ∨ (Value.slice A5 ns c5).ownBlock = some j)) row i p m N4.out.2.2.1 (N4.out.qnew (Nat.le_refl _)) HI.out.1 HI.out.2 HPP.out.1 HPP.out.2 HMM.out HF.out.1 (fun x hx => by have := (HF.out.2.1 x hx).1; omega)).mono ?_
                rintro en w5 ⟨rfl, S5, hd5, hT⟩
                have hn5 := N4.out.net B4.out.size hT hd5
                have B5 := Lib.hid (B4.out.trans (hT.2.to_below B4.out.size N4.out.2.2.2.2.2))
                have Z5 := Lib.hid (hT.2.blk Z4.out (fun hs => by have := N0.out.lt _ hs; omega))
                obtain ⟨hF0, hF1⟩ := HF.out.trn i p m
                obtain ⟨r, hr⟩ : ∃ r, Nm.trn row i p m = r := ⟨_, rfl⟩
                rw [hr] at hn5 hF0 hF1 ⊢
                clear hT hd5 hr
                obtain ⟨tb, row5⟩ := r
                simp only at hn5 hF0 hF1 ⊢
                have N5 := Lib.hid hn5; have F1 := Lib.hid hF1
                cases tb with
                | false =>
                  have F5 := Lib.hid (hF0 rfl)
                  clear hF0 hF1 hn5
                  have R := Lib.hid (show TRS w g len (.slice (some ⟨g4, 0, none⟩) nc c4) (.slice A5 ns c5) (.int .i64 ((k : Int) + 1)) w5 from ⟨k + 1, S5, row5, sl, cl, by go_num, HLT.out, N5.out, NEC.out, F5.out, H300.out, by first | (rw [HLS.out]; omega) | (have := HLS.out; omega), by first | (rw [HLC.out]; omega) | (have := HLC.out; omega), B5.out⟩)
                  go_wp2
                  go_roundw
                  case rel => exact R.out
                  case measure => simp [intOf]; have := HLT.out; omega
                | true =>
                  clear hF0 hF1 hn5
                  go_wp2
                  go_loopw [4, 98] (fun s4 s98 wq => ∃ j : Nat, s98 = .int .i64 (j : Int) ∧ j ≤ ns ∧ NS wq g w.heap.size S5 s4 (.slice A5 ns c5) (cl ++ (sl.take j).map (trl p m)) sl row5 ∧ s4 ≠ .slice none 0 0 ∧ Blk wq wr.heap.size 100 #[.int .i64 3, .int .i64 i, .int .i64 p, .int .u32 (m : Int), .int .i64 to, .slice Ab nb cb] ∧ Below w.heap.size w wq) (fun _ s98 _ => ns - (intOf s98).toNat)
                  case atStart => exact ⟨0, rfl, Nat.zero_le _, by simpa using N5.out, NEC.out, Z5.out, B5.out⟩
                  case round =>
                    clear N5 Z5 B5 N4 B4 BB4 RB4 Z4 N0 HB
                    obtain ⟨j, rfl, hj, hnq, hneq, hzq, hbq⟩ := hrel
                    have NE6 := Lib.hid hneq
                    obtain ⟨ms0, -, hq2, -⟩ := id hnq.1
                    obtain ⟨g6, c6, rfl, hg6⟩ := own_someS hq2 hneq
                    have hlc : (cl ++ (sl.take j).map (trl p m)).length = nc + j := by rw [List.length_append, List.length_map, List.length_take, HLC.out, HLS.out]; omega
                    rw [hlc] at hnq NE6 ⊢
                    have HLC6 := Lib.hid hlc
                    have N6 := Lib.hid hnq; have Z6 := Lib.hid hzq; have B6 := Lib.hid hbq
                    clear hlc hq2 hg6 hnq hneq hzq hbq ms0
                    by_cases hjl : j < ns
                    · have HJL := Lib.hid hjl
                      have hjI : (j : Int) < (ns : Int) := by omega
                      obtain ⟨A6, c6', hv6, hLR6, -, -⟩ := N6.out.2.1.toL.letR B6.out.size
                      have eA : A5 = A6 := by injection hv6
                      clear hv6
                      subst eA
                      obtain ⟨gy, oy, ty, by', Ay, cy, rfl, hgy, hy, y0, y1, hry, hcy, hcmy, hnoy, h256y⟩ := LetR.row hLR6 (k := j) (by rw [HLS.out]; exact hjl)
                      obtain ⟨ny, hny⟩ : ∃ q, by'.length = q := ⟨_, rfl⟩
                      have h3y := H300.out _ (List.mem_of_getElem? hy)
                      simp only at h3y
                      rw [hny] at y1 hcy h3y
                      have hb7 : Below wr.heap.size wr (wr.alloc (.cells #[.int .i64 ty, .slice Ay ny cy] 98)) := (Below.refl _ wr).alloc (Nat.le_refl _) _
                      have N7 := Lib.hid (N6.out.below hb7); have B7 := Lib.hid (B6.out.trans (hb7.mono B6.out.size)); have Z7 := Lib.hid (Z6.out.below hb7 Z6.out.lt)
                      have E7 := Lib.hid (Blk.new wr 98 #[.int .i64 ty, .slice Ay ny cy])
                      have HT := fun W (hb : Below (wr.alloc (.cells #[.int .i64 ty, .slice Ay ny cy] 98)).heap.size (wr.alloc (.cells #[.int .i64 ty, .slice Ay ny cy] 98)) W) => Lib.hid (RTurn_any W Ay ny cy by' p m ((((hry.below hb7).more hb7.size).below hb).more hb.size) h256y hny (by omega) hnoy HPP.out.1 HPP.out.2 HMM.out)
                      have HNY := Lib.hid hny; have HY := Lib.hid hy; have H256Y := Lib.hid h256y
                      have hw7 : Below (wr.alloc (.cells #[.int .i64 ty, .slice Ay ny cy] 98)).heap.size (wr.alloc (.cells #[.int .i64 ty, .slice Ay ny cy] 98)) (wr.alloc (.cells #[.int .i64 ty, .slice Ay ny cy] 98)).drew := (Below.refl _ _).drew
                      clear hny hcy hcmy hnoy h256y hy hry hb7 hLR6
                      go_wp2
                      obtain ⟨W7, hW7⟩ : ∃ W7, (wr.alloc (.cells #[.int .i64 ty, .slice Ay ny cy] 98)) = W7 := ⟨_, rfl⟩
                      try rw [hW7]
                      rw [hW7] at N7 B7 Z7 E7 HT hw7
                      obtain ⟨gq, hgq⟩ : ∃ q, wr.heap.size = q := ⟨_, rfl⟩
                      rw [hgq] at E7
                      try rw [hgq]
                      have EB := E7.out.lt
                      have a2 := Z7.out.cell 2
                      have a3 := Z7.out.cell 3
                      have b0 := E7.out.cell 0
                      have b1 := E7.out.cell 1
                      simp at a2 a3 b0 b1
                      clear hW7 hgq y0 y1
                      go_region_law (first
                        | (go_simp; go_at_call 66; go_must (refine ((HT _ hw7).out).mono ?_; rintro e w1 ⟨v', rfl, ho, hb⟩; obtain ⟨A2, c2, rfl⟩ := own_sl ho; rw [HNY.out] at ho; have HO := Lib.hid ho; have HBB := Lib.hid (hw7.trans (hb.mono hw7.size)); have y1 := E7.out.below HBB.out E7.out.lt; have y0 := y1.cell 0; have y2 := y1.cell 1; have yl := y1.lt; simp at y0 y2; simp only [HNY.out]; have N8 := Lib.hid ((N7.out.below HBB.out).below ((Below.refl _ w1).alloc (Nat.le_refl _) (.cells #[.int .i64 ty, .slice A2 ny c2] 103))); obtain ⟨ms, m1, m2, m3⟩ := N8.out.1; have M1 := Lib.hid m1; have M2 := Lib.hid m2; have M3 := Lib.hid m3; rw [HLC6.out] at m2; have M2' := Lib.hid m2; have HW2 : Hid (w.heap.size ≤ (w1.alloc (.cells #[.int .i64 ty, .slice A2 ny c2] 103)).heap.size) := Lib.hid (by have h1 := B7.out.size; have h2 := HBB.out.size; simp; omega); clear ho hb y1 m1 m2 m3; go_simp))
                        | (go_must (refine step_append_lies _ rfl (.tmp 102) (.tmp 113) 92 rfl w.heap.size 103 i0 (.agg #[.int .i64 0, .slice none 0 0]) 2 32 Try.underlying92 hi hz0 hz1 hz2 rfl (by decide) _ (nc + j) (fl2 ms) (by simp [Act.eval, Act.put]) M2'.out ⟨w1.heap.size, 0, none⟩ 1 1 [.int .i64 ty, .slice A2 ny c2] (by simp [Act.eval, Act.put]) rfl (nw2 w1 _ _ _) (by intro u hu; simp at hu; rcases hu with rfl | rfl <;> rfl) (by decide) (by unfold maxLen; omega) (by omega) HW2.out _ rfl ?_; intro q cap w3 ho3 hg3 hat3 hlt3; have HO3 := Lib.hid ho3; have HG3 := Lib.hid hg3; have HAT := Lib.hid hat3; clear ho3 hg3 hat3 hlt3; go_simp))
                        | fail)
                      all_goals (
                        have HR := Lib.hid (show ∃ j' : Nat, (Value.int .i64 ((j : Int) + 1)) = .int .i64 (j' : Int) ∧ j' ≤ ns ∧ NS w3 g w.heap.size S5 (.slice (some ⟨q, 0, none⟩) (nc + j + 1) cap) (.slice (some ⟨gy, oy, none⟩) ns c5) (cl ++ (sl.take j').map (trl p m)) sl row5 ∧ (Value.slice (some ⟨q, 0, none⟩) (nc + j + 1) cap) ≠ .slice none 0 0 ∧ Blk w3 _ 100 #[.int .i64 3, .int .i64 i, .int .i64 p, .int .u32 (m : Int), .int .i64 to, .slice Ab nb cb] ∧ Below w.heap.size w w3 from by
                          have etk : (sl.take (j + 1)).map (trl p m) = (sl.take j).map (trl p m) ++ [(ty, Cm.turn by' p m)] := by rw [List.take_add_one, HY.out]; simp [trl]
                          have hb8 := (Below.refl _ w1).alloc (Nat.le_refl w1.heap.size) (.cells #[.int .i64 ty, .slice A2 ny c2] 103)
                          have hO := Only.of_grown (S := fun x => (Value.slice (some ⟨g6, 0, none⟩) (nc + j) c6).ownBlock = some x) HG3.out (fun x hx => hx)
                          have hat : (Value.slice (some ⟨q, 0, none⟩) (nc + j + 1) cap).ownBlock = (Value.slice (some ⟨g6, 0, none⟩) (nc + j) c6).ownBlock ∨ (Value.slice (some ⟨q, 0, none⟩) (nc + j + 1) cap).ownBlock = some (w1.alloc (.cells #[.int .i64 ty, .slice A2 ny c2] 103)).heap.size := by
                            rcases HAT.out with h | h
                            · left; rw [h]; rfl
                            · right; rw [h]; simp [Value.ownBlock]
                          have hmd := made_of_own HO.out (by rw [Cm.turn_length, HNY.out]) (Cm.turn_byte H256Y.out p m)
                          refine ⟨j + 1, by go_num, HJL.out, ?_, by simp, ?_, ?_⟩
                          · rw [etk, ← List.append_assoc]
                            refine N8.out.pushC M1.out M2.out M3.out (by rw [HLC6.out]; exact HO3.out) HG3.out hat ?_
                            refine MadeO.below (N7.out.fresh ?_ (fun b o n c hv => ⟨by have h9 := (HO.out.lt b (by rw [hv]; rfl)).1; have h8 := hw7.size; omega, fun h => h⟩)) hb8
                            rw [Cm.turn_length, HNY.out]
                            exact hmd
                          · refine hO.blk (((Z7.out.below HBB.out Z7.out.lt)).below hb8 (Nat.lt_of_lt_of_le Z7.out.lt HBB.out.size)) (fun hx => ?_)
                            exact own_ne_blk M2'.out (((Z7.out.below HBB.out Z7.out.lt)).below hb8 (Nat.lt_of_lt_of_le Z7.out.lt HBB.out.size)) (by decide) _ hx rfl
                          · exact ((B7.out.trans (HBB.out.mono B7.out.size)).trans (hb8.mono (by have h1 := B7.out.size; have h2 := HBB.out.size; omega))).trans (hO.to_below HW2.out (fun x hx => (M2'.out.lt x hx).1)))
                        clear HT HO3 HG3 HAT N8 M1 M2 M3 M2' HO
                        go_wp2
                        go_roundw
                        case rel => exact HR.out
                        case measure => simp [intOf]; have := HJL.out; omega)
                    · obtain rfl : j = ns := by omega
                      have N9 : Hid (NS wr g w.heap.size S5 (.slice (some ⟨g6, 0, none⟩) (nc + j) c6) (.slice A5 j c5) (cl ++ sl.map (trl p m)) sl row5) := Lib.hid (by have h := N6.out; rw [List.take_of_length_le (by rw [HLS.out]; exact Nat.le_refl _)] at h; exact h)
                      have HLC9 : Hid ((cl ++ sl.map (trl p m)).length = nc + j) := Lib.hid (by rw [List.length_append, List.length_map, HLC.out, HLS.out])
                      have R := Lib.hid (show TRS w g len (.slice (some ⟨g6, 0, none⟩) (nc + j) c6) (.slice A5 j c5) (.int .i64 ((k : Int) + 1)) wr from ⟨k + 1, S5, row5, sl, cl ++ sl.map (trl p m), by go_num, HLT.out, N9.out, NE6.out, F1.out, H300.out, by first | (rw [HLS.out]; omega) | (have := HLS.out; omega), by first | (rw [HLC9.out]; omega) | (have := HLC9.out; omega), B6.out⟩)
                      clear N6
                      go_wp2
                      go_roundw
                      case rel => exact R.out
                      case measure => simp [intOf]; have := HLT.out; omega
              · have n31 : (d == 3) = false := by simp [hq3]
                have n32 : decide (d = 3) = false := by simp [hq3]
                have hb : Below wr.heap.size wr (wr.alloc (.cells #[.int .i64 d, .int .i64 i, .int .i64 p, .int .u32 (m : Int), .int .i64 to, .slice Ab nb cb] 100)) := (Below.refl _ wr).alloc (Nat.le_refl _) _
                have N4 := Lib.hid (N0.out.below hb); have B4 := Lib.hid (HB.out.trans (hb.mono HB.out.size))
                clear hb
                have R := Lib.hid (show TRS w g len (.slice (some ⟨g4, 0, none⟩) nc c4) (.slice A5 ns c5) (.int .i64 ((k : Int) + 1)) (wr.alloc (.cells #[.int .i64 d, .int .i64 i, .int .i64 p, .int .u32 (m : Int), .int .i64 to, .slice Ab nb cb] 100)) from ⟨k + 1, S, row, sl, cl, by go_num, HLT.out, N4.out, NEC.out, HF.out, H300.out, by first | (rw [HLS.out]; omega) | (have := HLS.out; omega), by first | (rw [HLC.out]; omega) | (have := HLC.out; omega), B4.out⟩)
                go_wp2
                go_roundw
                case rel => exact R.out
                case measure => simp [intOf]; have := HLT.out; omega
      · obtain rfl : k = len := by omega
        have HP := Lib.hid (show TrueN w (.returned (.bool true)) wr from ⟨rfl, HB.out⟩)
        clear hN hF h300 hbel
        go_wp2
        go_ret
        exact HP.out
end Go.Proofs.Ytahichieakdbnaa
