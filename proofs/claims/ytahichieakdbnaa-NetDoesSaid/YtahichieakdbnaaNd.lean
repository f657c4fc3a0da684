/- law 21's NetAll: the walk. -/
import Derived.Test.YtahichieakdbnaaNc
namespace Go.Proofs.Ytahichieakdbnaa
open Go.ChangeShapes Go.WideShapes Go.ChangeAt Go.RowKit Go.Maps
set_option linter.unusedVariables false
set_option linter.unusedSimpArgs false

def AR (w : World) (g len : Nat) (s : Value) (wr : World) : Prop :=
  ∃ (k : Nat) (S : Nat → Prop) (row : List Snt), s = .int .i64 (k : Int) ∧ k ≤ len ∧ NetM wr g S row ∧ row.length ≤ 64 ∧ Nm.Fine 300 row ∧ (∀ j, S j → w.heap.size ≤ j) ∧ Below w.heap.size w wr
theorem take0 {row : List Snt} {x : Snt} {r : List Snt} (h : row = x :: r) : Nm.take row 0 = ((x.1, true), r) := by
  subst h
  unfold Nm.take Nm.plc
  rw [if_neg (by simp)]
  simp
theorem take00 : Nm.take [] 0 = (((0, []), false), []) := rfl
theorem NetQ.grow {w w' : World} {g B : Nat} {S T : Nat → Prop} {row : List Snt} (h : NetQ w g S (Low B) row) (hO : Only T w w') (hT : ∀ j, T j → B ≤ j) (hS : ∀ j, S j → j < B) : NetQ w' g S (Low B) row := by
  obtain ⟨v, ms, h1, h2, h3, h4, h5⟩ := h
  refine ⟨v, ms, hO.blk h1 (fun ht => by have := hT g ht; have := hS g ((h4 g).2 (.inl rfl)); omega), hO.own h2 (fun j hj ht => by have := hT j ht; have := hS j ((h4 j).2 (.inr hj)); omega), ⟨h3.1, fun j m x hm hx => ⟨(h3.2 j m x hm hx).1, (h3.2 j m x hm hx).2.1, (h3.2 j m x hm hx).2.2.other hO (fun b o n c hv hn ht => ?_)⟩⟩, h4, h5⟩
  have h6 := (h3.2 j m x hm hx).2.2.1
  obtain ⟨A', c', e, -, he, -⟩ := id h6
  rw [hv] at e
  injection e with e1 e2 e3
  have := h5 j m hm b o n c hv (by rw [e2]; exact List.length_pos_iff.2 hn)
  have := hT b ht
  omega
/-- letters are taken one by one -/
def OutR (w : World) (g : Nat) (S : Nat → Prop) (B : Nat) (row0 : List Snt) (s7 s61 : Value) (wr : World) : Prop :=
  ∃ j : Nat, s61 = .int .i64 (j : Int) ∧ j ≤ row0.length ∧ NetQ wr g S (Low B) (row0.drop j) ∧ LRowX 98 wr B S s7 ((row0.map (·.1)).take j) ∧ B ≤ wr.heap.size ∧ (∀ q, S q → q < B)
set_option maxRecDepth 100000 in
set_option maxHeartbeats 12000000 in
theorem NetAll_walk (w : World) (A : Option Addr) (len cap : Nat) (ys : List ActN) (hn : ys.length = len) (hlc : len ≤ cap) (hcm : cap ≤ maxLen) (hr : ActsN w w.heap.size A ys) :
    Calls Try.prog 12 #[.slice A len cap] w (TrueN w) := by
  obtain ⟨i0, hi, hz0, hz1, hz2⟩ := info_parts infoLet
  have HN := Lib.hid hn; have HLC := Lib.hid hlc; have HCM := Lib.hid hcm; have HR := Lib.hid hr
  have hcm' : cap ≤ 9223372036854775807 := hcm
  clear hn hr hcm
  go_enter Try.func12, Try.ntmps12
  go_wp2_with fail
  refine (awake21_any w).mono ?_
  rintro en w1 ⟨rfl, hb1⟩
  have B1 := Lib.hid hb1; clear hb1
  go_wp2_with fail
  refine (large21_any w1 A len cap ys (ActsN.step HR.out B1.out) HN.out HLC.out HCM.out).mono ?_
  rintro en w2 ⟨⟨lb, rfl, hfine⟩, hb2⟩
  have B2 := Lib.hid (B1.out.trans (hb2.mono B1.out.size)); have HFI := Lib.hid hfine
  clear hb2 hfine
  cases lb with
  | true =>
    have HP := Lib.hid (show TrueN w (.returned (.bool true)) w2 from ⟨rfl, B2.out⟩)
    go_wp2
    go_ret
    exact HP.out
  | false =>
    obtain ⟨h100, hsh⟩ := HFI.out rfl
    have HSH := Lib.hid hsh
    have hl100 : len ≤ 100 := by rw [← HN.out]; exact h100
    clear hsh HFI h100
    go_wp2_with fail
    refine (NNew_any w2).mono ?_
    rintro en w3 ⟨g, S3, rfl, hd, hS, hb⟩
    have START := Lib.hid (show AR w g len (.int .i64 0) w3 from ⟨0, S3, [], rfl, Nat.zero_le _, hd, by simp, fun x hx => by simp at hx, fun j hj => Nat.le_trans B2.out.size (hS j hj), B2.out.trans (hb.mono B2.out.size)⟩)
    clear hd hS hb
    go_wp2
    go_loopw [21] (fun s21 wr => AR w g len s21 wr) (fun s21 _ => len - (intOf s21).toNat)
    case atStart => exact START.out
    case round =>
      clear START
      obtain ⟨k, S, row, rfl, hk, hd, hrl, hF, hS, hbel⟩ := hrel
      have HB := Lib.hid hbel; have D0 := Lib.hid hd; have HRL := Lib.hid hrl; have HF := Lib.hid hF; have AS := Lib.hid hS
      by_cases hlt : k < len
      · obtain ⟨ga, o', d, i, p, m, to, bs, Ab, cb, rfl, hga, hp, ⟨d0, d1, d2, d3, d4, d5⟩, hrb, hbc, hbm, hbn, hb256, hI, hPP, hM⟩ := ActsN.row (ActsN.below HR.out hbel) (k := k) (by rw [HN.out]; exact hlt)
        have hgw : ga < wr.heap.size := World.block_lt_of_cell? _ _ d0
        have hltI : (k : Int) < (len : Int) := by omega
        have hl3 := HSH.out k _ hp
        simp only at hl3
        obtain ⟨nb, hnb⟩ : ∃ q, bs.length = q := ⟨_, rfl⟩
        rw [hnb] at d5 hbc hl3
        have HNB := Lib.hid hnb; have RB := Lib.hid hrb; have H256 := Lib.hid hb256; have HNO := Lib.hid hbn; have HI := Lib.hid hI; have HP' := Lib.hid hPP; have HM32 := Lib.hid hM; have HLT := Lib.hid hlt
        clear hd hrl hF hS hbel hp hnb hrb hb256 hbn hI hPP hM hbm
        by_cases hq0 : d = 0
        · subst hq0
          go_wp2_with fail
          generalize hW : wr.alloc (.cells #[.int .i64 0, .int .i64 i, .int .i64 p, .int .u32 (m : Int), .int .i64 to, .slice Ab nb cb] 100) = w4
          have hb : Below wr.heap.size wr w4 := by rw [← hW]; exact (Below.refl _ wr).alloc (Nat.le_refl _) _
          have D4 := Lib.hid (D0.out.below hb); have B4 := Lib.hid (HB.out.trans (hb.mono HB.out.size))
          have RB4 := Lib.hid ((RB.out.below (hb.mono HB.out.size)).more B4.out.size)
          clear hb hW d0 d1 d2 d3 d4 d5
          refine (NSend_any w4 g S row to Ab nb cb bs D4.out RB4.out H256.out HNB.out (by omega) hbc HNO.out HRL.out).mono ?_
          rintro en w5 ⟨rfl, S5, hd5, hT⟩
          have R := Lib.hid (show AR w g len (.int .i64 ((k : Int) + 1)) w5 from ⟨k + 1, S5, _, by go_num, HLT.out, hd5, Nm.send_len HRL.out, Nm.Fine.send HF.out (by simp only; rw [HNB.out]; omega) H256.out, hT.1.above B4.out.size AS.out, B4.out.trans (hT.2.to_below B4.out.size AS.out)⟩)
          clear hd5 hT
          go_wp2
          go_roundw
          case rel => exact R.out
          case measure => simp [intOf]; have := HLT.out; omega
        · have n01 : (d == 0) = false := by simp [hq0]
          have n02 : decide (d = 0) = false := by simp [hq0]
          by_cases hq1 : d = 1
          · subst hq1
            go_wp2_with fail
            generalize hW : wr.alloc (.cells #[.int .i64 1, .int .i64 i, .int .i64 p, .int .u32 (m : Int), .int .i64 to, .slice Ab nb cb] 100) = w4
            have hb : Below wr.heap.size wr w4 := by rw [← hW]; exact (Below.refl _ wr).alloc (Nat.le_refl _) _
            have D4 := Lib.hid (D0.out.below hb); have B4 := Lib.hid (HB.out.trans (hb.mono HB.out.size))
            have RB4 := Lib.hid ((RB.out.below (hb.mono HB.out.size)).more B4.out.size)
            clear hb hW d0 d1 d2 d3 d4 d5
            refine (NTake_any w4 g S row i D4.out HI.out.1 HI.out.2 HRL.out (fun x hx => by have := (HF.out x hx).1; omega)).mono ?_
            rintro en w5 ⟨R5, C5, rfl, hd5, hT, -⟩
            have R := Lib.hid (show AR w g len (.int .i64 ((k : Int) + 1)) w5 from ⟨k + 1, S, _, by go_num, HLT.out, hd5, Nm.take_len HRL.out, Nm.Fine.take HF.out, AS.out, B4.out.trans (hT.2.to_below B4.out.size AS.out)⟩)
            clear hd5 hT
            go_wp2
            go_roundw
            case rel => exact R.out
            case measure => simp [intOf]; have := HLT.out; omega
          · have n11 : (d == 1) = false := by simp [hq1]
            have n12 : decide (d = 1) = false := by simp [hq1]
            by_cases hq2 : d = 2
            · subst hq2
              go_wp2_with fail
              generalize hW : wr.alloc (.cells #[.int .i64 2, .int .i64 i, .int .i64 p, .int .u32 (m : Int), .int .i64 to, .slice Ab nb cb] 100) = w4
              have hb : Below wr.heap.size wr w4 := by rw [← hW]; exact (Below.refl _ wr).alloc (Nat.le_refl _) _
              have D4 := Lib.hid (D0.out.below hb); have B4 := Lib.hid (HB.out.trans (hb.mono HB.out.size))
              have RB4 := Lib.hid ((RB.out.below (hb.mono HB.out.size)).more B4.out.size)
              clear hb hW d0 d1 d2 d3 d4 d5
              refine (NDbl_any w4 g S row i D4.out HI.out.1 HI.out.2 HRL.out (fun x hx => by have := (HF.out x hx).1; omega)).mono ?_
              rintro en w5 ⟨rfl, S5, hd5, hT⟩
              have R := Lib.hid (show AR w g len (.int .i64 ((k : Int) + 1)) w5 from ⟨k + 1, S5, _, by go_num, HLT.out, hd5, Nm.dbl_len HRL.out, Nm.Fine.dbl HF.out, hT.1.above B4.out.size AS.out, B4.out.trans (hT.2.to_below B4.out.size AS.out)⟩)
              clear hd5 hT
              go_wp2
              go_roundw
              case rel => exact R.out
              case measure => simp [intOf]; have := HLT.out; omega
            · have n21 : (d == 2) = false := by simp [hq2]
              have n22 : decide (d = 2) = false := by simp [hq2]
              by_cases hq3 : d = 3
              · subst hq3
                go_wp2_with fail
                generalize hW : wr.alloc (.cells #[.int .i64 3, .int .i64 i, .int .i64 p, .int .u32 (m : Int), .int .i64 to, .slice Ab nb cb] 100) = w4
                have hb : Below wr.heap.size wr w4 := by rw [← hW]; exact (Below.refl _ wr).alloc (Nat.le_refl _) _
                have D4 := Lib.hid (D0.out.below hb); have B4 := Lib.hid (HB.out.trans (hb.mono HB.out.size))
                have RB4 := Lib.hid ((RB.out.below (hb.mono HB.out.size)).more B4.out.size)
                clear hb hW d0 d1 d2 d3 d4 d5
                refine (NTurn_any w4 g S row i p m D4.out HI.out.1 HI.out.2 HP'.out.1 HP'.out.2 HM32.out HRL.out (fun x hx => by have := (HF.out x hx).1; omega)).mono ?_
                rintro en w5 ⟨rfl, S5, hd5, hT⟩
                have R := Lib.hid (show AR w g len (.int .i64 ((k : Int) + 1)) w5 from ⟨k + 1, S5, _, by go_num, HLT.out, hd5, Nm.trn_len HRL.out, Nm.Fine.trn HF.out, hT.1.above B4.out.size AS.out, B4.out.trans (hT.2.to_below B4.out.size AS.out)⟩)
                clear hd5 hT
                go_wp2
                go_roundw
                case rel => exact R.out
                case measure => simp [intOf]; have := HLT.out; omega
              · have n31 : (d == 3) = false := by simp [hq3]
                have n32 : decide (d = 3) = false := by simp [hq3]
                have R := Lib.hid (show AR w g len (.int .i64 ((k : Int) + 1)) (wr.alloc (.cells #[.int .i64 d, .int .i64 i, .int .i64 p, .int .u32 (m : Int), .int .i64 to, .slice Ab nb cb] 100)) from ⟨k + 1, S, row, by go_num, HLT.out, D0.out.below ((Below.refl _ wr).alloc (Nat.le_refl _) _), HRL.out, HF.out, AS.out, HB.out.alloc HB.out.size _⟩)
                go_wp2
                go_roundw
                case rel => exact R.out
                case measure => simp [intOf]; have := HLT.out; omega
      · obtain rfl : k = len := by omega
        clear hd hrl hF hS hbel hlt
        go_wp2_with fail
        refine (NAll_any wr g S row D0.out HRL.out (fun x hx => by have := (HF.out x hx).1; omega)).mono ?_
        rintro en w5 ⟨vA, rfl, hL, hb⟩
        obtain ⟨AA, cA, rfl, hLA, hca, hcam⟩ := hL.toL.letR hb.size
        have LX := Lib.hid hL
        have HBS := Lib.hid hb
        have D5 := Lib.hid (D0.out.below hb); have B5 := Lib.hid (HB.out.trans (hb.mono HB.out.size)); have LA := Lib.hid hLA
        obtain ⟨nr, hnr⟩ : ∃ q, row.length = q := ⟨_, rfl⟩
        have hml : (row.map (·.1)).length = nr := by rw [List.length_map, hnr]
        have HNR := Lib.hid hnr
        have hn64 : nr ≤ 64 := by rw [← hnr]; exact HRL.out
        simp only [hml]
        clear hL hLA hb hca hcam hml hnr
        have hb6 : Below w5.heap.size w5 (w5.alloc (.cells #[] 98)) := (Below.refl _ w5).alloc (Nat.le_refl _) _
        have START := Lib.hid (show OutR w g S w5.heap.size row (.slice (some ⟨w5.heap.size, 0, none⟩) 0 0) (.int .i64 0) (w5.alloc (.cells #[] 98)) from ⟨0, rfl, Nat.zero_le _, (NetM.toL D5.out).below hb6, LRowX.lit _ w5 _ _ (Nat.le_refl _), hb6.size, D5.out.lt⟩)
        have HB6 := Lib.hid (Only.of_below (S := S) hb6)
        clear hb6
        go_wp2
        go_loopw [7, 61] (fun s7 s61 wr => OutR w g S w5.heap.size row s7 s61 wr ∧ Only S w5 wr) (fun _ s61 _ => nr - (intOf s61).toNat)
        case atStart => exact ⟨START.out, HB6.out⟩
        case round =>
          clear START
          obtain ⟨⟨j, rfl, hj, hq, hL, hBw, hSB⟩, hb5⟩ := hrel
          rw [HNR.out] at hj
          have HQ := Lib.hid hq; have HB5 := Lib.hid hb5; have HSB := Lib.hid hSB; have HBW := Lib.hid hBw
          have HFD : Hid (∀ x ∈ row.drop j, x.1.2.length ≤ 1099511627776) := Lib.hid (fun x hx => by have := (HF.out x (List.mem_of_mem_drop hx)).1; omega)
          have hdl : (row.drop j).length ≤ 64 := by rw [List.length_drop]; have := HRL.out; omega
          have HDL := Lib.hid hdl
          by_cases hjl : j < nr
          · have hjI : (j : Int) < (nr : Int) := by omega
            obtain ⟨x, hx⟩ : ∃ x, row[j]? = some x := ⟨_, List.getElem?_eq_getElem (by rw [HNR.out]; exact hjl)⟩
            have hdr : row.drop j = x :: row.drop (j + 1) := by
              have hjr : j < row.length := by rw [HNR.out]; exact hjl
              rw [List.drop_eq_getElem_cons hjr]
              rw [List.getElem?_eq_getElem hjr] at hx
              injection hx with hx
              rw [hx]
            have HT0 := Lib.hid (take0 hdr)
            obtain ⟨⟨to, bs⟩, sp⟩ := x
            have hlk : ((row.map (·.1)).take j).length = j := by rw [List.length_take, List.length_map, HNR.out]; omega
            obtain ⟨A3, c3, rfl⟩ := own_sl hL.toL.choose_spec.2.1
            obtain ⟨nb, hnb⟩ : ∃ q, bs.length = q := ⟨_, rfl⟩
            have HNB := Lib.hid hnb; have HX := Lib.hid hx; have HLL := Lib.hid hL
            have HLK := Lib.hid hlk; have HJ := Lib.hid hjl
            have HTK := Lib.hid (NTakeQ_any wr g S (Low w5.heap.size) (row.drop j) 0 hq (by omega) (by omega) hdl HFD.out)
            rw [HT0.out] at HTK
            simp only [hlk]
            clear hq hL hb5 hSB hBw hdl hdr hx hlk hnb
            go_wp2_with fail
            refine HTK.out.mono ?_
            rintro en w6 ⟨R6, C6, rfl, hq6, hT6, hm6, hl6⟩
            simp only at hq6 hm6 hl6
            simp only [HNB.out] at hm6 hl6 ⊢
            obtain ⟨ms, m1, m2, m3⟩ := HLL.out.turn hT6 (fun q hq hs => by have := (HLL.out.choose_spec.2.1.lt q hq).1; have := HSB.out q hs; omega)
            have hb8 := ((Below.refl w6.heap.size w6).alloc (Nat.le_refl _) (.cells #[.int .i64 to, .slice R6 nb C6] 98)).alloc (by simp) (.cells #[.int .i64 to, .slice R6 nb C6] 98)
            have Q6 := Lib.hid (hq6.below hb8); have LW := Lib.hid (hl6 (by simp)); have M1 := Lib.hid m1; have M2 := Lib.hid (own_below m2 hb8)
            have MD := Lib.hid (hm6.below hb8)
            have M3 : Hid (∀ (i : Nat) (m : Int × Value) (x : Let), ms[i]? = some m → ((row.map (·.1)).take j)[i]? = some x → m.1 = x.1 ∧ MadeO ((w6.alloc (.cells #[.int .i64 to, .slice R6 nb C6] 98)).alloc (.cells #[.int .i64 to, .slice R6 nb C6] 98)) (fun q => S q ∨ (Value.slice A3 ((row.map (·.1)).take j).length c3).ownBlock = some q) m.2 x.2 x.2.length) := Lib.hid (fun i m x hm hx => ⟨(m3 i m x hm hx).1, (m3 i m x hm hx).2.below hb8⟩)
            have M2' : Hid (World.ownsRow ((w6.alloc (.cells #[.int .i64 to, .slice R6 nb C6] 98)).alloc (.cells #[.int .i64 to, .slice R6 nb C6] 98)) w5.heap.size 98 2 (.slice A3 j c3) j (fl2 ms)) := Lib.hid (by have h := M2.out; simp only [HLK.out] at h; exact h)
            have O6 := Lib.hid (hT6.2.trans (Only.of_below (S := S) hb8) (Sub.refl _ _))
            have hs6 := hT6.2.size
            have HW2 : Hid (w5.heap.size ≤ ((w6.alloc (.cells #[.int .i64 to, .slice R6 nb C6] 98)).alloc (.cells #[.int .i64 to, .slice R6 nb C6] 98)).heap.size) := Lib.hid (by have := HBW.out; simp; omega)
            have HNW := Lib.hid (nw2 (w6.alloc (.cells #[.int .i64 to, .slice R6 nb C6] 98)) 98 (.int .i64 to) (.slice R6 nb C6))
            rw [show (w6.alloc (.cells #[.int .i64 to, .slice R6 nb C6] 98)).heap.size = w6.heap.size + 1 by simp] at HNW
            clear hq6 hT6 hm6 hl6 m1 m2 m3 hb8
            go_wp2_with (at_builtin; go_must (refine wpList_append_own_at _ rfl (.tmp 70) (.tmp 72) 110 rfl w5.heap.size 98 i0 (.agg #[.int .i64 0, .slice none 0 0]) 2 32 Try.underlying110 hi hz0 hz1 hz2 rfl (by decide) _ j (fl2 ms) rfl M2'.out ⟨w6.heap.size + 1, 0, none⟩ 1 1 [.int .i64 to, .slice R6 nb C6] rfl rfl HNW.out (by intro u hu; simp at hu; rcases hu with rfl | rfl <;> rfl) (by unfold maxLen; omega) (by omega) HW2.out ?_; intro v3 w9 ho3 hg3 hn3 hat3; have HO3 := Lib.hid ho3; have HG3 := Lib.hid hg3; have HAT := Lib.hid hat3; clear ho3 hg3 hn3 hat3))
            go_roundw
            case rel =>
              have hO9 := Only.of_grown (S := fun q => (Value.slice A3 j c3).ownBlock = some q) HG3.out (fun q hq => hq)
              have htk : (row.map (·.1)).take (j + 1) = (row.map (·.1)).take j ++ [(to, bs)] := by
                rw [List.take_add_one, List.getElem?_map, HX.out]; rfl
              have hown : ∀ q, (Value.slice A3 j c3).ownBlock = some q → w5.heap.size ≤ q := fun q hq => (M2'.out.lt q hq).1
              refine ⟨⟨j + 1, by go_num, by rw [HNR.out]; omega, Q6.out.grow hO9 hown HSB.out, ?_, by have := HW2.out; have := HG3.out.size; omega, HSB.out⟩, (HB5.out.trans O6.out (Sub.refl _ _)).trans hO9 (fun q hq => .inr (hown q hq))⟩
              rw [htk]
              refine LRowX.push (ms := ms) (v := .slice A3 ((row.map (·.1)).take j).length c3) M1.out M2.out M3.out (by rw [HLK.out]; exact HO3.out) (by rw [HLK.out]; exact HG3.out) (by rw [HLK.out]; exact HAT.out) ?_
              refine ⟨by have h := MD.out.1; rw [HNB.out]; exact h, fun b o n' c' hv hne hj => ?_⟩
              rcases hj with hj | hj
              · exact MD.out.2 b o n' c' hv hne hj
              · have h5 := LW.out b o n' c' hv (by injection hv with _ e2 _; rw [← e2, ← HNB.out]; exact List.length_pos_iff.2 hne)
                have h6 := hown b (by rw [HLK.out] at hj; exact hj)
                omega
            case measure => simp [intOf]; have := HJ.out; omega
          · obtain rfl : j = nr := by omega
            have hdn : row.drop j = [] := List.drop_eq_nil_of_le (by rw [HNR.out]; exact Nat.le_refl _)
            have htn : (row.map (·.1)).take j = row.map (·.1) := List.take_of_length_le (by rw [List.length_map, HNR.out]; exact Nat.le_refl _)
            rw [htn] at hL
            have hml : (row.map (·.1)).length = j := by rw [List.length_map, HNR.out]
            have hq0 := hq.toM
            rw [hdn] at hq0
            obtain ⟨AO, cO, rfl, -, -, -⟩ := hL.toL.letR hBw
            have LO := Lib.hid hL
            have HML := Lib.hid hml
            have HTK := Lib.hid (NTake_any wr g S [] 0 hq0 (by omega) (by omega) (by simp) (by simp))
            rw [take00] at HTK
            have hvo : ∀ q, (Value.slice AO (row.map (·.1)).length cO).ownBlock = some q → ¬ S q := fun q hq hs => by have := (LO.out.choose_spec.2.1.lt q hq).1; have := HSB.out q hs; omega
            have HVO := Lib.hid hvo
            simp only [hml]
            clear hq hL hb5 hSB hBw hdl hdn htn hml hq0 hvo
            go_wp2_with fail
            refine HTK.out.mono ?_
            rintro en w6 ⟨R6, C6, rfl, hd6, hT6, -⟩
            have O6 := Lib.hid (HB5.out.trans hT6.2 (Sub.refl _ _))
            have D6 := Lib.hid hd6
            have LO6 := Lib.hid (LO.out.only hT6.2 HVO.out)
            clear hd6 hT6
            go_wp2_with fail
            generalize hW : w6.alloc (.cells #[.int .i64 0, .slice R6 0 C6] 98) = w7
            have hb : Below w6.heap.size w6 w7 := by rw [← hW]; exact (Below.refl _ w6).alloc (Nat.le_refl _) _
            have D7 := Lib.hid (D6.out.below hb); have O7 := Lib.hid (O6.out.trans (Only.of_below (S := S) hb) (Sub.refl _ _)); have LO7 := Lib.hid (LO6.out.below hb)
            clear hb hW
            refine (NLen_any w7 g S [] D7.out).mono ?_
            rintro en w' ⟨rfl, rfl⟩
            obtain ⟨AO', cO', hv, hLR, -, -⟩ := LO7.out.toL.letR O7.out.size
            injection hv with e1 _ e2
            subst e1 e2
            have LRO := Lib.hid hLR
            clear hLR
            go_wp2_with fail
            refine (Lown_any w7 AO j cO (row.map (·.1)) LRO.out HML.out (by omega)).mono ?_
            rintro en w8 ⟨v8, rfl, hL8, hb8⟩
            obtain ⟨A8, c8, rfl, hR8, -, -⟩ := hL8.letR hb8.size
            have R8 := Lib.hid hR8; have O8 := Lib.hid (O7.out.trans (Only.of_below (S := S) hb8) (Sub.refl _ _))
            simp only [HML.out]
            clear hL8 hR8 hb8
            have hLA := (LX.out.only O8.out (fun q hq hs => by have := (LX.out.choose_spec.2.1.lt q hq).1; have := D0.out.lt q hs; omega)).toL.letR (Nat.le_trans HBS.out.size O8.out.size)
            obtain ⟨AA', cA', hv, hLR, -, -⟩ := hLA
            injection hv with e1 _ e2
            subst e1 e2
            have LRA := Lib.hid hLR
            clear hLR
            go_wp2_with fail
            refine (Lown_any w8 AA j cA (row.map (·.1)) LRA.out HML.out (by omega)).mono ?_
            rintro en w9 ⟨v9, rfl, hL9, hb9⟩
            obtain ⟨A9, c9, rfl, hR9, -, -⟩ := hL9.letR hb9.size
            have R9 := Lib.hid hR9; have O9 := Lib.hid (O8.out.trans (Only.of_below (S := S) hb9) (Sub.refl _ _)); have R8' := Lib.hid (LetR.step R8.out hb9)
            simp only [HML.out]
            clear hL9 hR9 hb9
            go_wp2_with fail
            refine (LSame_any w9 A8 A9 j j c8 c9 (row.map (·.1)) (row.map (·.1)) R8'.out R9.out HML.out HML.out (by omega) (by omega)).mono ?_
            rintro en w10 ⟨rfl, hb10⟩
            have HP := Lib.hid (show TrueN w (.returned (.bool true)) w10 from ⟨rfl, (B5.out.trans (O9.out.to_below B5.out.size AS.out)).trans (hb10.mono (by have := B5.out.size; have := O9.out.size; omega))⟩)
            rw [decide_eq_true rfl]
            clear hb10
            go_wp2
            go_ret
            exact HP.out
end Go.Proofs.Ytahichieakdbnaa
