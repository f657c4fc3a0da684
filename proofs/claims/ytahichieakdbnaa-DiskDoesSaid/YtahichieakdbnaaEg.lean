/- law 8's awake. -/
import Derived.Test.YtahichieakdbnaaEf
import Derived.Lib.SlBytesConst
import Derived.Lib.SmallJoins
namespace Go.Proofs.Ytahichieakdbnaa
open Go.ChangeShapes Go.WideShapes Go.ChangeAt Go.RowKit Go.Maps
set_option linter.unusedVariables false
set_option linter.unusedSimpArgs false

theorem DRes_at {w w' : World} {g room : Nat} {vs : List Value} {r : Pd × Nat} {en : Ending} (h : DRes w g room vs r en w') {d' : Pd} {n : Int} (h1 : r.1 = d') (h2 : (r.2 : Int) = n) : en = .returned (.int .i64 n) ∧ ∃ vs', DM w' g room vs' d' ∧ Turned w (DS g vs) (DS g vs') w' := by
  subst h1 h2; exact h
theorem RdMark (w : World) (t : TypeId) (bs : List Nat) (cs : Array Value) (fr : Nat × Nat) (e : u8s bs = cs.toList) : Rd (w.alloc (.cells cs t fr)) (w.heap.size + 1) (some ⟨w.heap.size, 0, none⟩) (u8s bs) := fun _ => by
  refine ⟨w.heap.size, 0, rfl, by omega, fun k v hv => ?_⟩
  rw [Nat.zero_add, World.cell?_alloc_mark]
  rw [e] at hv
  simpa using hv
theorem Made.no {w w' : World} {g : Nat} {vs vs' : List Value} {v : Value} {bs : List Nat} {k : Nat} (h : Made w v bs k ∧ Fre w (DS g vs) v) (hT : Turned w (DS g vs) (DS g vs') w') : True := trivial
/-- bytes in a block that is none of the disk's -/
def MadeD (w : World) (g : Nat) (vs : List Value) (v : Value) (bs : List Nat) : Prop := MadeO w (DS g vs) v bs bs.length
def TrueD (w : World) (e : Ending) (w' : World) : Prop := e = .returned (.bool true) ∧ Below w.heap.size w w'
def aw0 : Pd := (fs0, false, false, 0)
def aw1 : Pd := (appendP 10 aw0 0 [120, 121]).1
def aw2 : Pd := (syncP aw1 0).1
def aw3 : Pd := (appendP 10 aw2 0 [122, 117, 118]).1
def aw4 : Pd := (appendP 10 aw3 1 [49, 50, 51, 52, 53, 54]).1
def aw5 : Pd := (appendP 10 aw4 64 []).1
def aw6 : Pd := crashP [1, 5] aw5
def aw7 : Pd := (cutP aw6 0 4).1
def aw8 : Pd := (cutP aw7 0 1).1
def aw9 : Pd := fuseP aw8 1
def aw10 : Pd := (syncP aw9 0).1
def aw11 : Pd := (appendP 10 aw10 3 [113]).1
theorem ok0 : OkP 10 aw0 := ok_new (by decide)
theorem ok1 : OkP 10 aw1 := ok0.append _ (by decide)
theorem er1 : ((appendP 10 aw0 0 [120, 121]).2 : Int) = 0 := by decide +kernel
theorem ok2 : OkP 10 aw2 := ok1.sync _
theorem er2 : ((syncP aw1 0).2 : Int) = 0 := by decide +kernel
theorem ok3 : OkP 10 aw3 := ok2.append _ (by decide)
theorem er3 : ((appendP 10 aw2 0 [122, 117, 118]).2 : Int) = 0 := by decide +kernel
theorem ok4 : OkP 10 aw4 := ok3.append _ (by decide)
theorem er4 : ((appendP 10 aw3 1 [49, 50, 51, 52, 53, 54]).2 : Int) = 7 := by decide +kernel
theorem ok5 : OkP 10 aw5 := ok4.append _ (by decide)
theorem er5 : ((appendP 10 aw4 64 []).2 : Int) = 1 := by decide +kernel
theorem ok6 : OkP 10 aw6 := ok5.crash _
theorem ok7 : OkP 10 aw7 := ok6.cut _ _
theorem er7 : ((cutP aw6 0 4).2 : Int) = 1 := by decide +kernel
theorem ok8 : OkP 10 aw8 := ok7.cut _ _
theorem er8 : ((cutP aw7 0 1).2 : Int) = 0 := by decide +kernel
theorem ok9 : OkP 10 aw9 := ok8.fuse (by decide)
theorem ok10 : OkP 10 aw10 := ok9.sync _
theorem er10 : ((syncP aw9 0).2 : Int) = 0 := by decide +kernel
theorem ok11 : OkP 10 aw11 := ok10.append _ (by decide)
theorem er11 : ((appendP 10 aw10 3 [113]).2 : Int) = 8 := by decide +kernel
theorem awS : (sureF aw5.1 0 : Int) = 2 := by decide +kernel
theorem awL : ((10 - totF aw5.1 : Nat) : Int) = 5 := by decide +kernel
theorem awR : readP aw6 0 = ([120, 121, 122], 0) := by decide +kernel
theorem awR2 : readP aw6 (-1) = ([], 1) := by decide +kernel
theorem awD : aw11.2.1 = true := by decide +kernel
theorem awF : filesK aw11.1 64 = [0] := by decide +kernel
theorem awL2 : ((10 - totF aw11.1 : Nat) : Int) = 9 := by decide +kernel
theorem awS2 : (sureF aw11.1 0 : Int) = 1 := by decide +kernel
set_option maxRecDepth 100000 in
set_option maxHeartbeats 8000000 in
theorem awake8_any (w : World) : Calls Try.prog 13 #[] w (TrueD w) := by
  have kc := fun (w : World) (C : Array Value) (n c : Nat) => Lib.run_convert_bytes_const (P := Try.prog) w 32 5 C n c Try.underlying32 Try.underlying5
  go_enter Try.func13, Try.ntmps13
  go_wp2_with fail
  refine (DNew_any w 10 (by decide)).mono ?_
  rintro en w1 ⟨rfl, hd, hb⟩
  obtain ⟨g, hg⟩ : ∃ g, g = w.heap.size := ⟨_, rfl⟩
  rw [← hg] at hd ⊢
  have D1 : Hid (DM w1 g 10 vs0 aw0) := Lib.hid hd
  have A1 : Hid (∀ j, DS g vs0 j → w.heap.size ≤ j) := Lib.hid (by rw [hg]; exact DS_new w)
  have B1 := Lib.hid hb
  clear hd hb hg
  go_wp2_with fail
  refine (DNew_no w1 (-1) (by decide)).mono ?_
  rintro en w' ⟨rfl, hw9⟩
  rw [hw9]
  clear hw9
  go_wp2_with fail
  generalize hW : w1.alloc (.cells #[.int .u8 120, .int .u8 121] 5 (2, 3)) = w2
  have hb : Below w1.heap.size w1 w2 := by rw [← hW]; exact (Below.refl _ w1).alloc (Nat.le_refl _) _
  have D2 := Lib.hid (DskM.below D1.out hb); have A2 := A1; have B2 := Lib.hid (B1.out.trans (hb.mono B1.out.size))
  have RD2 : Hid (Rd w2 w2.heap.size (some ⟨w1.heap.size, 0, none⟩) (u8s [120, 121])) := Lib.hid (by rw [← hW]; exact (RdMark w1 5 [120, 121] #[.int .u8 120, .int .u8 121] (2, 3) rfl).more (by simp))
  clear hb hW
  refine (DAppend_any w2 g 10 vs0 aw0 0 (some ⟨w1.heap.size, 0, none⟩) 2 2 [120, 121] D2.out ok0 RD2.out (fun h => by cases h) (Nat.le_refl _) rfl).mono ?_
  intro en w3 hres
  obtain ⟨rfl, vs3, hd, hT⟩ := DRes_at hres (rfl : _ = aw1) er1
  have D3 := Lib.hid hd; have A3 := Lib.hid (hT.1.above B2.out.size A2.out); have B3 := Lib.hid (B2.out.trans (hT.2.to_below B2.out.size A2.out))
  clear hres hd hT
  go_wp2_with fail
  refine (DSync_any w3 g 10 vs3 aw1 0 D3.out ok1).mono ?_
  intro en w4 hres
  obtain ⟨rfl, vs4, hd, hT⟩ := DRes_at hres (rfl : _ = aw2) er2
  have D4 := Lib.hid hd; have A4 := Lib.hid (hT.1.above B3.out.size A3.out); have B4 := Lib.hid (B3.out.trans (hT.2.to_below B3.out.size A3.out))
  clear hres hd hT
  go_wp2_with fail
  generalize hW : w4.alloc (.cells #[.int .u8 122, .int .u8 117, .int .u8 118] 5 (3, 4)) = w5
  have hb : Below w4.heap.size w4 w5 := by rw [← hW]; exact (Below.refl _ w4).alloc (Nat.le_refl _) _
  have D5 := Lib.hid (DskM.below D4.out hb); have A5 := A4; have B5 := Lib.hid (B4.out.trans (hb.mono B4.out.size))
  have RD5 : Hid (Rd w5 w5.heap.size (some ⟨w4.heap.size, 0, none⟩) (u8s [122, 117, 118])) := Lib.hid (by rw [← hW]; exact (RdMark w4 5 [122, 117, 118] #[.int .u8 122, .int .u8 117, .int .u8 118] (3, 4) rfl).more (by simp))
  clear hb hW
  refine (DAppend_any w5 g 10 vs4 aw2 0 (some ⟨w4.heap.size, 0, none⟩) 3 3 [122, 117, 118] D5.out ok2 RD5.out (fun h => by cases h) (Nat.le_refl _) rfl).mono ?_
  intro en w6 hres
  obtain ⟨rfl, vs6, hd, hT⟩ := DRes_at hres (rfl : _ = aw3) er3
  have D6 := Lib.hid hd; have A6 := Lib.hid (hT.1.above B5.out.size A5.out); have B6 := Lib.hid (B5.out.trans (hT.2.to_below B5.out.size A5.out))
  clear hres hd hT
  go_wp2_with fail
  generalize hW : w6.alloc (.cells #[.int .u8 49, .int .u8 50, .int .u8 51, .int .u8 52, .int .u8 53, .int .u8 54] 5 (6, 7)) = w7
  have hb : Below w6.heap.size w6 w7 := by rw [← hW]; exact (Below.refl _ w6).alloc (Nat.le_refl _) _
  have D7 := Lib.hid (DskM.below D6.out hb); have A7 := A6; have B7 := Lib.hid (B6.out.trans (hb.mono B6.out.size))
  have RD7 : Hid (Rd w7 w7.heap.size (some ⟨w6.heap.size, 0, none⟩) (u8s [49, 50, 51, 52, 53, 54])) := Lib.hid (by rw [← hW]; exact (RdMark w6 5 [49, 50, 51, 52, 53, 54] #[.int .u8 49, .int .u8 50, .int .u8 51, .int .u8 52, .int .u8 53, .int .u8 54] (6, 7) rfl).more (by simp))
  clear hb hW
  refine (DAppend_any w7 g 10 vs6 aw3 1 (some ⟨w6.heap.size, 0, none⟩) 6 6 [49, 50, 51, 52, 53, 54] D7.out ok3 RD7.out (fun h => by cases h) (Nat.le_refl _) rfl).mono ?_
  intro en w8 hres
  obtain ⟨rfl, vs8, hd, hT⟩ := DRes_at hres (rfl : _ = aw4) er4
  have D8 := Lib.hid hd; have A8 := Lib.hid (hT.1.above B7.out.size A7.out); have B8 := Lib.hid (B7.out.trans (hT.2.to_below B7.out.size A7.out))
  clear hres hd hT
  go_wp2_with fail
  refine (DAppend_any w8 g 10 vs8 aw4 64 none 0 0 [] D8.out ok4 (Rd.nil _ _ _) (fun _ => rfl) (Nat.le_refl _) rfl).mono ?_
  intro en w9 hres
  obtain ⟨rfl, vs9, hd, hT⟩ := DRes_at hres (rfl : _ = aw5) er5
  have D9 := Lib.hid hd; have A9 := Lib.hid (hT.1.above B8.out.size A8.out); have B9 := Lib.hid (B8.out.trans (hT.2.to_below B8.out.size A8.out))
  clear hres hd hT
  go_wp2_with fail
  refine (DSure_any w9 g 10 vs9 _ _ _ _ 0 D9.out).mono ?_
  rintro en w10 ⟨rfl, q, hq⟩
  have hb : Below w9.heap.size w9 w10 := by rw [hq]; exact below_drewN (Below.refl _ _) q
  have D10 := Lib.hid (DskM.below D9.out hb); have A10 := A9; have B10 := Lib.hid (B9.out.trans (hb.mono B9.out.size))
  clear hb hq
  rw [awS]
  go_wp2_with fail
  refine (DLeft_any w10 g 10 vs9 _ _ _ _ D10.out (by decide) (fun i => Nat.le_trans (totF_take_le _ _) ok5.2.1)).mono ?_
  rintro en w11 ⟨rfl, q, hq⟩
  have hb : Below w10.heap.size w10 w11 := by rw [hq]; exact below_drewN (Below.refl _ _) q
  have D11 := Lib.hid (DskM.below D10.out hb); have A11 := A10; have B11 := Lib.hid (B10.out.trans (hb.mono B10.out.size))
  clear hb hq
  rw [awL]
  go_wp2_with fail
  generalize hW : w11.alloc (.cells #[.int .i64 1, .int .i64 5] 3) = w12
  have hb : Below w11.heap.size w11 w12 := by rw [← hW]; exact (Below.refl _ w11).alloc (Nat.le_refl _) _
  have D12 := Lib.hid (DskM.below D11.out hb); have A12 := A11; have B12 := Lib.hid (B11.out.trans (hb.mono B11.out.size))
  have gl12 := D11.out.2.2.1.lt
  have KK : Hid (Blk w12 w11.heap.size 3 #[.int .i64 1, .int .i64 5]) := Lib.hid (by rw [← hW]; exact Blk.new _ _ _)
  have RK : Hid (Rd w12 w12.heap.size (some ⟨w11.heap.size, 0, none⟩) (i64i [1, 5])) := Lib.hid (rd_blk KK.out rfl)
  clear hb hW
  refine (DCrash_any w12 g 10 vs9 aw5 (some ⟨w11.heap.size, 0, none⟩) 2 2 w12.heap.size [1, 5] D12.out ok5 RK.out (Nat.le_refl _) rfl (by decide) (by intro q o h _; injection h with h; injection h with h _; omega)).mono ?_
  rintro en w13 ⟨rfl, vs13, hd, hO, hS⟩
  have hT : Turned w12 (DS g vs9) (DS g vs13) w13 := ⟨fun j hj => .inl (hS j hj), hO.mono (fun j _ hj => .inl hj)⟩
  have D13 : Hid (DM w13 g 10 vs13 aw6) := Lib.hid hd; have A13 := Lib.hid (hT.1.above B12.out.size A12.out); have B13 := Lib.hid (B12.out.trans (hT.2.to_below B12.out.size A12.out))
  clear hd hO hS hT KK RK
  go_wp2_with fail
  refine (DRead_any w13 g 10 vs13 aw6 (0) D13.out ok6).mono ?_
  rintro en w14 ⟨vS, rfl, hm, hf, hb⟩
  rw [awR] at hm ⊢
  obtain ⟨AS, CS, rfl, -⟩ := id hm
  have D14 := Lib.hid (DskM.below D13.out hb); have A14 := A13; have B14 := Lib.hid (B13.out.trans (hb.mono B13.out.size))
  have MS14 : Hid (MadeO w14 (DS g vs13) (.slice AS 3 CS) [120, 121, 122] 3) := Lib.hid ⟨hm, fun g' o' n' c' hv _ hd => by have := (hf g' o' n' c' hv).1; have := DskM.lt D13.out g' hd; omega⟩
  clear hm hf hb
  go_wp2_with fail
  refine (DRead_any w14 g 10 vs13 aw6 (-1) D14.out ok6).mono ?_
  rintro en w15 ⟨vT, rfl, hm, hf, hb⟩
  rw [awR2] at hm ⊢
  obtain ⟨AT, CT, rfl, -⟩ := id hm
  have MS15 := Lib.hid (MS14.out.below hb)
  have D15 := Lib.hid (DskM.below D14.out hb); have A15 := A14; have B15 := Lib.hid (B14.out.trans (hb.mono B14.out.size))
  clear hm hf hb
  go_wp2_with fail
  refine (DCut_any w15 g 10 vs13 aw6 0 4 D15.out ok6).mono ?_
  intro en w16 hres
  obtain ⟨rfl, vs16, hd, hT⟩ := DRes_at hres (rfl : _ = aw7) er7
  have MS16 := Lib.hid (MS15.out.turn hT)
  have D16 := Lib.hid hd; have A16 := Lib.hid (hT.1.above B15.out.size A15.out); have B16 := Lib.hid (B15.out.trans (hT.2.to_below B15.out.size A15.out))
  clear hres hd hT
  go_wp2_with fail
  refine (DCut_any w16 g 10 vs16 aw7 0 1 D16.out ok7).mono ?_
  intro en w17 hres
  obtain ⟨rfl, vs17, hd, hT⟩ := DRes_at hres (rfl : _ = aw8) er8
  have MS17 := Lib.hid (MS16.out.turn hT)
  have D17 := Lib.hid hd; have A17 := Lib.hid (hT.1.above B16.out.size A16.out); have B17 := Lib.hid (B16.out.trans (hT.2.to_below B16.out.size A16.out))
  clear hres hd hT
  go_wp2_with fail
  refine (DFuse_any w17 g 10 vs17 aw8 1 D17.out).mono ?_
  rintro en w18 ⟨rfl, hd, hO⟩
  have hT : Turned w17 (DS g vs17) (DS g vs17) w18 := ⟨Sub.refl _ _, hO.mono (fun j _ hj => .inl hj)⟩
  have MS18 := Lib.hid (MS17.out.turn hT)
  have D18 : Hid (DM w18 g 10 vs17 aw9) := Lib.hid hd; have A18 := Lib.hid (hT.1.above B17.out.size A17.out); have B18 := Lib.hid (B17.out.trans (hT.2.to_below B17.out.size A17.out))
  clear hd hO hT
  go_wp2_with fail
  refine (DSync_any w18 g 10 vs17 aw9 0 D18.out ok9).mono ?_
  intro en w19 hres
  obtain ⟨rfl, vs19, hd, hT⟩ := DRes_at hres (rfl : _ = aw10) er10
  have MS19 := Lib.hid (MS18.out.turn hT)
  have D19 := Lib.hid hd; have A19 := Lib.hid (hT.1.above B18.out.size A18.out); have B19 := Lib.hid (B18.out.trans (hT.2.to_below B18.out.size A18.out))
  clear hres hd hT
  go_wp2_with fail
  generalize hW : w19.alloc (.cells #[.int .u8 113] 5 (1, 2)) = w20
  have hb : Below w19.heap.size w19 w20 := by rw [← hW]; exact (Below.refl _ w19).alloc (Nat.le_refl _) _
  have MS20 := Lib.hid (MS19.out.below hb)
  have D20 := Lib.hid (DskM.below D19.out hb); have A20 := A19; have B20 := Lib.hid (B19.out.trans (hb.mono B19.out.size))
  have RD20 : Hid (Rd w20 w20.heap.size (some ⟨w19.heap.size, 0, none⟩) (u8s [113])) := Lib.hid (by rw [← hW]; exact (RdMark w19 5 [113] #[.int .u8 113] (1, 2) rfl).more (by simp))
  clear hb hW
  refine (DAppend_any w20 g 10 vs19 aw10 3 (some ⟨w19.heap.size, 0, none⟩) 1 1 [113] D20.out ok10 RD20.out (fun h => by cases h) (Nat.le_refl _) rfl).mono ?_
  intro en w21 hres
  obtain ⟨rfl, vs21, hd, hT⟩ := DRes_at hres (rfl : _ = aw11) er11
  have MS21 := Lib.hid (MS20.out.turn hT)
  have D21 := Lib.hid hd; have A21 := Lib.hid (hT.1.above B20.out.size A20.out); have B21 := Lib.hid (B20.out.trans (hT.2.to_below B20.out.size A20.out))
  clear hres hd hT
  go_wp2_with fail
  generalize hW : w21.alloc (.cells #[.int .u8 120, .int .u8 121, .int .u8 122] 5 (3, 4)) = w22
  have hb : Below w21.heap.size w21 w22 := by rw [← hW]; exact (Below.refl _ w21).alloc (Nat.le_refl _) _
  have MS22 := Lib.hid (MS21.out.below hb)
  have D22 := Lib.hid (DskM.below D21.out hb); have A22 := A21; have B22 := Lib.hid (B21.out.trans (hb.mono B21.out.size))
  have RD22 : Hid (Rd w22 w22.heap.size (some ⟨w21.heap.size, 0, none⟩) (u8s [120, 121, 122])) := Lib.hid (by rw [← hW]; exact (RdMark w21 5 [120, 121, 122] #[.int .u8 120, .int .u8 121, .int .u8 122] (3, 4) rfl).more (by simp))
  clear hb hW
  refine (same_at w22 AS (some ⟨w21.heap.size, 0, none⟩) CS 3 [120, 121, 122] [120, 121, 122] _ _ 3 3 true (MS22.out.1.rd_ofD) RD22.out (by simp [maxLen]) rfl rfl (by decide)).mono ?_
  rintro en w23 ⟨rfl, q, hq⟩
  have hb : Below w22.heap.size w22 w23 := by rw [hq]; exact below_drewN (Below.refl _ _) q
  clear hq
  have D23 := Lib.hid (DskM.below D22.out hb); have A23 := A22; have B23 := Lib.hid (B22.out.trans (hb.mono B22.out.size))
  clear hb
  go_wp2_with fail
  refine (DDown_any w23 g 10 vs21 _ _ _ _ D23.out).mono ?_
  rintro en w24 ⟨rfl, q, hq⟩
  have hb : Below w23.heap.size w23 w24 := by rw [hq]; exact below_drewN (Below.refl _ _) q
  have D24 := Lib.hid (DskM.below D23.out hb); have A24 := A23; have B24 := Lib.hid (B23.out.trans (hb.mono B23.out.size))
  clear hb hq
  rw [awD]
  go_wp2_with fail
  refine (DFiles_any w24 g 10 vs21 aw11 D24.out ok11).mono ?_
  rintro en w25 ⟨vF, rfl, ho, hb⟩
  rw [awF] at ho
  obtain ⟨AF, cF, rfl⟩ := own_sl ho
  have RF25 := Lib.hid (Rd.of_own ho)
  have D25 := Lib.hid (DskM.below D24.out hb); have A25 := A24; have B25 := Lib.hid (B24.out.trans (hb.mono B24.out.size))
  clear ho hb
  go_wp2_with fail
  generalize hW : w25.alloc (.cells #[.int .i64 0] 3) = w26
  have hb : Below w25.heap.size w25 w26 := by rw [← hW]; exact (Below.refl _ w25).alloc (Nat.le_refl _) _
  have D26 := Lib.hid (DskM.below D25.out hb); have A26 := A25; have B26 := Lib.hid (B25.out.trans (hb.mono B25.out.size))
  have KK : Hid (Blk w26 w25.heap.size 3 #[.int .i64 0]) := Lib.hid (by rw [← hW]; exact Blk.new _ _ _)
  have RF26 := Lib.hid ((RF25.out.below hb))
  clear hb hW
  go_wp2_with fail
  refine (ints_at w26 AF (some ⟨w25.heap.size, 0, none⟩) cF 1 [0] [0] _ _ 1 1 true RF26.out (rd_blk (xs := [0]) KK.out rfl) (by simp [maxLen]) rfl rfl (by decide)).mono ?_
  rintro en w27 ⟨rfl, q, hq⟩
  have hb : Below w26.heap.size w26 w27 := by rw [hq]; exact below_drewN (Below.refl _ _) q
  have D27 := Lib.hid (DskM.below D26.out hb); have A27 := A26; have B27 := Lib.hid (B26.out.trans (hb.mono B26.out.size))
  clear hb hq
  go_wp2_with fail
  refine (DLeft_any w27 g 10 vs21 _ _ _ _ D27.out (by decide) (fun i => Nat.le_trans (totF_take_le _ _) ok11.2.1)).mono ?_
  rintro en w28 ⟨rfl, q, hq⟩
  have hb : Below w27.heap.size w27 w28 := by rw [hq]; exact below_drewN (Below.refl _ _) q
  have D28 := Lib.hid (DskM.below D27.out hb); have A28 := A27; have B28 := Lib.hid (B27.out.trans (hb.mono B27.out.size))
  clear hb hq
  rw [awL2]
  go_wp2_with fail
  refine (DSure_any w28 g 10 vs21 _ _ _ _ 0 D28.out).mono ?_
  rintro en w29 ⟨rfl, q, hq⟩
  have hb : Below w28.heap.size w28 w29 := by rw [hq]; exact below_drewN (Below.refl _ _) q
  have D29 := Lib.hid (DskM.below D28.out hb); have A29 := A28; have B29 := Lib.hid (B28.out.trans (hb.mono B28.out.size))
  clear hb hq
  rw [awS2]
  have HP := Lib.hid (show TrueD w (.returned (.bool true)) w29 from ⟨rfl, B29.out⟩)
  go_wp2
  go_ret
  exact HP.out
end Go.Proofs.Ytahichieakdbnaa
