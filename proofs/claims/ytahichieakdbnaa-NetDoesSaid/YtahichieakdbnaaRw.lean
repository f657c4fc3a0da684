/- law 21's NetDoes: the walk. -/
import Derived.Test.YtahichieakdbnaaRv
namespace Go.Proofs.Ytahichieakdbnaa
open Go.ChangeShapes Go.WideShapes Go.ChangeAt Go.RowKit Go.Maps
set_option linter.unusedVariables false
set_option linter.unusedSimpArgs false

theorem ND.start {w : World} {g base : Nat} {S : Nat → Prop} (h : NetM w g S []) (hS : ∀ j, S j → base ≤ j) (hB : base ≤ w.heap.size) : ND (w.alloc (.cells #[.slice Option.none 0 0, .slice Option.none 0 0] 95)) g w.heap.size base (fun _ => False) [] [] := by
  have hb : Below w.heap.size w (w.alloc (.cells #[.slice Option.none 0 0, .slice Option.none 0 0] 95)) := (Below.refl _ w).alloc (Nat.le_refl _) _
  exact ⟨S, .slice Option.none 0 0, .slice Option.none 0 0, h.below hb, ⟨Blk.new w _ _, LRowX.nil _ _ _ _, World.ownsRow_nil _ _ _ _⟩, fun hs => by have := h.lt _ hs; omega, hS, hB, fun j hj => (by cases hj), fun j hj => hj.elim⟩
/-- what the operations of the calls have told: Send, Double, Turn -/
def FL0 (g r ga : Nat) (to : Int) (bv : Value) (e : Bool) (i : Nat) (L : Nat → Bool) (v : Value) (w : World) : Prop := match i with
  | 0 => v = .pointer (some ⟨g, 0, none⟩)
  | 1 => v = .pointer (some ⟨ga, 4, none⟩)
  | 2 => v = .agg #[.int .i64 to, bv]
  | 3 => v = .bool e
  | 4 => v = .pointer (some ⟨r, 0, none⟩)
  | 5 => v = .pointer (some ⟨ga, 4, none⟩)
  | 6 => v = .agg #[.int .i64 to, bv]
  | 7 => v = .bool e
  | 8 => v = .bool e
  | 9 => v = .bool e
  | _ => True
def FL2 (g r ga : Nat) (i0 : Int) (e : Bool) (i : Nat) (L : Nat → Bool) (v : Value) (w : World) : Prop := match i with
  | 0 => v = .pointer (some ⟨g, 0, none⟩)
  | 1 => v = .pointer (some ⟨ga, 1, none⟩)
  | 2 => v = .int .i64 i0
  | 3 => v = .bool e
  | 4 => v = .pointer (some ⟨r, 0, none⟩)
  | 5 => v = .pointer (some ⟨ga, 1, none⟩)
  | 6 => v = .int .i64 i0
  | 7 => v = .bool e
  | 8 => v = .bool e
  | 9 => v = .bool e
  | _ => True
def FL3 (g r ga : Nat) (i0 p : Int) (m : Nat) (e : Bool) (i : Nat) (L : Nat → Bool) (v : Value) (w : World) : Prop := match i with
  | 0 => v = .pointer (some ⟨g, 0, none⟩)
  | 1 => v = .pointer (some ⟨ga, 1, none⟩)
  | 2 => v = .int .i64 i0
  | 3 => v = .pointer (some ⟨ga, 2, none⟩)
  | 4 => v = .int .i64 p
  | 5 => v = .pointer (some ⟨ga, 3, none⟩)
  | 6 => v = .int .u32 (m : Int)
  | 7 => v = .bool e
  | 8 => v = .pointer (some ⟨r, 0, none⟩)
  | 9 => v = .pointer (some ⟨ga, 1, none⟩)
  | 10 => v = .int .i64 i0
  | 11 => v = .pointer (some ⟨ga, 2, none⟩)
  | 12 => v = .int .i64 p
  | 13 => v = .pointer (some ⟨ga, 3, none⟩)
  | 14 => v = .int .u32 (m : Int)
  | 15 => v = .bool e
  | 16 => v = .bool e
  | 17 => v = .bool e
  | _ => True
def TRD (w : World) (g r len : Nat) (s22 : Value) (wr : World) : Prop :=
  ∃ (k : Nat) (row : List Snt), s22 = .int .i64 (k : Int) ∧ k ≤ len ∧ ND wr g r w.heap.size (fun _ => False) row row ∧ FacD row ∧ Below w.heap.size w wr
set_option maxRecDepth 100000 in
set_option maxHeartbeats 6000000 in
theorem NetDoes_walk (w : World) (A : Option Addr) (len cap : Nat) (ys : List ActN) (hn : ys.length = len) (hlc : len ≤ cap) (hcm : cap ≤ maxLen) (hr : ActsN w w.heap.size A ys) :
    Calls Try.prog 9 #[.slice A len cap] w (TrueN w) := by
  have HN := Lib.hid hn; have HLC0 := Lib.hid hlc; have HCM := Lib.hid hcm; have HR := Lib.hid hr
  have hcm' : cap ≤ 9223372036854775807 := hcm
  clear hn hr hcm
  go_enter Try.func9, Try.ntmps9
  go_wp2_with fail
  refine (awake21_any w).mono ?_
  rintro en w1 ⟨rfl, hb1⟩
  have B1 := Lib.hid hb1; clear hb1
  go_wp2_with fail
  refine (large21_any w1 A len cap ys (ActsN.step HR.out B1.out) HN.out HLC0.out HCM.out).mono ?_
  rintro en w2 ⟨⟨lb, rfl, hfine⟩, hb2⟩
  have B2 := Lib.hid (B1.out.trans (hb2.mono B1.out.size)); have HFI := Lib.hid hfine
  clear hb2 hfine
  cases lb with
  | true =>
    have HP := Lib.hid (show TrueN w (.returned (.bool true)) w2 from ⟨rfl, B2.out⟩)
    go_wp2
    go_ret
    exact HP.out
  | false =>
    obtain ⟨h100, hsh⟩ := HFI.out rfl
    have HSH := Lib.hid hsh
    clear hsh HFI h100
    go_wp2_with fail
    refine (NNew_any w2).mono ?_
    rintro en w3 ⟨g, S3, rfl, hd, hS, hb⟩
    have hB3 := B2.out.trans (hb.mono B2.out.size)
    obtain ⟨r, hr⟩ : ∃ q, w3.heap.size = q := ⟨_, rfl⟩
    have START := Lib.hid (show TRD w g r len (.int .i64 0) (w3.alloc (.cells #[.slice none 0 0, .slice none 0 0] 95)) from
      ⟨0, [], rfl, Nat.zero_le _, by rw [← hr]; exact ND.start hd (fun j hj => Nat.le_trans B2.out.size (hS j hj)) hB3.size, ⟨by simp, fun x hx => by simp at hx, fun x hx => by simp at hx⟩, hB3.alloc hB3.size _⟩)
    clear hd hS hb hB3
    go_wp2
    try simp only [hr]
    clear hr
    go_loopw [22] (fun s22 wr => TRD w g r len s22 wr) (fun s22 _ => len - (intOf s22).toNat)
    case atStart => exact START.out
    case round =>
      clear START
      obtain ⟨k, row, rfl, hk, hN, hF, hbel⟩ := hrel
      have HB := Lib.hid hbel; have N0 := Lib.hid hN; have HFC := Lib.hid hF
      by_cases hlt : k < len
      · obtain ⟨ga0, o', d, i, p, m, to, bs, Ab, cb, rfl, hga, hp, ⟨d0, d1, d2, d3, d4, d5⟩, hrb, hbc, hbm, hbn, hb256, hI, hPP, hM⟩ := ActsN.row (ActsN.below HR.out hbel) (k := k) (by rw [HN.out]; exact hlt)
        have hgw : ga0 < wr.heap.size := World.block_lt_of_cell? _ _ d0
        have hltI : (k : Int) < (len : Int) := by omega
        have hl3 := HSH.out k _ hp
        simp only at hl3
        obtain ⟨nb, hnb⟩ : ∃ q, bs.length = q := ⟨_, rfl⟩
        rw [hnb] at d5 hbc hl3
        have HNB := Lib.hid hnb; have RB := Lib.hid hrb; have H256 := Lib.hid hb256; have HNO := Lib.hid hbn; have HI := Lib.hid hI; have HPP := Lib.hid hPP; have HMM := Lib.hid hM; have HLT := Lib.hid hlt; have HBM := Lib.hid hbm
        clear hN hF hbel hp hnb hrb hb256 hbn hI hPP hM hbm
        by_cases hq0 : d = 0
        · subst hq0
          go_wp2_with fail
          generalize hW : wr.alloc (.cells #[.int .i64 0, .int .i64 i, .int .i64 p, .int .u32 (m : Int), .int .i64 to, .slice Ab nb cb] 100) = w4
          have hb : Below wr.heap.size wr w4 := by rw [← hW]; exact (Below.refl _ wr).alloc (Nat.le_refl _) _
          have N4 := Lib.hid (N0.out.below hb); have B4 := Lib.hid (HB.out.trans (hb.mono HB.out.size))
          have RB4 := Lib.hid (RB.out.below (hb.mono HB.out.size))
          have Z4 : Hid (Blk w4 wr.heap.size 100 #[.int .i64 0, .int .i64 i, .int .i64 p, .int .u32 (m : Int), .int .i64 to, .slice Ab nb cb]) := Lib.hid (by rw [← hW]; exact Blk.new wr _ _)
          have HS4 := Lib.hid B4.out.size
          have hsz4 : w4.heap.size = wr.heap.size + 1 := by rw [← hW]; simp
          obtain ⟨ga, hga⟩ : ∃ q, wr.heap.size = q := ⟨_, rfl⟩
          rw [hga] at Z4 hsz4
          have HSZ := Lib.hid hsz4
          clear hsz4
          try rw [hga]
          clear hb hW hga d0 d1 d2 d3 d4 d5
          have HF8 := Lib.hid (HFC.out.send (l := (to, bs)) (by simp only; rw [HNB.out]; omega) H256.out)
          try go_wp2
          refine Inv.region_genL (FL0 g r ga to (.slice Ab nb cb) (Nm.send row (to, bs)).1) (CD w4 g r w.heap.size ga #[.int .i64 0, .int .i64 i, .int .i64 p, .int .u32 (m : Int), .int .i64 to, .slice Ab nb cb] 3 7 row (Nm.send row (to, bs)).2) 116 [30, 31, 32, 33, 34, 35, 36, 37, 7, 8] (by kernel_rfl) rfl (by kernel_rfl) (by kernel_rfl) ?_ ?_ ?_
          · exact ⟨(Below.refl _ w4).drew, Z4.out.drew, by simpa using N4.out.below ((Below.refl _ w4).drew)⟩
          · refine ⟨?_, ?_, ?_, ?_, ?_, ?_, ?_, ?_, ?_, ?_, trivial⟩
            · intro act wa L hC hd hLi hLa hLb HF O K hK
              clear hd
              have hz := hC.2.1
              have zl := hz.lt
              have z1 := hz.cell 1
              have z2 := hz.cell 2
              have z3' := hz.cell 3
              have z4 := hz.cell 4
              have z5 := hz.cell 5
              have hbs := Nat.le_trans HS4.out hC.1.size
              simp at z1 z2 z3' z4 z5
              have h3 := O 3 (by kernel_rfl)
              try have g3 := Array.getD_eq_getD_getElem?.symm.trans h3
              go_simp
              exact hK _ _ (hC.keep 0 (by decide) (by decide) HS4.out (Below.refl wa.heap.size wa)) (fun j d _ _ _ h => h) (fun _ => rfl)
            · intro act wa L hC hd hLi hLa hLb HF O K hK
              clear hd
              have hz := hC.2.1
              have zl := hz.lt
              have z1 := hz.cell 1
              have z2 := hz.cell 2
              have z3' := hz.cell 3
              have z4 := hz.cell 4
              have z5 := hz.cell 5
              have hbs := Nat.le_trans HS4.out hC.1.size
              simp at z1 z2 z3' z4 z5
              have h6 := O 6 (by kernel_rfl)
              try have g6 := Array.getD_eq_getD_getElem?.symm.trans h6
              go_simp
              exact hK _ _ (hC.keep 1 (by decide) (by decide) HS4.out (Below.refl wa.heap.size wa)) (fun j d _ _ _ h => h) (fun _ => rfl)
            · intro act wa L hC hd hLi hLa hLb HF O K hK
              clear hd
              have hz := hC.2.1
              have zl := hz.lt
              have z1 := hz.cell 1
              have z2 := hz.cell 2
              have z3' := hz.cell 3
              have z4 := hz.cell 4
              have z5 := hz.cell 5
              have hbs := Nat.le_trans HS4.out hC.1.size
              simp at z1 z2 z3' z4 z5
              have h31 := HF 1 31 (hLa 1 1 (by kernel_rfl)) rfl
              dsimp only [FL0] at h31
              try have g31 := Array.getD_eq_getD_getElem?.symm.trans h31
              go_simp
              exact hK _ _ (hC.keep 2 (by decide) (by decide) HS4.out (Below.refl wa.heap.size wa)) (fun j d _ _ _ h => h) (fun _ => rfl)
            · intro act wa L hC hd hLi hLa hLb HF O K hK
              clear hd
              have hz := hC.2.1
              have zl := hz.lt
              have z1 := hz.cell 1
              have z2 := hz.cell 2
              have z3' := hz.cell 3
              have z4 := hz.cell 4
              have z5 := hz.cell 5
              have hbs := Nat.le_trans HS4.out hC.1.size
              simp at z1 z2 z3' z4 z5
              have h30 := HF 0 30 (hLa 1 0 (by kernel_rfl)) rfl
              dsimp only [FL0] at h30
              try have g30 := Array.getD_eq_getD_getElem?.symm.trans h30
              have h32 := HF 2 32 (hLa 1 2 (by kernel_rfl)) rfl
              dsimp only [FL0] at h32
              try have g32 := Array.getD_eq_getD_getElem?.symm.trans h32
              go_simp
              refine (sendN to Ab nb cb bs (hC.nd1 hLi) hbs (RB4.out.below hC.1) H256.out HNB.out (by omega) hbc HNO.out HFC.out.1).mono ?_
              rintro e w1 hpp
              obtain rfl := hpp.1
              exact hK _ _ (hC.one hLi (by decide) hpp) (fun j d _ _ _ h => h) (fun _ => rfl)
            · intro act wa L hC hd hLi hLa hLb HF O K hK
              clear hd
              have hz := hC.2.1
              have zl := hz.lt
              have z1 := hz.cell 1
              have z2 := hz.cell 2
              have z3' := hz.cell 3
              have z4 := hz.cell 4
              have z5 := hz.cell 5
              have hbs := Nat.le_trans HS4.out hC.1.size
              simp at z1 z2 z3' z4 z5
              have h4 := O 4 (by kernel_rfl)
              try have g4 := Array.getD_eq_getD_getElem?.symm.trans h4
              go_simp
              exact hK _ _ (hC.keep 4 (by decide) (by decide) HS4.out (Below.refl wa.heap.size wa)) (fun j d _ _ _ h => h) (fun _ => rfl)
            · intro act wa L hC hd hLi hLa hLb HF O K hK
              clear hd
              have hz := hC.2.1
              have zl := hz.lt
              have z1 := hz.cell 1
              have z2 := hz.cell 2
              have z3' := hz.cell 3
              have z4 := hz.cell 4
              have z5 := hz.cell 5
              have hbs := Nat.le_trans HS4.out hC.1.size
              simp at z1 z2 z3' z4 z5
              have h6 := O 6 (by kernel_rfl)
              try have g6 := Array.getD_eq_getD_getElem?.symm.trans h6
              go_simp
              exact hK _ _ (hC.keep 5 (by decide) (by decide) HS4.out (Below.refl wa.heap.size wa)) (fun j d _ _ _ h => h) (fun _ => rfl)
            · intro act wa L hC hd hLi hLa hLb HF O K hK
              clear hd
              have hz := hC.2.1
              have zl := hz.lt
              have z1 := hz.cell 1
              have z2 := hz.cell 2
              have z3' := hz.cell 3
              have z4 := hz.cell 4
              have z5 := hz.cell 5
              have hbs := Nat.le_trans HS4.out hC.1.size
              simp at z1 z2 z3' z4 z5
              have h35 := HF 5 35 (hLa 1 5 (by kernel_rfl)) rfl
              dsimp only [FL0] at h35
              try have g35 := Array.getD_eq_getD_getElem?.symm.trans h35
              go_simp
              exact hK _ _ (hC.keep 6 (by decide) (by decide) HS4.out (Below.refl wa.heap.size wa)) (fun j d _ _ _ h => h) (fun _ => rfl)
            · intro act wa L hC hd hLi hLa hLb HF O K hK
              clear hd
              have hz := hC.2.1
              have zl := hz.lt
              have z1 := hz.cell 1
              have z2 := hz.cell 2
              have z3' := hz.cell 3
              have z4 := hz.cell 4
              have z5 := hz.cell 5
              have hbs := Nat.le_trans HS4.out hC.1.size
              simp at z1 z2 z3' z4 z5
              have h34 := HF 4 34 (hLa 1 4 (by kernel_rfl)) rfl
              dsimp only [FL0] at h34
              try have g34 := Array.getD_eq_getD_getElem?.symm.trans h34
              have h36 := HF 6 36 (hLa 1 6 (by kernel_rfl)) rfl
              dsimp only [FL0] at h36
              try have g36 := Array.getD_eq_getD_getElem?.symm.trans h36
              go_simp
              refine (sendR to Ab nb cb bs (hC.nd2 hLi) hbs (RB4.out.below hC.1) H256.out HNB.out hbc HBM.out HNO.out HFC.out.1).mono ?_
              rintro e w1 hpp
              obtain rfl := hpp.1
              exact hK _ _ (hC.two hLi (by decide) hpp) (fun j d _ _ _ h => h) (fun _ => rfl)
            · intro act wa L hC hd hLi hLa hLb HF O K hK
              clear hd
              have hz := hC.2.1
              have zl := hz.lt
              have z1 := hz.cell 1
              have z2 := hz.cell 2
              have z3' := hz.cell 3
              have z4 := hz.cell 4
              have z5 := hz.cell 5
              have hbs := Nat.le_trans HS4.out hC.1.size
              simp at z1 z2 z3' z4 z5
              have h33 := HF 3 33 (hLa 1 3 (by kernel_rfl)) rfl
              dsimp only [FL0] at h33
              try have g33 := Array.getD_eq_getD_getElem?.symm.trans h33
              go_simp
              exact hK _ _ (hC.keep 8 (by decide) (by decide) HS4.out (Below.refl wa.heap.size wa)) (fun j d _ _ _ h => h) (fun _ => rfl)
            · intro act wa L hC hd hLi hLa hLb HF O K hK
              clear hd
              have hz := hC.2.1
              have zl := hz.lt
              have z1 := hz.cell 1
              have z2 := hz.cell 2
              have z3' := hz.cell 3
              have z4 := hz.cell 4
              have z5 := hz.cell 5
              have hbs := Nat.le_trans HS4.out hC.1.size
              simp at z1 z2 z3' z4 z5
              have h37 := HF 7 37 (hLa 1 7 (by kernel_rfl)) rfl
              dsimp only [FL0] at h37
              try have g37 := Array.getD_eq_getD_getElem?.symm.trans h37
              go_simp
              exact hK _ _ (hC.keep 9 (by decide) (by decide) HS4.out (Below.refl wa.heap.size wa)) (fun j d _ _ _ h => h) (fun _ => rfl)
          · intro us w' hC HF
            obtain ⟨L7, hL7, u7⟩ := HF 8 7 rfl
            dsimp only [FL0] at u7
            obtain ⟨L8, hL8, u8⟩ := HF 9 8 rfl
            dsimp only [FL0] at u8
            clear HF
            simp only [List.foldl]
            go_simp
            obtain ⟨LL, hLL, hCC⟩ := hC
            have hnd := hCC.2.2
            rw [if_pos (hLL 3 (by decide)), if_pos (hLL 7 (by decide))] at hnd
            have N8 := Lib.hid hnd; have B8 := Lib.hid (B4.out.trans hCC.1)
            clear hCC hLL hnd hL7 hL8
            obtain ⟨bb, hbb⟩ : ∃ b, (Nm.send row (to, bs)).1 = b := ⟨_, rfl⟩
            rw [hbb] at u7 u8
            clear hbb
            try rw [u7]
            try rw [u8]
            have F8 := Lib.hid (HF8.out)
            obtain ⟨rw0, hrw0⟩ : ∃ x, (Nm.send row (to, bs)).2 = x := ⟨_, rfl⟩
            have N9 := Lib.hid (show ND w' g r w.heap.size (fun _ => False) rw0 rw0 from by rw [← hrw0]; exact N8.out); have F9 := Lib.hid (show FacD rw0 from by rw [← hrw0]; exact F8.out)
            have B9 := Lib.hid B8.out
            obtain ⟨S9, vL9, vS9, a9, b9, -⟩ := id N9.out
            obtain ⟨A9, c9, hv9, hLR9, -, -⟩ := b9.2.1.toL.letR (Nat.zero_le _)
            obtain ⟨nr, hnr⟩ : ∃ q, rw0.length = q := ⟨_, rfl⟩
            obtain ⟨ls, hls⟩ : ∃ q, rw0.map (·.1) = q := ⟨_, rfl⟩
            have hlsl : ls.length = nr := by rw [← hls, List.length_map, hnr]
            rw [hls] at hv9 hLR9
            rw [hlsl] at hv9
            subst hv9
            have HA9 := Lib.hid a9; have HLR := Lib.hid hLR9; have HK9 := Lib.hid b9.1; have HNR := Lib.hid hnr; have HLS := Lib.hid hls; have HLSL := Lib.hid hlsl
            have hl64 : nr ≤ 64 := by rw [← hnr]; exact F9.out.1
            clear hrw0 a9 b9 hLR9 hnr hls hlsl
            go_wp2
            generalize hW : w' = w9 at N9 B9 HA9 HLR HK9 ⊢
            clear hW
            refine Inv.region_below (fun i v w' => match i with
                | 0 => v = .bool bb
                | 1 => v = .bool bb
                | 2 => v = .bool false
                | 3 => v = .bool false
                | 4 => v = .pointer (some ⟨g, 0, none⟩)
                | 5 => v = .int .i64 (nr : Int)
                | 6 => v = .pointer (some ⟨r, 0, none⟩)
                | 7 => v = .pointer (some ⟨r, 0, none⟩)
                | 8 => v = .pointer (some ⟨r, 0, none⟩)
                | 9 => v = .slice A9 nr c9
                | 10 => v = .int .i64 (nr : Int)
                | 11 => v = .bool false
                | 12 => v = .bool false
                | 13 => v = .bool false
                | 14 => v = .pointer (some ⟨g, 0, none⟩)
                | 15 => ∃ A c, v = .slice A nr c ∧ LetR w' w'.heap.size A ls
                | 16 => ∃ A c, v = .slice A nr c ∧ LetR w' w'.heap.size A ls
                | 17 => v = .pointer (some ⟨r, 0, none⟩)
                | 18 => v = .pointer (some ⟨r, 0, none⟩)
                | 19 => v = .pointer (some ⟨r, 0, none⟩)
                | 20 => v = .slice A9 nr c9
                | 21 => v = .bool true
                | 22 => v = .bool false
                | 23 => v = .bool false
                | _ => True)
              (fun w' => Below w9.heap.size w9 w' ∧ True) 116 [91, 92, 93, 94, 95, 96, 97, 98, 99, 100, 101, 102, 103, 104, 105, 106, 107, 108, 109, 110, 111, 112, 113, 114] (by kernel_rfl) rfl (by kernel_rfl) (by kernel_rfl) ?_ ?_ ?_ ?_
            · intro v v' hC hb
              obtain ⟨hB, -⟩ := hC
              exact ⟨hB.trans (hb.mono hB.size), trivial⟩
            · exact ⟨(Below.refl _ _).drew, trivial⟩
            · refine ⟨⟨fun _ _ _ h _ => h, ?_⟩, ⟨fun _ _ _ h _ => h, ?_⟩, ⟨fun _ _ _ h _ => h, ?_⟩, ⟨fun _ _ _ h _ => h, ?_⟩, ⟨fun _ _ _ h _ => h, ?_⟩, ⟨fun _ _ _ h _ => h, ?_⟩, ⟨fun _ _ _ h _ => h, ?_⟩, ⟨fun _ _ _ h _ => h, ?_⟩, ⟨fun _ _ _ h _ => h, ?_⟩, ⟨fun _ _ _ h _ => h, ?_⟩, ⟨fun _ _ _ h _ => h, ?_⟩, ⟨fun _ _ _ h _ => h, ?_⟩, ⟨fun _ _ _ h _ => h, ?_⟩, ⟨fun _ _ _ h _ => h, ?_⟩, ⟨fun _ _ _ h _ => h, ?_⟩, ⟨fun v w w' ⟨A, c, h1, h2⟩ hb => ⟨A, c, h1, h2.step hb⟩, ?_⟩, ⟨fun v w w' ⟨A, c, h1, h2⟩ hb => ⟨A, c, h1, h2.step hb⟩, ?_⟩, ⟨fun _ _ _ h _ => h, ?_⟩, ⟨fun _ _ _ h _ => h, ?_⟩, ⟨fun _ _ _ h _ => h, ?_⟩, ⟨fun _ _ _ h _ => h, ?_⟩, ⟨fun _ _ _ h _ => h, ?_⟩, ⟨fun _ _ _ h _ => h, ?_⟩, ⟨fun _ _ _ h _ => h, ?_⟩, trivial⟩
              · intro act wa hC hd H O K hK
                clear hd
                obtain ⟨hB, -⟩ := hC
                have h7 := O 7 (by kernel_rfl)
                have g7 := Array.getD_eq_getD_getElem?.symm.trans h7
                clear H O
                have kr := HK9.out.below hB HK9.out.lt
                have krl := kr.lt
                have kr0 := kr.cell 0
                simp at kr0
                go_simp
                exact hK _ _ (Below.refl _ _) (fun _ => rfl)
              · intro act wa hC hd H O K hK
                clear hd
                obtain ⟨hB, -⟩ := hC
                have h8 := O 8 (by kernel_rfl)
                have g8 := Array.getD_eq_getD_getElem?.symm.trans h8
                clear H O
                have kr := HK9.out.below hB HK9.out.lt
                have krl := kr.lt
                have kr0 := kr.cell 0
                simp at kr0
                go_simp
                exact hK _ _ (Below.refl _ _) (fun _ => rfl)
              · intro act wa hC hd H O K hK
                clear hd
                obtain ⟨hB, -⟩ := hC
                have h91 : act.tmps.getD 91 undef = .bool bb := H 1 0 91 (by kernel_rfl) rfl
                have g91 := Array.getD_eq_getD_getElem?.symm.trans h91
                have h92 : act.tmps.getD 92 undef = .bool bb := H 1 1 92 (by kernel_rfl) rfl
                have g92 := Array.getD_eq_getD_getElem?.symm.trans h92
                clear H O
                have kr := HK9.out.below hB HK9.out.lt
                have krl := kr.lt
                have kr0 := kr.cell 0
                simp at kr0
                go_simp
                exact hK _ _ (Below.refl _ _) (fun _ => rfl)
              · intro act wa hC hd H O K hK
                clear hd
                obtain ⟨hB, -⟩ := hC
                have h93 : act.tmps.getD 93 undef = .bool false := H 1 2 93 (by kernel_rfl) rfl
                have g93 := Array.getD_eq_getD_getElem?.symm.trans h93
                clear H O
                have kr := HK9.out.below hB HK9.out.lt
                have krl := kr.lt
                have kr0 := kr.cell 0
                simp at kr0
                go_simp
                exact hK _ _ (Below.refl _ _) (fun _ => rfl)
              · intro act wa hC hd H O K hK
                clear hd
                obtain ⟨hB, -⟩ := hC
                have h3 := O 3 (by kernel_rfl)
                have g3 := Array.getD_eq_getD_getElem?.symm.trans h3
                have h94 : act.tmps.getD 94 undef = .bool false := H 1 3 94 (by kernel_rfl) rfl
                have g94 := Array.getD_eq_getD_getElem?.symm.trans h94
                have k94 := Inv.some_bool g94
                clear H O
                have kr := HK9.out.below hB HK9.out.lt
                have krl := kr.lt
                have kr0 := kr.cell 0
                simp at kr0
                go_simp
                exact hK _ _ (Below.refl _ _) (fun _ => rfl)
              · intro act wa hC hd H O K hK
                clear hd
                obtain ⟨hB, -⟩ := hC
                have h95 : act.tmps.getD 95 undef = .pointer (some ⟨g, 0, none⟩) := H 1 4 95 (by kernel_rfl) rfl
                have g95 := Array.getD_eq_getD_getElem?.symm.trans h95
                have h94 : act.tmps.getD 94 undef = .bool false := H 1 3 94 (by kernel_rfl) rfl
                have g94 := Array.getD_eq_getD_getElem?.symm.trans h94
                have k94 := Inv.some_bool g94
                clear H O
                have kr := HK9.out.below hB HK9.out.lt
                have krl := kr.lt
                have kr0 := kr.cell 0
                simp at kr0
                go_simp
                refine (NLen_any wa g S9 rw0 (HA9.out.below hB)).mono ?_
                rintro e1 w1 ⟨rfl, rfl⟩
                rw [HNR.out]
                exact hK _ _ (Below.refl _ _) (fun _ => rfl)
              · intro act wa hC hd H O K hK
                clear hd
                obtain ⟨hB, -⟩ := hC
                have h4 := O 4 (by kernel_rfl)
                have g4 := Array.getD_eq_getD_getElem?.symm.trans h4
                have h94 : act.tmps.getD 94 undef = .bool false := H 1 3 94 (by kernel_rfl) rfl
                have g94 := Array.getD_eq_getD_getElem?.symm.trans h94
                have k94 := Inv.some_bool g94
                clear H O
                have kr := HK9.out.below hB HK9.out.lt
                have krl := kr.lt
                have kr0 := kr.cell 0
                simp at kr0
                go_simp
                exact hK _ _ (Below.refl _ _) (fun _ => rfl)
              · intro act wa hC hd H O K hK
                clear hd
                obtain ⟨hB, -⟩ := hC
                have h97 : act.tmps.getD 97 undef = .pointer (some ⟨r, 0, none⟩) := H 1 6 97 (by kernel_rfl) rfl
                have g97 := Array.getD_eq_getD_getElem?.symm.trans h97
                have h94 : act.tmps.getD 94 undef = .bool false := H 1 3 94 (by kernel_rfl) rfl
                have g94 := Array.getD_eq_getD_getElem?.symm.trans h94
                have k94 := Inv.some_bool g94
                clear H O
                have kr := HK9.out.below hB HK9.out.lt
                have krl := kr.lt
                have kr0 := kr.cell 0
                simp at kr0
                go_simp
                exact hK _ _ (Below.refl _ _) (fun _ => rfl)
              · intro act wa hC hd H O K hK
                clear hd
                obtain ⟨hB, -⟩ := hC
                have h98 : act.tmps.getD 98 undef = .pointer (some ⟨r, 0, none⟩) := H 1 7 98 (by kernel_rfl) rfl
                have g98 := Array.getD_eq_getD_getElem?.symm.trans h98
                have h94 : act.tmps.getD 94 undef = .bool false := H 1 3 94 (by kernel_rfl) rfl
                have g94 := Array.getD_eq_getD_getElem?.symm.trans h94
                have k94 := Inv.some_bool g94
                clear H O
                have kr := HK9.out.below hB HK9.out.lt
                have krl := kr.lt
                have kr0 := kr.cell 0
                simp at kr0
                go_simp
                exact hK _ _ (Below.refl _ _) (fun _ => rfl)
              · intro act wa hC hd H O K hK
                clear hd
                obtain ⟨hB, -⟩ := hC
                have h99 : act.tmps.getD 99 undef = .pointer (some ⟨r, 0, none⟩) := H 1 8 99 (by kernel_rfl) rfl
                have g99 := Array.getD_eq_getD_getElem?.symm.trans h99
                have h94 : act.tmps.getD 94 undef = .bool false := H 1 3 94 (by kernel_rfl) rfl
                have g94 := Array.getD_eq_getD_getElem?.symm.trans h94
                have k94 := Inv.some_bool g94
                clear H O
                have kr := HK9.out.below hB HK9.out.lt
                have krl := kr.lt
                have kr0 := kr.cell 0
                simp at kr0
                go_simp
                exact hK _ _ (Below.refl _ _) (fun _ => rfl)
              · intro act wa hC hd H O K hK
                clear hd
                obtain ⟨hB, -⟩ := hC
                have h100 : act.tmps.getD 100 undef = .slice A9 nr c9 := H 1 9 100 (by kernel_rfl) rfl
                have g100 := Array.getD_eq_getD_getElem?.symm.trans h100
                have h94 : act.tmps.getD 94 undef = .bool false := H 1 3 94 (by kernel_rfl) rfl
                have g94 := Array.getD_eq_getD_getElem?.symm.trans h94
                have k94 := Inv.some_bool g94
                clear H O
                have kr := HK9.out.below hB HK9.out.lt
                have krl := kr.lt
                have kr0 := kr.cell 0
                simp at kr0
                go_simp
                exact hK _ _ (Below.refl _ _) (fun _ => rfl)
              · intro act wa hC hd H O K hK
                clear hd
                obtain ⟨hB, -⟩ := hC
                have h96 : act.tmps.getD 96 undef = .int .i64 (nr : Int) := H 1 5 96 (by kernel_rfl) rfl
                have g96 := Array.getD_eq_getD_getElem?.symm.trans h96
                have h101 : act.tmps.getD 101 undef = .int .i64 (nr : Int) := H 1 10 101 (by kernel_rfl) rfl
                have g101 := Array.getD_eq_getD_getElem?.symm.trans h101
                have h94 : act.tmps.getD 94 undef = .bool false := H 1 3 94 (by kernel_rfl) rfl
                have g94 := Array.getD_eq_getD_getElem?.symm.trans h94
                have k94 := Inv.some_bool g94
                clear H O
                have kr := HK9.out.below hB HK9.out.lt
                have krl := kr.lt
                have kr0 := kr.cell 0
                simp at kr0
                go_simp
                exact hK _ _ (Below.refl _ _) (fun _ => rfl)
              · intro act wa hC hd H O K hK
                clear hd
                obtain ⟨hB, -⟩ := hC
                have h94 : act.tmps.getD 94 undef = .bool false := H 1 3 94 (by kernel_rfl) rfl
                have g94 := Array.getD_eq_getD_getElem?.symm.trans h94
                have h102 : act.tmps.getD 102 undef = .bool false := H 1 11 102 (by kernel_rfl) rfl
                have g102 := Array.getD_eq_getD_getElem?.symm.trans h102
                clear H O
                have kr := HK9.out.below hB HK9.out.lt
                have krl := kr.lt
                have kr0 := kr.cell 0
                simp at kr0
                go_simp
                exact hK _ _ (Below.refl _ _) (fun _ => rfl)
              · intro act wa hC hd H O K hK
                clear hd
                obtain ⟨hB, -⟩ := hC
                have h103 : act.tmps.getD 103 undef = .bool false := H 1 12 103 (by kernel_rfl) rfl
                have g103 := Array.getD_eq_getD_getElem?.symm.trans h103
                clear H O
                have kr := HK9.out.below hB HK9.out.lt
                have krl := kr.lt
                have kr0 := kr.cell 0
                simp at kr0
                go_simp
                exact hK _ _ (Below.refl _ _) (fun _ => rfl)
              · intro act wa hC hd H O K hK
                clear hd
                obtain ⟨hB, -⟩ := hC
                have h3 := O 3 (by kernel_rfl)
                have g3 := Array.getD_eq_getD_getElem?.symm.trans h3
                have h104 : act.tmps.getD 104 undef = .bool false := H 1 13 104 (by kernel_rfl) rfl
                have g104 := Array.getD_eq_getD_getElem?.symm.trans h104
                have k104 := Inv.some_bool g104
                clear H O
                have kr := HK9.out.below hB HK9.out.lt
                have krl := kr.lt
                have kr0 := kr.cell 0
                simp at kr0
                go_simp
                exact hK _ _ (Below.refl _ _) (fun _ => rfl)
              · intro act wa hC hd H O K hK
                clear hd
                obtain ⟨hB, -⟩ := hC
                have h105 : act.tmps.getD 105 undef = .pointer (some ⟨g, 0, none⟩) := H 1 14 105 (by kernel_rfl) rfl
                have g105 := Array.getD_eq_getD_getElem?.symm.trans h105
                have h104 : act.tmps.getD 104 undef = .bool false := H 1 13 104 (by kernel_rfl) rfl
                have g104 := Array.getD_eq_getD_getElem?.symm.trans h104
                have k104 := Inv.some_bool g104
                clear H O
                have kr := HK9.out.below hB HK9.out.lt
                have krl := kr.lt
                have kr0 := kr.cell 0
                simp at kr0
                go_simp
                refine (NAll_any wa g S9 rw0 (HA9.out.below hB) (by rw [HNR.out]; exact hl64) (fun x hx => by have := (F9.out.2.1 x hx).1; omega)).mono ?_
                rintro e1 w1 ⟨v8, rfl, hl8, hb⟩
                obtain ⟨A8, c8, rfl, hr8, -, -⟩ := hl8.toL.letR hb.size
                rw [HLS.out, HLSL.out] at *
                exact hK _ _ hb (fun _ => ⟨A8, c8, rfl, hr8⟩)
              · intro act wa hC hd H O K hK
                clear hd
                obtain ⟨hB, -⟩ := hC
                have h106 : ∃ A c, act.tmps.getD 106 undef = .slice A nr c ∧ LetR wa wa.heap.size A ls := H 1 15 106 (by kernel_rfl) rfl
                obtain ⟨A106, c106, h106', l106⟩ := h106
                have h104 : act.tmps.getD 104 undef = .bool false := H 1 13 104 (by kernel_rfl) rfl
                have g104 := Array.getD_eq_getD_getElem?.symm.trans h104
                have k104 := Inv.some_bool g104
                clear H O
                have kr := HK9.out.below hB HK9.out.lt
                have krl := kr.lt
                have kr0 := kr.cell 0
                simp at kr0
                go_simp
                refine (Lown_any wa A106 nr c106 _ l106 HLSL.out (by omega)).mono ?_
                rintro e1 w1 ⟨v8, rfl, hl8, hb⟩
                obtain ⟨A8, c8, rfl, hr8, -, -⟩ := hl8.letR hb.size
                rw [HLSL.out]
                exact hK _ _ hb (fun _ => ⟨A8, c8, rfl, hr8⟩)
              · intro act wa hC hd H O K hK
                clear hd
                obtain ⟨hB, -⟩ := hC
                have h4 := O 4 (by kernel_rfl)
                have g4 := Array.getD_eq_getD_getElem?.symm.trans h4
                have h104 : act.tmps.getD 104 undef = .bool false := H 1 13 104 (by kernel_rfl) rfl
                have g104 := Array.getD_eq_getD_getElem?.symm.trans h104
                have k104 := Inv.some_bool g104
                clear H O
                have kr := HK9.out.below hB HK9.out.lt
                have krl := kr.lt
                have kr0 := kr.cell 0
                simp at kr0
                go_simp
                exact hK _ _ (Below.refl _ _) (fun _ => rfl)
              · intro act wa hC hd H O K hK
                clear hd
                obtain ⟨hB, -⟩ := hC
                have h108 : act.tmps.getD 108 undef = .pointer (some ⟨r, 0, none⟩) := H 1 17 108 (by kernel_rfl) rfl
                have g108 := Array.getD_eq_getD_getElem?.symm.trans h108
                have h104 : act.tmps.getD 104 undef = .bool false := H 1 13 104 (by kernel_rfl) rfl
                have g104 := Array.getD_eq_getD_getElem?.symm.trans h104
                have k104 := Inv.some_bool g104
                clear H O
                have kr := HK9.out.below hB HK9.out.lt
                have krl := kr.lt
                have kr0 := kr.cell 0
                simp at kr0
                go_simp
                exact hK _ _ (Below.refl _ _) (fun _ => rfl)
              · intro act wa hC hd H O K hK
                clear hd
                obtain ⟨hB, -⟩ := hC
                have h109 : act.tmps.getD 109 undef = .pointer (some ⟨r, 0, none⟩) := H 1 18 109 (by kernel_rfl) rfl
                have g109 := Array.getD_eq_getD_getElem?.symm.trans h109
                have h104 : act.tmps.getD 104 undef = .bool false := H 1 13 104 (by kernel_rfl) rfl
                have g104 := Array.getD_eq_getD_getElem?.symm.trans h104
                have k104 := Inv.some_bool g104
                clear H O
                have kr := HK9.out.below hB HK9.out.lt
                have krl := kr.lt
                have kr0 := kr.cell 0
                simp at kr0
                go_simp
                exact hK _ _ (Below.refl _ _) (fun _ => rfl)
              · intro act wa hC hd H O K hK
                clear hd
                obtain ⟨hB, -⟩ := hC
                have h110 : act.tmps.getD 110 undef = .pointer (some ⟨r, 0, none⟩) := H 1 19 110 (by kernel_rfl) rfl
                have g110 := Array.getD_eq_getD_getElem?.symm.trans h110
                have h104 : act.tmps.getD 104 undef = .bool false := H 1 13 104 (by kernel_rfl) rfl
                have g104 := Array.getD_eq_getD_getElem?.symm.trans h104
                have k104 := Inv.some_bool g104
                clear H O
                have kr := HK9.out.below hB HK9.out.lt
                have krl := kr.lt
                have kr0 := kr.cell 0
                simp at kr0
                go_simp
                exact hK _ _ (Below.refl _ _) (fun _ => rfl)
              · intro act wa hC hd H O K hK
                clear hd
                obtain ⟨hB, -⟩ := hC
                have h107 : ∃ A c, act.tmps.getD 107 undef = .slice A nr c ∧ LetR wa wa.heap.size A ls := H 1 16 107 (by kernel_rfl) rfl
                obtain ⟨A107, c107, h107', l107⟩ := h107
                have h111 : act.tmps.getD 111 undef = .slice A9 nr c9 := H 1 20 111 (by kernel_rfl) rfl
                have g111 := Array.getD_eq_getD_getElem?.symm.trans h111
                have h104 : act.tmps.getD 104 undef = .bool false := H 1 13 104 (by kernel_rfl) rfl
                have g104 := Array.getD_eq_getD_getElem?.symm.trans h104
                have k104 := Inv.some_bool g104
                clear H O
                have kr := HK9.out.below hB HK9.out.lt
                have krl := kr.lt
                have kr0 := kr.cell 0
                simp at kr0
                go_simp
                refine (LSame_any wa A107 A9 nr nr c107 c9 _ _ l107 (HLR.out.step hB) HLSL.out HLSL.out (by omega) (by omega)).mono ?_
                rintro e1 w1 ⟨rfl, hb⟩
                rw [decide_eq_true rfl]
                exact hK _ _ hb (fun _ => rfl)
              · intro act wa hC hd H O K hK
                clear hd
                obtain ⟨hB, -⟩ := hC
                have h112 : act.tmps.getD 112 undef = .bool true := H 1 21 112 (by kernel_rfl) rfl
                have g112 := Array.getD_eq_getD_getElem?.symm.trans h112
                have h104 : act.tmps.getD 104 undef = .bool false := H 1 13 104 (by kernel_rfl) rfl
                have g104 := Array.getD_eq_getD_getElem?.symm.trans h104
                have k104 := Inv.some_bool g104
                clear H O
                have kr := HK9.out.below hB HK9.out.lt
                have krl := kr.lt
                have kr0 := kr.cell 0
                simp at kr0
                go_simp
                exact hK _ _ (Below.refl _ _) (fun _ => rfl)
              · intro act wa hC hd H O K hK
                clear hd
                obtain ⟨hB, -⟩ := hC
                have h104 : act.tmps.getD 104 undef = .bool false := H 1 13 104 (by kernel_rfl) rfl
                have g104 := Array.getD_eq_getD_getElem?.symm.trans h104
                have h113 : act.tmps.getD 113 undef = .bool false := H 1 22 113 (by kernel_rfl) rfl
                have g113 := Array.getD_eq_getD_getElem?.symm.trans h113
                clear H O
                have kr := HK9.out.below hB HK9.out.lt
                have krl := kr.lt
                have kr0 := kr.cell 0
                simp at kr0
                go_simp
                exact hK _ _ (Below.refl _ _) (fun _ => rfl)
            · intro us w' hC hF
              obtain ⟨hB, -⟩ := hC
              have u114 : us 114 = .bool false := hF 23 114 rfl
              clear hF
              simp only [List.foldl]
              go_simp
              have e114 : us 114 = .bool false := u114
              have N11 := Lib.hid (N9.out.below hB); have B11 := Lib.hid (B9.out.trans (hB.mono B9.out.size))
              have R := Lib.hid (show TRD w g r len (.int .i64 ((k : Int) + 1)) w' from ⟨k + 1, rw0, by go_num, HLT.out, N11.out, F9.out, B11.out⟩)
              clear hB u114
              try rw [e114]
              go_wp2
              go_roundw
              case rel => exact R.out
              case measure => simp [intOf]; have := HLT.out; omega
        · have n01 : (d == 0) = false := by simp [hq0]
          have n02 : decide (d = 0) = false := by simp [hq0]
          by_cases hq1 : d = 1
          · subst hq1
            go_wp2_with fail
            generalize hW : wr.alloc (.cells #[.int .i64 1, .int .i64 i, .int .i64 p, .int .u32 (m : Int), .int .i64 to, .slice Ab nb cb] 100) = w4
            have hb : Below wr.heap.size wr w4 := by rw [← hW]; exact (Below.refl _ wr).alloc (Nat.le_refl _) _
            have N4 := Lib.hid (N0.out.below hb); have B4 := Lib.hid (HB.out.trans (hb.mono HB.out.size))
            have RB4 := Lib.hid (RB.out.below (hb.mono HB.out.size))
            have Z4 : Hid (Blk w4 wr.heap.size 100 #[.int .i64 1, .int .i64 i, .int .i64 p, .int .u32 (m : Int), .int .i64 to, .slice Ab nb cb]) := Lib.hid (by rw [← hW]; exact Blk.new wr _ _)
            have HS4 := Lib.hid B4.out.size
            have hsz4 : w4.heap.size = wr.heap.size + 1 := by rw [← hW]; simp
            obtain ⟨ga, hga⟩ : ∃ q, wr.heap.size = q := ⟨_, rfl⟩
            rw [hga] at Z4 hsz4
            have HSZ := Lib.hid hsz4
            clear hsz4
            try rw [hga]
            clear hb hW hga d0 d1 d2 d3 d4 d5
            have HF8 := Lib.hid (HFC.out.take (i := i))
            have ha : Below w4.heap.size w4 ((w4.alloc (.cells #[.int .i64 0, .slice none 0 0] 98)).alloc (.cells #[.int .i64 0, .slice none 0 0] 103)) := ((Below.refl _ w4).alloc (Nat.le_refl _) _).alloc (by simp) _
            have N5 : Hid (ND ((w4.alloc (.cells #[.int .i64 0, .slice none 0 0] 98)).alloc (.cells #[.int .i64 0, .slice none 0 0] 103)) g r w.heap.size (fun j => j = w4.heap.size + 1) row row) := Lib.hid (N4.out.fresh ha (fun j hj => by omega) (fun j hj => by rw [hj]; simp))
            have X5 : Hid (Blk ((w4.alloc (.cells #[.int .i64 0, .slice none 0 0] 98)).alloc (.cells #[.int .i64 0, .slice none 0 0] 103)) w4.heap.size 98 #[.int .i64 0, .slice none 0 0]) := Lib.hid ((Blk.new w4 98 #[.int .i64 0, .slice none 0 0]).alloc _)
            have Y5 : Hid (Blk ((w4.alloc (.cells #[.int .i64 0, .slice none 0 0] 98)).alloc (.cells #[.int .i64 0, .slice none 0 0] 103)) (w4.heap.size + 1) 103 #[.int .i64 0, .slice none 0 0]) := Lib.hid (Blk.new' (w4.alloc (.cells #[.int .i64 0, .slice none 0 0] 98)) 103 _ (by simp))
            have B5 := Lib.hid (B4.out.trans (ha.mono B4.out.size)); have Z5 := Lib.hid (Z4.out.below ha Z4.out.lt)
            have HS5 := Lib.hid B5.out.size
            have zl5 := Z5.out.lt
            have z51 := Z5.out.cell 1
            simp at z51
            clear ha
            go_wp2_with fail
            generalize hW : ((w4.alloc (.cells #[.int .i64 0, .slice none 0 0] 98)).alloc (.cells #[.int .i64 0, .slice none 0 0] 103)) = w5 at N5 X5 Y5 B5 Z5 HS5 zl5 z51 ⊢
            clear hW
            have HXB0 := HS4.out
            rw [HSZ.out] at N5 X5 Y5 HXB0
            obtain ⟨x5, hx5⟩ : ∃ q, ga + 1 = q := ⟨_, rfl⟩
            have HXB : Hid (w.heap.size ≤ x5) := Lib.hid (by rw [← hx5]; exact HXB0)
            clear HXB0
            simp only [hx5] at N5 X5 Y5 ⊢
            clear hx5
            refine (takeN i N5.out HS5.out HI.out HFC.out.1 (fun x hx => by have := (HFC.out.2.1 x hx).1; omega)).mono ?_
            rintro en w6 ⟨R6, C6, rfl, hm6, n6, b6, k6⟩
            have N6 := Lib.hid n6; have B6 := Lib.hid (B5.out.trans b6); have X6 := Lib.hid (k6 _ _ _ (by decide) (by decide) (by decide) X5.out); have Y6 := Lib.hid (k6 _ _ _ (by decide) (by decide) (by decide) Y5.out); have Z6 := Lib.hid (k6 _ _ _ (by decide) (by decide) (by decide) Z5.out)
            obtain ⟨pr, hpr⟩ : ∃ q, (Nm.take row i).1 = q := ⟨_, rfl⟩
            obtain ⟨row6, hrow6⟩ : ∃ q, (Nm.take row i).2 = q := ⟨_, rfl⟩
            have HPR := Lib.hid hpr; have HR6 := Lib.hid hrow6
            rw [hpr] at hm6 ⊢
            rw [hrow6] at N6
            obtain ⟨⟨tx, bx⟩, isx⟩ := pr
            simp only at hm6 ⊢
            obtain ⟨nx, hnx⟩ : ∃ q, bx.length = q := ⟨_, rfl⟩
            rw [hnx] at hm6 ⊢
            have HNX := Lib.hid hnx; have HM6 := Lib.hid hm6
            have hxl := X6.out.lt
            have hx0 := X6.out.cell 0
            have hx1 := X6.out.cell 1
            have hxf0 := X6.out.frozen 0
            have hxf1 := X6.out.frozen 1
            have hzl := Z6.out.lt
            have hz1 := Z6.out.cell 1
            have hzx : ga ≠ x5 := fun e => by
              have h1 := Z6.out
              have h2 := X6.out
              rw [e] at h1
              unfold Blk at h1 h2
              rw [h1] at h2
              injection h2 with h2
              injection h2 with _ h2 _
              exact absurd h2 (by decide)
            simp at hx0 hx1 hz1
            clear hm6 n6 b6 k6 hpr hrow6 hnx zl5 z51
            have N7 := Lib.hid (N6.out.setLet X6.out (.inl rfl) (.int .i64 tx) (.slice R6 nx C6))
            have hO7 := only2 w6 x5 (.int .i64 tx) (.slice R6 nx C6)
            have X7 : Hid (Blk ((w6.setCell ⟨x5, 0, none⟩ (.int .i64 tx)).setCell ⟨x5, 1, none⟩ (.slice R6 nx C6)) x5 98 #[.int .i64 tx, .slice R6 nx C6]) := Lib.hid (by have h9 := (X6.out.set 0 (.int .i64 tx)).set 1 (.slice R6 nx C6); simpa using h9)
            have Y7 := Lib.hid (hO7.blk Y6.out (fun e => by omega)); have Z7 := Lib.hid (hO7.blk Z6.out hzx)
            have B7 := Lib.hid (B6.out.trans (hO7.to_below B6.out.size (fun j hj => by rw [hj]; exact HXB.out)))
            have HS7 := Lib.hid B7.out.size
            have RX7 := Lib.hid (show Made ((w6.setCell ⟨x5, 0, none⟩ (.int .i64 tx)).setCell ⟨x5, 1, none⟩ (.slice R6 nx C6)) (.slice R6 nx C6) bx nx from (MadeO.other (S := fun _ => False) ⟨HM6.out, fun _ _ _ _ _ _ h => h⟩ hO7 (fun g o n c hv hn hj => (MadeO.offB (X := fun _ => False) ⟨HM6.out, fun _ _ _ _ _ _ h => h⟩ X6.out (by intro u hu n; simp at hu; rcases hu with rfl | rfl <;> simp) g o n c hv hn hj))).1)
            clear hO7
            go_wp2_with fail
            generalize hW : ((w6.setCell ⟨x5, 0, none⟩ (.int .i64 tx)).setCell ⟨x5, 1, none⟩ (.slice R6 nx C6)) = w7 at N7 X7 Y7 Z7 B7 HS7 RX7 ⊢
            clear hW
            have hzl7 := Z7.out.lt
            have hz17 := Z7.out.cell 1
            simp at hz17
            clear hxl hx0 hx1 hxf0 hxf1 hzl hz1
            try go_wp2_with fail
            refine (takeR i N7.out HS7.out HI.out HFC.out.1).mono ?_
            rintro en w8 ⟨⟨R8, C8, rfl, hm8, n8, b8, k8⟩, mk8⟩
            have B8 := Lib.hid (B7.out.trans b8); have X8 := Lib.hid (k8 _ _ _ (by decide) (by decide) (by decide) X7.out); have Y8 := Lib.hid (k8 _ _ _ (by decide) (by decide) (by decide) Y7.out)
            have RX8 := Lib.hid (mk8 _ _ _ RX7.out)
            rw [HPR.out] at hm8 ⊢
            rw [HR6.out] at n8
            simp only at hm8 ⊢
            rw [HNX.out] at hm8 ⊢
            have N8 := Lib.hid n8; have HM8 := Lib.hid hm8
            have hyl := Y8.out.lt
            have hy0' := Y8.out.cell 0
            have hy1' := Y8.out.cell 1
            have hyf0 := Y8.out.frozen 0
            have hyf1 := Y8.out.frozen 1
            simp at hy0' hy1'
            clear hm8 n8 b8 k8 mk8 hzl7 hz17
            have N9 := Lib.hid (N8.out.setLet Y8.out (.inr ⟨rfl, rfl⟩) (.int .i64 tx) (.slice R8 nx C8)).none
            have hO9 := only2 w8 (x5 + 1) (.int .i64 tx) (.slice R8 nx C8)
            have X9 := Lib.hid (hO9.blk X8.out (fun e => by omega))
            have Y9 : Hid (Blk ((w8.setCell ⟨x5 + 1, 0, none⟩ (.int .i64 tx)).setCell ⟨x5 + 1, 1, none⟩ (.slice R8 nx C8)) (x5 + 1) 103 #[.int .i64 tx, .slice R8 nx C8]) := Lib.hid (by have h9 := (Y8.out.set 0 (.int .i64 tx)).set 1 (.slice R8 nx C8); simpa using h9)
            have B9 := Lib.hid (B8.out.trans (hO9.to_below B8.out.size (fun j hj => by rw [hj]; have := HXB.out; omega)))
            have hcs8 : ∀ u ∈ #[Value.int .i64 0, Value.slice none 0 0], ∀ n, u ≠ .int .u8 n := by intro u hu n; simp at hu; rcases hu with rfl | rfl <;> simp
            have RX9 := Lib.hid (show Made ((w8.setCell ⟨x5 + 1, 0, none⟩ (.int .i64 tx)).setCell ⟨x5 + 1, 1, none⟩ (.slice R8 nx C8)) (.slice R6 nx C6) bx nx from (MadeO.other (S := fun _ => False) ⟨RX8.out, fun _ _ _ _ _ _ h => h⟩ hO9 (fun g o n c hv hn hj => (MadeO.offB (X := fun _ => False) ⟨RX8.out, fun _ _ _ _ _ _ h => h⟩ Y8.out hcs8 g o n c hv hn hj))).1)
            have RY9 := Lib.hid (show Made ((w8.setCell ⟨x5 + 1, 0, none⟩ (.int .i64 tx)).setCell ⟨x5 + 1, 1, none⟩ (.slice R8 nx C8)) (.slice R8 nx C8) bx nx from (MadeO.other (S := fun _ => False) ⟨HM8.out, fun _ _ _ _ _ _ h => h⟩ hO9 (fun g o n c hv hn hj => (MadeO.offB (X := fun _ => False) ⟨HM8.out, fun _ _ _ _ _ _ h => h⟩ Y8.out hcs8 g o n c hv hn hj))).1)
            clear hO9 hcs8
            go_wp2
            generalize hW : ((w8.setCell ⟨x5 + 1, 0, none⟩ (.int .i64 tx)).setCell ⟨x5 + 1, 1, none⟩ (.slice R8 nx C8)) = w10 at N9 X9 Y9 B9 RX9 RY9 ⊢
            clear hW
            have PX := Lib.hid RX9.out.parts
            have PY := Lib.hid RY9.out.parts
            have xl := X9.out.lt
            have yl := Y9.out.lt
            have xa := X9.out.cell 0
            have xb := X9.out.cell 1
            have ya := Y9.out.cell 0
            have yb := Y9.out.cell 1
            simp at xa xb ya yb
            clear hyl hy0' hy1' hyf0 hyf1
            refine Inv.region_below (fun i v w' => match i with
                | 0 => v = .agg #[.int .i64 tx, .slice R6 nx C6]
                | 1 => ∃ A, v = .slice A 1 1 ∧ LetR w' w'.heap.size A [(tx, bx)]
                | 2 => ∃ A c, v = .slice A 1 c ∧ LetR w' w'.heap.size A [(tx, bx)]
                | 3 => v = .agg #[.int .i64 tx, .slice R8 nx C8]
                | 4 => ∃ A, v = .slice A 1 1 ∧ LetR w' w'.heap.size A [(tx, bx)]
                | 5 => v = .bool true
                | 6 => v = .bool false
                | _ => True)
              (fun w' => Below w10.heap.size w10 w' ∧ True) 116 [56, 57, 58, 59, 60, 61, 62] (by kernel_rfl) rfl (by kernel_rfl) (by kernel_rfl) ?_ ?_ ?_ ?_
            · intro v v' hC hb
              obtain ⟨hB, -⟩ := hC
              exact ⟨hB.trans (hb.mono hB.size), trivial⟩
            · exact ⟨(Below.refl _ _).drew, trivial⟩
            · refine ⟨⟨fun _ _ _ h _ => h, ?_⟩, ⟨fun v w w' ⟨A, h1, h2⟩ hb => ⟨A, h1, h2.step hb⟩, ?_⟩, ⟨fun v w w' ⟨A, c, h1, h2⟩ hb => ⟨A, c, h1, h2.step hb⟩, ?_⟩, ⟨fun _ _ _ h _ => h, ?_⟩, ⟨fun v w w' ⟨A, h1, h2⟩ hb => ⟨A, h1, h2.step hb⟩, ?_⟩, ⟨fun _ _ _ h _ => h, ?_⟩, ⟨fun _ _ _ h _ => h, ?_⟩, trivial⟩
              · intro act wa hC hd H O K hK
                clear hd
                obtain ⟨hB, -⟩ := hC
                have h9 := O 9 (by kernel_rfl)
                have g9 := Array.getD_eq_getD_getElem?.symm.trans h9
                clear H O
                have qa := (hB.cell (p := ⟨x5, 0, none⟩) xl).trans xa
                have qb := (hB.cell (p := ⟨x5, 1, none⟩) xl).trans xb
                have qc := (hB.cell (p := ⟨x5 + 1, 0, none⟩) yl).trans ya
                have qd := (hB.cell (p := ⟨x5 + 1, 1, none⟩) yl).trans yb
                go_simp
                exact hK _ _ (Below.refl _ _) (fun _ => rfl)
              · intro act wa hC hd H O K hK
                clear hd
                obtain ⟨hB, -⟩ := hC
                have h56 : act.tmps.getD 56 undef = .agg #[.int .i64 tx, .slice R6 nx C6] := H 1 0 56 (by kernel_rfl) rfl
                have g56 := Array.getD_eq_getD_getElem?.symm.trans h56
                clear H O
                have qa := (hB.cell (p := ⟨x5, 0, none⟩) xl).trans xa
                have qb := (hB.cell (p := ⟨x5, 1, none⟩) xl).trans xb
                have qc := (hB.cell (p := ⟨x5 + 1, 0, none⟩) yl).trans ya
                have qd := (hB.cell (p := ⟨x5 + 1, 1, none⟩) yl).trans yb
                go_simp
                exact hK _ _ ((Below.refl _ _).alloc (Nat.le_refl _) _) (fun _ => ⟨_, rfl, LetR.one ((PX.out.1.below hB).more hB.size) HNX.out PX.out.2.1 PX.out.2.2.1 PX.out.2.2.2.1 PX.out.2.2.2.2⟩)
              · intro act wa hC hd H O K hK
                clear hd
                obtain ⟨hB, -⟩ := hC
                have h57 : ∃ A, act.tmps.getD 57 undef = .slice A 1 1 ∧ LetR wa wa.heap.size A [(tx, bx)] := H 1 1 57 (by kernel_rfl) rfl
                obtain ⟨A63, h63, l63⟩ := h57
                clear H O
                have qa := (hB.cell (p := ⟨x5, 0, none⟩) xl).trans xa
                have qb := (hB.cell (p := ⟨x5, 1, none⟩) xl).trans xb
                have qc := (hB.cell (p := ⟨x5 + 1, 0, none⟩) yl).trans ya
                have qd := (hB.cell (p := ⟨x5 + 1, 1, none⟩) yl).trans yb
                go_simp
                refine (Lown_any wa A63 1 1 _ l63 rfl (by omega)).mono ?_
                rintro e1 w1 ⟨v8, rfl, hl8, hb⟩
                obtain ⟨A8, c8, rfl, hr8, -, -⟩ := hl8.letR hb.size
                exact hK _ _ hb (fun _ => ⟨A8, c8, rfl, hr8⟩)
              · intro act wa hC hd H O K hK
                clear hd
                obtain ⟨hB, -⟩ := hC
                have h10 := O 10 (by kernel_rfl)
                have g10 := Array.getD_eq_getD_getElem?.symm.trans h10
                clear H O
                have qa := (hB.cell (p := ⟨x5, 0, none⟩) xl).trans xa
                have qb := (hB.cell (p := ⟨x5, 1, none⟩) xl).trans xb
                have qc := (hB.cell (p := ⟨x5 + 1, 0, none⟩) yl).trans ya
                have qd := (hB.cell (p := ⟨x5 + 1, 1, none⟩) yl).trans yb
                go_simp
                exact hK _ _ (Below.refl _ _) (fun _ => rfl)
              · intro act wa hC hd H O K hK
                clear hd
                obtain ⟨hB, -⟩ := hC
                have h59 : act.tmps.getD 59 undef = .agg #[.int .i64 tx, .slice R8 nx C8] := H 1 3 59 (by kernel_rfl) rfl
                have g59 := Array.getD_eq_getD_getElem?.symm.trans h59
                clear H O
                have qa := (hB.cell (p := ⟨x5, 0, none⟩) xl).trans xa
                have qb := (hB.cell (p := ⟨x5, 1, none⟩) xl).trans xb
                have qc := (hB.cell (p := ⟨x5 + 1, 0, none⟩) yl).trans ya
                have qd := (hB.cell (p := ⟨x5 + 1, 1, none⟩) yl).trans yb
                go_simp
                exact hK _ _ ((Below.refl _ _).alloc (Nat.le_refl _) _) (fun _ => ⟨_, rfl, LetR.one ((PY.out.1.below hB).more hB.size) HNX.out PY.out.2.1 PY.out.2.2.1 PY.out.2.2.2.1 PY.out.2.2.2.2⟩)
              · intro act wa hC hd H O K hK
                clear hd
                obtain ⟨hB, -⟩ := hC
                have h58 : ∃ A c, act.tmps.getD 58 undef = .slice A 1 c ∧ LetR wa wa.heap.size A [(tx, bx)] := H 1 2 58 (by kernel_rfl) rfl
                obtain ⟨A64, c64, h64', l64⟩ := h58
                have h60 : ∃ A, act.tmps.getD 60 undef = .slice A 1 1 ∧ LetR wa wa.heap.size A [(tx, bx)] := H 1 4 60 (by kernel_rfl) rfl
                obtain ⟨A66, h66, l66⟩ := h60
                clear H O
                have qa := (hB.cell (p := ⟨x5, 0, none⟩) xl).trans xa
                have qb := (hB.cell (p := ⟨x5, 1, none⟩) xl).trans xb
                have qc := (hB.cell (p := ⟨x5 + 1, 0, none⟩) yl).trans ya
                have qd := (hB.cell (p := ⟨x5 + 1, 1, none⟩) yl).trans yb
                go_simp
                refine (LSame_any wa A64 A66 1 1 c64 1 _ _ l64 l66 rfl rfl (by omega) (by omega)).mono ?_
                rintro e1 w1 ⟨rfl, hb⟩
                rw [decide_eq_true rfl]
                exact hK _ _ hb (fun _ => rfl)
              · intro act wa hC hd H O K hK
                clear hd
                obtain ⟨hB, -⟩ := hC
                have h61 : act.tmps.getD 61 undef = .bool true := H 1 5 61 (by kernel_rfl) rfl
                have g61 := Array.getD_eq_getD_getElem?.symm.trans h61
                clear H O
                have qa := (hB.cell (p := ⟨x5, 0, none⟩) xl).trans xa
                have qb := (hB.cell (p := ⟨x5, 1, none⟩) xl).trans xb
                have qc := (hB.cell (p := ⟨x5 + 1, 0, none⟩) yl).trans ya
                have qd := (hB.cell (p := ⟨x5 + 1, 1, none⟩) yl).trans yb
                go_simp
                exact hK _ _ (Below.refl _ _) (fun _ => rfl)
            · intro us w' hC hF
              obtain ⟨hB, -⟩ := hC
              have u62 : us 62 = .bool false := hF 6 62 rfl
              clear hF
              simp only [List.foldl]
              go_simp
              have e62 : us 62 = .bool false := u62
              have N12 := Lib.hid (N9.out.below hB); have B12 := Lib.hid (B9.out.trans (hB.mono B9.out.size))
              have F12 := Lib.hid (show FacD row6 from by rw [← HR6.out]; exact HF8.out)
              clear hB u62
              try rw [e62]
              obtain ⟨rw0, hrw0⟩ : ∃ x, row6 = x := ⟨_, rfl⟩
              have N9 := Lib.hid (show ND w' g r w.heap.size (fun _ => False) rw0 rw0 from by rw [← hrw0]; exact N12.out); have F9 := Lib.hid (show FacD rw0 from by rw [← hrw0]; exact F12.out)
              have B9 := Lib.hid B12.out
              obtain ⟨S9, vL9, vS9, a9, b9, -⟩ := id N9.out
              obtain ⟨A9, c9, hv9, hLR9, -, -⟩ := b9.2.1.toL.letR (Nat.zero_le _)
              obtain ⟨nr, hnr⟩ : ∃ q, rw0.length = q := ⟨_, rfl⟩
              obtain ⟨ls, hls⟩ : ∃ q, rw0.map (·.1) = q := ⟨_, rfl⟩
              have hlsl : ls.length = nr := by rw [← hls, List.length_map, hnr]
              rw [hls] at hv9 hLR9
              rw [hlsl] at hv9
              subst hv9
              have HA9 := Lib.hid a9; have HLR := Lib.hid hLR9; have HK9 := Lib.hid b9.1; have HNR := Lib.hid hnr; have HLS := Lib.hid hls; have HLSL := Lib.hid hlsl
              have hl64 : nr ≤ 64 := by rw [← hnr]; exact F9.out.1
              clear hrw0 a9 b9 hLR9 hnr hls hlsl
              go_wp2
              generalize hW : w' = w9 at N9 B9 HA9 HLR HK9 ⊢
              clear hW
              refine Inv.region_below (fun i v w' => match i with
                  | 0 => v = .bool isx
                  | 1 => v = .bool isx
                  | 2 => v = .bool false
                  | 3 => v = .bool false
                  | 4 => v = .pointer (some ⟨g, 0, none⟩)
                  | 5 => v = .int .i64 (nr : Int)
                  | 6 => v = .pointer (some ⟨r, 0, none⟩)
                  | 7 => v = .pointer (some ⟨r, 0, none⟩)
                  | 8 => v = .pointer (some ⟨r, 0, none⟩)
                  | 9 => v = .slice A9 nr c9
                  | 10 => v = .int .i64 (nr : Int)
                  | 11 => v = .bool false
                  | 12 => v = .bool false
                  | 13 => v = .bool false
                  | 14 => v = .pointer (some ⟨g, 0, none⟩)
                  | 15 => ∃ A c, v = .slice A nr c ∧ LetR w' w'.heap.size A ls
                  | 16 => ∃ A c, v = .slice A nr c ∧ LetR w' w'.heap.size A ls
                  | 17 => v = .pointer (some ⟨r, 0, none⟩)
                  | 18 => v = .pointer (some ⟨r, 0, none⟩)
                  | 19 => v = .pointer (some ⟨r, 0, none⟩)
                  | 20 => v = .slice A9 nr c9
                  | 21 => v = .bool true
                  | 22 => v = .bool false
                  | 23 => v = .bool false
                  | _ => True)
                (fun w' => Below w9.heap.size w9 w' ∧ True) 116 [91, 92, 93, 94, 95, 96, 97, 98, 99, 100, 101, 102, 103, 104, 105, 106, 107, 108, 109, 110, 111, 112, 113, 114] (by kernel_rfl) rfl (by kernel_rfl) (by kernel_rfl) ?_ ?_ ?_ ?_
              · intro v v' hC hb
                obtain ⟨hB, -⟩ := hC
                exact ⟨hB.trans (hb.mono hB.size), trivial⟩
              · exact ⟨(Below.refl _ _).drew, trivial⟩
              · refine ⟨⟨fun _ _ _ h _ => h, ?_⟩, ⟨fun _ _ _ h _ => h, ?_⟩, ⟨fun _ _ _ h _ => h, ?_⟩, ⟨fun _ _ _ h _ => h, ?_⟩, ⟨fun _ _ _ h _ => h, ?_⟩, ⟨fun _ _ _ h _ => h, ?_⟩, ⟨fun _ _ _ h _ => h, ?_⟩, ⟨fun _ _ _ h _ => h, ?_⟩, ⟨fun _ _ _ h _ => h, ?_⟩, ⟨fun _ _ _ h _ => h, ?_⟩, ⟨fun _ _ _ h _ => h, ?_⟩, ⟨fun _ _ _ h _ => h, ?_⟩, ⟨fun _ _ _ h _ => h, ?_⟩, ⟨fun _ _ _ h _ => h, ?_⟩, ⟨fun _ _ _ h _ => h, ?_⟩, ⟨fun v w w' ⟨A, c, h1, h2⟩ hb => ⟨A, c, h1, h2.step hb⟩, ?_⟩, ⟨fun v w w' ⟨A, c, h1, h2⟩ hb => ⟨A, c, h1, h2.step hb⟩, ?_⟩, ⟨fun _ _ _ h _ => h, ?_⟩, ⟨fun _ _ _ h _ => h, ?_⟩, ⟨fun _ _ _ h _ => h, ?_⟩, ⟨fun _ _ _ h _ => h, ?_⟩, ⟨fun _ _ _ h _ => h, ?_⟩, ⟨fun _ _ _ h _ => h, ?_⟩, ⟨fun _ _ _ h _ => h, ?_⟩, trivial⟩
                · intro act wa hC hd H O K hK
                  clear hd
                  obtain ⟨hB, -⟩ := hC
                  have h7 := O 7 (by kernel_rfl)
                  have g7 := Array.getD_eq_getD_getElem?.symm.trans h7
                  clear H O
                  have kr := HK9.out.below hB HK9.out.lt
                  have krl := kr.lt
                  have kr0 := kr.cell 0
                  simp at kr0
                  go_simp
                  exact hK _ _ (Below.refl _ _) (fun _ => rfl)
                · intro act wa hC hd H O K hK
                  clear hd
                  obtain ⟨hB, -⟩ := hC
                  have h8 := O 8 (by kernel_rfl)
                  have g8 := Array.getD_eq_getD_getElem?.symm.trans h8
                  clear H O
                  have kr := HK9.out.below hB HK9.out.lt
                  have krl := kr.lt
                  have kr0 := kr.cell 0
                  simp at kr0
                  go_simp
                  exact hK _ _ (Below.refl _ _) (fun _ => rfl)
                · intro act wa hC hd H O K hK
                  clear hd
                  obtain ⟨hB, -⟩ := hC
                  have h91 : act.tmps.getD 91 undef = .bool isx := H 1 0 91 (by kernel_rfl) rfl
                  have g91 := Array.getD_eq_getD_getElem?.symm.trans h91
                  have h92 : act.tmps.getD 92 undef = .bool isx := H 1 1 92 (by kernel_rfl) rfl
                  have g92 := Array.getD_eq_getD_getElem?.symm.trans h92
                  clear H O
                  have kr := HK9.out.below hB HK9.out.lt
                  have krl := kr.lt
                  have kr0 := kr.cell 0
                  simp at kr0
                  go_simp
                  exact hK _ _ (Below.refl _ _) (fun _ => rfl)
                · intro act wa hC hd H O K hK
                  clear hd
                  obtain ⟨hB, -⟩ := hC
                  have h93 : act.tmps.getD 93 undef = .bool false := H 1 2 93 (by kernel_rfl) rfl
                  have g93 := Array.getD_eq_getD_getElem?.symm.trans h93
                  clear H O
                  have kr := HK9.out.below hB HK9.out.lt
                  have krl := kr.lt
                  have kr0 := kr.cell 0
                  simp at kr0
                  go_simp
                  exact hK _ _ (Below.refl _ _) (fun _ => rfl)
                · intro act wa hC hd H O K hK
                  clear hd
                  obtain ⟨hB, -⟩ := hC
                  have h3 := O 3 (by kernel_rfl)
                  have g3 := Array.getD_eq_getD_getElem?.symm.trans h3
                  have h94 : act.tmps.getD 94 undef = .bool false := H 1 3 94 (by kernel_rfl) rfl
                  have g94 := Array.getD_eq_getD_getElem?.symm.trans h94
                  have k94 := Inv.some_bool g94
                  clear H O
                  have kr := HK9.out.below hB HK9.out.lt
                  have krl := kr.lt
                  have kr0 := kr.cell 0
                  simp at kr0
                  go_simp
                  exact hK _ _ (Below.refl _ _) (fun _ => rfl)
                · intro act wa hC hd H O K hK
                  clear hd
                  obtain ⟨hB, -⟩ := hC
                  have h95 : act.tmps.getD 95 undef = .pointer (some ⟨g, 0, none⟩) := H 1 4 95 (by kernel_rfl) rfl
                  have g95 := Array.getD_eq_getD_getElem?.symm.trans h95
                  have h94 : act.tmps.getD 94 undef = .bool false := H 1 3 94 (by kernel_rfl) rfl
                  have g94 := Array.getD_eq_getD_getElem?.symm.trans h94
                  have k94 := Inv.some_bool g94
                  clear H O
                  have kr := HK9.out.below hB HK9.out.lt
                  have krl := kr.lt
                  have kr0 := kr.cell 0
                  simp at kr0
                  go_simp
                  refine (NLen_any wa g S9 rw0 (HA9.out.below hB)).mono ?_
                  rintro e1 w1 ⟨rfl, rfl⟩
                  rw [HNR.out]
                  exact hK _ _ (Below.refl _ _) (fun _ => rfl)
                · intro act wa hC hd H O K hK
                  clear hd
                  obtain ⟨hB, -⟩ := hC
                  have h4 := O 4 (by kernel_rfl)
                  have g4 := Array.getD_eq_getD_getElem?.symm.trans h4
                  have h94 : act.tmps.getD 94 undef = .bool false := H 1 3 94 (by kernel_rfl) rfl
                  have g94 := Array.getD_eq_getD_getElem?.symm.trans h94
                  have k94 := Inv.some_bool g94
                  clear H O
                  have kr := HK9.out.below hB HK9.out.lt
                  have krl := kr.lt
                  have kr0 := kr.cell 0
                  simp at kr0
                  go_simp
                  exact hK _ _ (Below.refl _ _) (fun _ => rfl)
                · intro act wa hC hd H O K hK
                  clear hd
                  obtain ⟨hB, -⟩ := hC
                  have h97 : act.tmps.getD 97 undef = .pointer (some ⟨r, 0, none⟩) := H 1 6 97 (by kernel_rfl) rfl
                  have g97 := Array.getD_eq_getD_getElem?.symm.trans h97
                  have h94 : act.tmps.getD 94 undef = .bool false := H 1 3 94 (by kernel_rfl) rfl
                  have g94 := Array.getD_eq_getD_getElem?.symm.trans h94
                  have k94 := Inv.some_bool g94
                  clear H O
                  have kr := HK9.out.below hB HK9.out.lt
                  have krl := kr.lt
                  have kr0 := kr.cell 0
                  simp at kr0
                  go_simp
                  exact hK _ _ (Below.refl _ _) (fun _ => rfl)
                · intro act wa hC hd H O K hK
                  clear hd
                  obtain ⟨hB, -⟩ := hC
                  have h98 : act.tmps.getD 98 undef = .pointer (some ⟨r, 0, none⟩) := H 1 7 98 (by kernel_rfl) rfl
                  have g98 := Array.getD_eq_getD_getElem?.symm.trans h98
                  have h94 : act.tmps.getD 94 undef = .bool false := H 1 3 94 (by kernel_rfl) rfl
                  have g94 := Array.getD_eq_getD_getElem?.symm.trans h94
                  have k94 := Inv.some_bool g94
                  clear H O
                  have kr := HK9.out.below hB HK9.out.lt
                  have krl := kr.lt
                  have kr0 := kr.cell 0
                  simp at kr0
                  go_simp
                  exact hK _ _ (Below.refl _ _) (fun _ => rfl)
                · intro act wa hC hd H O K hK
                  clear hd
                  obtain ⟨hB, -⟩ := hC
                  have h99 : act.tmps.getD 99 undef = .pointer (some ⟨r, 0, none⟩) := H 1 8 99 (by kernel_rfl) rfl
                  have g99 := Array.getD_eq_getD_getElem?.symm.trans h99
                  have h94 : act.tmps.getD 94 undef = .bool false := H 1 3 94 (by kernel_rfl) rfl
                  have g94 := Array.getD_eq_getD_getElem?.symm.trans h94
                  have k94 := Inv.some_bool g94
                  clear H O
                  have kr := HK9.out.below hB HK9.out.lt
                  have krl := kr.lt
                  have kr0 := kr.cell 0
                  simp at kr0
                  go_simp
                  exact hK _ _ (Below.refl _ _) (fun _ => rfl)
                · intro act wa hC hd H O K hK
                  clear hd
                  obtain ⟨hB, -⟩ := hC
                  have h100 : act.tmps.getD 100 undef = .slice A9 nr c9 := H 1 9 100 (by kernel_rfl) rfl
                  have g100 := Array.getD_eq_getD_getElem?.symm.trans h100
                  have h94 : act.tmps.getD 94 undef = .bool false := H 1 3 94 (by kernel_rfl) rfl
                  have g94 := Array.getD_eq_getD_getElem?.symm.trans h94
                  have k94 := Inv.some_bool g94
                  clear H O
                  have kr := HK9.out.below hB HK9.out.lt
                  have krl := kr.lt
                  have kr0 := kr.cell 0
                  simp at kr0
                  go_simp
                  exact hK _ _ (Below.refl _ _) (fun _ => rfl)
                · intro act wa hC hd H O K hK
                  clear hd
                  obtain ⟨hB, -⟩ := hC
                  have h96 : act.tmps.getD 96 undef = .int .i64 (nr : Int) := H 1 5 96 (by kernel_rfl) rfl
                  have g96 := Array.getD_eq_getD_getElem?.symm.trans h96
                  have h101 : act.tmps.getD 101 undef = .int .i64 (nr : Int) := H 1 10 101 (by kernel_rfl) rfl
                  have g101 := Array.getD_eq_getD_getElem?.symm.trans h101
                  have h94 : act.tmps.getD 94 undef = .bool false := H 1 3 94 (by kernel_rfl) rfl
                  have g94 := Array.getD_eq_getD_getElem?.symm.trans h94
                  have k94 := Inv.some_bool g94
                  clear H O
                  have kr := HK9.out.below hB HK9.out.lt
                  have krl := kr.lt
                  have kr0 := kr.cell 0
                  simp at kr0
                  go_simp
                  exact hK _ _ (Below.refl _ _) (fun _ => rfl)
                · intro act wa hC hd H O K hK
                  clear hd
                  obtain ⟨hB, -⟩ := hC
                  have h94 : act.tmps.getD 94 undef = .bool false := H 1 3 94 (by kernel_rfl) rfl
                  have g94 := Array.getD_eq_getD_getElem?.symm.trans h94
                  have h102 : act.tmps.getD 102 undef = .bool false := H 1 11 102 (by kernel_rfl) rfl
                  have g102 := Array.getD_eq_getD_getElem?.symm.trans h102
                  clear H O
                  have kr := HK9.out.below hB HK9.out.lt
                  have krl := kr.lt
                  have kr0 := kr.cell 0
                  simp at kr0
                  go_simp
                  exact hK _ _ (Below.refl _ _) (fun _ => rfl)
                · intro act wa hC hd H O K hK
                  clear hd
                  obtain ⟨hB, -⟩ := hC
                  have h103 : act.tmps.getD 103 undef = .bool false := H 1 12 103 (by kernel_rfl) rfl
                  have g103 := Array.getD_eq_getD_getElem?.symm.trans h103
                  clear H O
                  have kr := HK9.out.below hB HK9.out.lt
                  have krl := kr.lt
                  have kr0 := kr.cell 0
                  simp at kr0
                  go_simp
                  exact hK _ _ (Below.refl _ _) (fun _ => rfl)
                · intro act wa hC hd H O K hK
                  clear hd
                  obtain ⟨hB, -⟩ := hC
                  have h3 := O 3 (by kernel_rfl)
                  have g3 := Array.getD_eq_getD_getElem?.symm.trans h3
                  have h104 : act.tmps.getD 104 undef = .bool false := H 1 13 104 (by kernel_rfl) rfl
                  have g104 := Array.getD_eq_getD_getElem?.symm.trans h104
                  have k104 := Inv.some_bool g104
                  clear H O
                  have kr := HK9.out.below hB HK9.out.lt
                  have krl := kr.lt
                  have kr0 := kr.cell 0
                  simp at kr0
                  go_simp
                  exact hK _ _ (Below.refl _ _) (fun _ => rfl)
                · intro act wa hC hd H O K hK
                  clear hd
                  obtain ⟨hB, -⟩ := hC
                  have h105 : act.tmps.getD 105 undef = .pointer (some ⟨g, 0, none⟩) := H 1 14 105 (by kernel_rfl) rfl
                  have g105 := Array.getD_eq_getD_getElem?.symm.trans h105
                  have h104 : act.tmps.getD 104 undef = .bool false := H 1 13 104 (by kernel_rfl) rfl
                  have g104 := Array.getD_eq_getD_getElem?.symm.trans h104
                  have k104 := Inv.some_bool g104
                  clear H O
                  have kr := HK9.out.below hB HK9.out.lt
                  have krl := kr.lt
                  have kr0 := kr.cell 0
                  simp at kr0
                  go_simp
                  refine (NAll_any wa g S9 rw0 (HA9.out.below hB) (by rw [HNR.out]; exact hl64) (fun x hx => by have := (F9.out.2.1 x hx).1; omega)).mono ?_
                  rintro e1 w1 ⟨v8, rfl, hl8, hb⟩
                  obtain ⟨A8, c8, rfl, hr8, -, -⟩ := hl8.toL.letR hb.size
                  rw [HLS.out, HLSL.out] at *
                  exact hK _ _ hb (fun _ => ⟨A8, c8, rfl, hr8⟩)
                · intro act wa hC hd H O K hK
                  clear hd
                  obtain ⟨hB, -⟩ := hC
                  have h106 : ∃ A c, act.tmps.getD 106 undef = .slice A nr c ∧ LetR wa wa.heap.size A ls := H 1 15 106 (by kernel_rfl) rfl
                  obtain ⟨A106, c106, h106', l106⟩ := h106
                  have h104 : act.tmps.getD 104 undef = .bool false := H 1 13 104 (by kernel_rfl) rfl
                  have g104 := Array.getD_eq_getD_getElem?.symm.trans h104
                  have k104 := Inv.some_bool g104
                  clear H O
                  have kr := HK9.out.below hB HK9.out.lt
                  have krl := kr.lt
                  have kr0 := kr.cell 0
                  simp at kr0
                  go_simp
                  refine (Lown_any wa A106 nr c106 _ l106 HLSL.out (by omega)).mono ?_
                  rintro e1 w1 ⟨v8, rfl, hl8, hb⟩
                  obtain ⟨A8, c8, rfl, hr8, -, -⟩ := hl8.letR hb.size
                  rw [HLSL.out]
                  exact hK _ _ hb (fun _ => ⟨A8, c8, rfl, hr8⟩)
                · intro act wa hC hd H O K hK
                  clear hd
                  obtain ⟨hB, -⟩ := hC
                  have h4 := O 4 (by kernel_rfl)
                  have g4 := Array.getD_eq_getD_getElem?.symm.trans h4
                  have h104 : act.tmps.getD 104 undef = .bool false := H 1 13 104 (by kernel_rfl) rfl
                  have g104 := Array.getD_eq_getD_getElem?.symm.trans h104
                  have k104 := Inv.some_bool g104
                  clear H O
                  have kr := HK9.out.below hB HK9.out.lt
                  have krl := kr.lt
                  have kr0 := kr.cell 0
                  simp at kr0
                  go_simp
                  exact hK _ _ (Below.refl _ _) (fun _ => rfl)
                · intro act wa hC hd H O K hK
                  clear hd
                  obtain ⟨hB, -⟩ := hC
                  have h108 : act.tmps.getD 108 undef = .pointer (some ⟨r, 0, none⟩) := H 1 17 108 (by kernel_rfl) rfl
                  have g108 := Array.getD_eq_getD_getElem?.symm.trans h108
                  have h104 : act.tmps.getD 104 undef = .bool false := H 1 13 104 (by kernel_rfl) rfl
                  have g104 := Array.getD_eq_getD_getElem?.symm.trans h104
                  have k104 := Inv.some_bool g104
                  clear H O
                  have kr := HK9.out.below hB HK9.out.lt
                  have krl := kr.lt
                  have kr0 := kr.cell 0
                  simp at kr0
                  go_simp
                  exact hK _ _ (Below.refl _ _) (fun _ => rfl)
                · intro act wa hC hd H O K hK
                  clear hd
                  obtain ⟨hB, -⟩ := hC
                  have h109 : act.tmps.getD 109 undef = .pointer (some ⟨r, 0, none⟩) := H 1 18 109 (by kernel_rfl) rfl
                  have g109 := Array.getD_eq_getD_getElem?.symm.trans h109
                  have h104 : act.tmps.getD 104 undef = .bool false := H 1 13 104 (by kernel_rfl) rfl
                  have g104 := Array.getD_eq_getD_getElem?.symm.trans h104
                  have k104 := Inv.some_bool g104
                  clear H O
                  have kr := HK9.out.below hB HK9.out.lt
                  have krl := kr.lt
                  have kr0 := kr.cell 0
                  simp at kr0
                  go_simp
                  exact hK _ _ (Below.refl _ _) (fun _ => rfl)
                · intro act wa hC hd H O K hK
                  clear hd
                  obtain ⟨hB, -⟩ := hC
                  have h110 : act.tmps.getD 110 undef = .pointer (some ⟨r, 0, none⟩) := H 1 19 110 (by kernel_rfl) rfl
                  have g110 := Array.getD_eq_getD_getElem?.symm.trans h110
                  have h104 : act.tmps.getD 104 undef = .bool false := H 1 13 104 (by kernel_rfl) rfl
                  have g104 := Array.getD_eq_getD_getElem?.symm.trans h104
                  have k104 := Inv.some_bool g104
                  clear H O
                  have kr := HK9.out.below hB HK9.out.lt
                  have krl := kr.lt
                  have kr0 := kr.cell 0
                  simp at kr0
                  go_simp
                  exact hK _ _ (Below.refl _ _) (fun _ => rfl)
                · intro act wa hC hd H O K hK
                  clear hd
                  obtain ⟨hB, -⟩ := hC
                  have h107 : ∃ A c, act.tmps.getD 107 undef = .slice A nr c ∧ LetR wa wa.heap.size A ls := H 1 16 107 (by kernel_rfl) rfl
                  obtain ⟨A107, c107, h107', l107⟩ := h107
                  have h111 : act.tmps.getD 111 undef = .slice A9 nr c9 := H 1 20 111 (by kernel_rfl) rfl
                  have g111 := Array.getD_eq_getD_getElem?.symm.trans h111
                  have h104 : act.tmps.getD 104 undef = .bool false := H 1 13 104 (by kernel_rfl) rfl
                  have g104 := Array.getD_eq_getD_getElem?.symm.trans h104
                  have k104 := Inv.some_bool g104
                  clear H O
                  have kr := HK9.out.below hB HK9.out.lt
                  have krl := kr.lt
                  have kr0 := kr.cell 0
                  simp at kr0
                  go_simp
                  refine (LSame_any wa A107 A9 nr nr c107 c9 _ _ l107 (HLR.out.step hB) HLSL.out HLSL.out (by omega) (by omega)).mono ?_
                  rintro e1 w1 ⟨rfl, hb⟩
                  rw [decide_eq_true rfl]
                  exact hK _ _ hb (fun _ => rfl)
                · intro act wa hC hd H O K hK
                  clear hd
                  obtain ⟨hB, -⟩ := hC
                  have h112 : act.tmps.getD 112 undef = .bool true := H 1 21 112 (by kernel_rfl) rfl
                  have g112 := Array.getD_eq_getD_getElem?.symm.trans h112
                  have h104 : act.tmps.getD 104 undef = .bool false := H 1 13 104 (by kernel_rfl) rfl
                  have g104 := Array.getD_eq_getD_getElem?.symm.trans h104
                  have k104 := Inv.some_bool g104
                  clear H O
                  have kr := HK9.out.below hB HK9.out.lt
                  have krl := kr.lt
                  have kr0 := kr.cell 0
                  simp at kr0
                  go_simp
                  exact hK _ _ (Below.refl _ _) (fun _ => rfl)
                · intro act wa hC hd H O K hK
                  clear hd
                  obtain ⟨hB, -⟩ := hC
                  have h104 : act.tmps.getD 104 undef = .bool false := H 1 13 104 (by kernel_rfl) rfl
                  have g104 := Array.getD_eq_getD_getElem?.symm.trans h104
                  have h113 : act.tmps.getD 113 undef = .bool false := H 1 22 113 (by kernel_rfl) rfl
                  have g113 := Array.getD_eq_getD_getElem?.symm.trans h113
                  clear H O
                  have kr := HK9.out.below hB HK9.out.lt
                  have krl := kr.lt
                  have kr0 := kr.cell 0
                  simp at kr0
                  go_simp
                  exact hK _ _ (Below.refl _ _) (fun _ => rfl)
              · intro us w' hC hF
                obtain ⟨hB, -⟩ := hC
                have u114 : us 114 = .bool false := hF 23 114 rfl
                clear hF
                simp only [List.foldl]
                go_simp
                have e114 : us 114 = .bool false := u114
                have N11 := Lib.hid (N9.out.below hB); have B11 := Lib.hid (B9.out.trans (hB.mono B9.out.size))
                have R := Lib.hid (show TRD w g r len (.int .i64 ((k : Int) + 1)) w' from ⟨k + 1, rw0, by go_num, HLT.out, N11.out, F9.out, B11.out⟩)
                clear hB u114
                try rw [e114]
                go_wp2
                go_roundw
                case rel => exact R.out
                case measure => simp [intOf]; have := HLT.out; omega
          · have n11 : (d == 1) = false := by simp [hq1]
            have n12 : decide (d = 1) = false := by simp [hq1]
            by_cases hq2 : d = 2
            · subst hq2
              go_wp2_with fail
              generalize hW : wr.alloc (.cells #[.int .i64 2, .int .i64 i, .int .i64 p, .int .u32 (m : Int), .int .i64 to, .slice Ab nb cb] 100) = w4
              have hb : Below wr.heap.size wr w4 := by rw [← hW]; exact (Below.refl _ wr).alloc (Nat.le_refl _) _
              have N4 := Lib.hid (N0.out.below hb); have B4 := Lib.hid (HB.out.trans (hb.mono HB.out.size))
              have RB4 := Lib.hid (RB.out.below (hb.mono HB.out.size))
              have Z4 : Hid (Blk w4 wr.heap.size 100 #[.int .i64 2, .int .i64 i, .int .i64 p, .int .u32 (m : Int), .int .i64 to, .slice Ab nb cb]) := Lib.hid (by rw [← hW]; exact Blk.new wr _ _)
              have HS4 := Lib.hid B4.out.size
              have hsz4 : w4.heap.size = wr.heap.size + 1 := by rw [← hW]; simp
              obtain ⟨ga, hga⟩ : ∃ q, wr.heap.size = q := ⟨_, rfl⟩
              rw [hga] at Z4 hsz4
              have HSZ := Lib.hid hsz4
              clear hsz4
              try rw [hga]
              clear hb hW hga d0 d1 d2 d3 d4 d5
              have HF8 := Lib.hid (HFC.out.dbl (i := i))
              try go_wp2
              refine Inv.region_genL (FL2 g r ga i (Nm.dbl row i).1) (CD w4 g r w.heap.size ga #[.int .i64 2, .int .i64 i, .int .i64 p, .int .u32 (m : Int), .int .i64 to, .slice Ab nb cb] 3 7 row (Nm.dbl row i).2) 116 [65, 66, 67, 68, 69, 70, 71, 72, 7, 8] (by kernel_rfl) rfl (by kernel_rfl) (by kernel_rfl) ?_ ?_ ?_
              · exact ⟨(Below.refl _ w4).drew, Z4.out.drew, by simpa using N4.out.below ((Below.refl _ w4).drew)⟩
              · refine ⟨?_, ?_, ?_, ?_, ?_, ?_, ?_, ?_, ?_, ?_, trivial⟩
                · intro act wa L hC hd hLi hLa hLb HF O K hK
                  clear hd
                  have hz := hC.2.1
                  have zl := hz.lt
                  have z1 := hz.cell 1
                  have z2 := hz.cell 2
                  have z3' := hz.cell 3
                  have z4 := hz.cell 4
                  have z5 := hz.cell 5
                  have hbs := Nat.le_trans HS4.out hC.1.size
                  simp at z1 z2 z3' z4 z5
                  have h3 := O 3 (by kernel_rfl)
                  try have g3 := Array.getD_eq_getD_getElem?.symm.trans h3
                  go_simp
                  exact hK _ _ (hC.keep 0 (by decide) (by decide) HS4.out (Below.refl wa.heap.size wa)) (fun j d _ _ _ h => h) (fun _ => rfl)
                · intro act wa L hC hd hLi hLa hLb HF O K hK
                  clear hd
                  have hz := hC.2.1
                  have zl := hz.lt
                  have z1 := hz.cell 1
                  have z2 := hz.cell 2
                  have z3' := hz.cell 3
                  have z4 := hz.cell 4
                  have z5 := hz.cell 5
                  have hbs := Nat.le_trans HS4.out hC.1.size
                  simp at z1 z2 z3' z4 z5
                  have h6 := O 6 (by kernel_rfl)
                  try have g6 := Array.getD_eq_getD_getElem?.symm.trans h6
                  go_simp
                  exact hK _ _ (hC.keep 1 (by decide) (by decide) HS4.out (Below.refl wa.heap.size wa)) (fun j d _ _ _ h => h) (fun _ => rfl)
                · intro act wa L hC hd hLi hLa hLb HF O K hK
                  clear hd
                  have hz := hC.2.1
                  have zl := hz.lt
                  have z1 := hz.cell 1
                  have z2 := hz.cell 2
                  have z3' := hz.cell 3
                  have z4 := hz.cell 4
                  have z5 := hz.cell 5
                  have hbs := Nat.le_trans HS4.out hC.1.size
                  simp at z1 z2 z3' z4 z5
                  have h66 := HF 1 66 (hLa 1 1 (by kernel_rfl)) rfl
                  dsimp only [FL2] at h66
                  try have g66 := Array.getD_eq_getD_getElem?.symm.trans h66
                  go_simp
                  exact hK _ _ (hC.keep 2 (by decide) (by decide) HS4.out (Below.refl wa.heap.size wa)) (fun j d _ _ _ h => h) (fun _ => rfl)
                · intro act wa L hC hd hLi hLa hLb HF O K hK
                  clear hd
                  have hz := hC.2.1
                  have zl := hz.lt
                  have z1 := hz.cell 1
                  have z2 := hz.cell 2
                  have z3' := hz.cell 3
                  have z4 := hz.cell 4
                  have z5 := hz.cell 5
                  have hbs := Nat.le_trans HS4.out hC.1.size
                  simp at z1 z2 z3' z4 z5
                  have h65 := HF 0 65 (hLa 1 0 (by kernel_rfl)) rfl
                  dsimp only [FL2] at h65
                  try have g65 := Array.getD_eq_getD_getElem?.symm.trans h65
                  have h67 := HF 2 67 (hLa 1 2 (by kernel_rfl)) rfl
                  dsimp only [FL2] at h67
                  try have g67 := Array.getD_eq_getD_getElem?.symm.trans h67
                  go_simp
                  refine (dblN i (hC.nd1 hLi) hbs HI.out HFC.out.1 (fun x hx => by have := (HFC.out.2.1 x hx).1; omega)).mono ?_
                  rintro e w1 hpp
                  obtain rfl := hpp.1
                  exact hK _ _ (hC.one hLi (by decide) hpp) (fun j d _ _ _ h => h) (fun _ => rfl)
                · intro act wa L hC hd hLi hLa hLb HF O K hK
                  clear hd
                  have hz := hC.2.1
                  have zl := hz.lt
                  have z1 := hz.cell 1
                  have z2 := hz.cell 2
                  have z3' := hz.cell 3
                  have z4 := hz.cell 4
                  have z5 := hz.cell 5
                  have hbs := Nat.le_trans HS4.out hC.1.size
                  simp at z1 z2 z3' z4 z5
                  have h4 := O 4 (by kernel_rfl)
                  try have g4 := Array.getD_eq_getD_getElem?.symm.trans h4
                  go_simp
                  exact hK _ _ (hC.keep 4 (by decide) (by decide) HS4.out (Below.refl wa.heap.size wa)) (fun j d _ _ _ h => h) (fun _ => rfl)
                · intro act wa L hC hd hLi hLa hLb HF O K hK
                  clear hd
                  have hz := hC.2.1
                  have zl := hz.lt
                  have z1 := hz.cell 1
                  have z2 := hz.cell 2
                  have z3' := hz.cell 3
                  have z4 := hz.cell 4
                  have z5 := hz.cell 5
                  have hbs := Nat.le_trans HS4.out hC.1.size
                  simp at z1 z2 z3' z4 z5
                  have h6 := O 6 (by kernel_rfl)
                  try have g6 := Array.getD_eq_getD_getElem?.symm.trans h6
                  go_simp
                  exact hK _ _ (hC.keep 5 (by decide) (by decide) HS4.out (Below.refl wa.heap.size wa)) (fun j d _ _ _ h => h) (fun _ => rfl)
                · intro act wa L hC hd hLi hLa hLb HF O K hK
                  clear hd
                  have hz := hC.2.1
                  have zl := hz.lt
                  have z1 := hz.cell 1
                  have z2 := hz.cell 2
                  have z3' := hz.cell 3
                  have z4 := hz.cell 4
                  have z5 := hz.cell 5
                  have hbs := Nat.le_trans HS4.out hC.1.size
                  simp at z1 z2 z3' z4 z5
                  have h70 := HF 5 70 (hLa 1 5 (by kernel_rfl)) rfl
                  dsimp only [FL2] at h70
                  try have g70 := Array.getD_eq_getD_getElem?.symm.trans h70
                  go_simp
                  exact hK _ _ (hC.keep 6 (by decide) (by decide) HS4.out (Below.refl wa.heap.size wa)) (fun j d _ _ _ h => h) (fun _ => rfl)
                · intro act wa L hC hd hLi hLa hLb HF O K hK
                  clear hd
                  have hz := hC.2.1
                  have zl := hz.lt
                  have z1 := hz.cell 1
                  have z2 := hz.cell 2
                  have z3' := hz.cell 3
                  have z4 := hz.cell 4
                  have z5 := hz.cell 5
                  have hbs := Nat.le_trans HS4.out hC.1.size
                  simp at z1 z2 z3' z4 z5
                  have h69 := HF 4 69 (hLa 1 4 (by kernel_rfl)) rfl
                  dsimp only [FL2] at h69
                  try have g69 := Array.getD_eq_getD_getElem?.symm.trans h69
                  have h71 := HF 6 71 (hLa 1 6 (by kernel_rfl)) rfl
                  dsimp only [FL2] at h71
                  try have g71 := Array.getD_eq_getD_getElem?.symm.trans h71
                  go_simp
                  refine (dblR i (hC.nd2 hLi) hbs HI.out HFC.out.1 HFC.out.2.2).mono ?_
                  rintro e w1 hpp
                  obtain rfl := hpp.1
                  exact hK _ _ (hC.two hLi (by decide) hpp) (fun j d _ _ _ h => h) (fun _ => rfl)
                · intro act wa L hC hd hLi hLa hLb HF O K hK
                  clear hd
                  have hz := hC.2.1
                  have zl := hz.lt
                  have z1 := hz.cell 1
                  have z2 := hz.cell 2
                  have z3' := hz.cell 3
                  have z4 := hz.cell 4
                  have z5 := hz.cell 5
                  have hbs := Nat.le_trans HS4.out hC.1.size
                  simp at z1 z2 z3' z4 z5
                  have h68 := HF 3 68 (hLa 1 3 (by kernel_rfl)) rfl
                  dsimp only [FL2] at h68
                  try have g68 := Array.getD_eq_getD_getElem?.symm.trans h68
                  go_simp
                  exact hK _ _ (hC.keep 8 (by decide) (by decide) HS4.out (Below.refl wa.heap.size wa)) (fun j d _ _ _ h => h) (fun _ => rfl)
                · intro act wa L hC hd hLi hLa hLb HF O K hK
                  clear hd
                  have hz := hC.2.1
                  have zl := hz.lt
                  have z1 := hz.cell 1
                  have z2 := hz.cell 2
                  have z3' := hz.cell 3
                  have z4 := hz.cell 4
                  have z5 := hz.cell 5
                  have hbs := Nat.le_trans HS4.out hC.1.size
                  simp at z1 z2 z3' z4 z5
                  have h72 := HF 7 72 (hLa 1 7 (by kernel_rfl)) rfl
                  dsimp only [FL2] at h72
                  try have g72 := Array.getD_eq_getD_getElem?.symm.trans h72
                  go_simp
                  exact hK _ _ (hC.keep 9 (by decide) (by decide) HS4.out (Below.refl wa.heap.size wa)) (fun j d _ _ _ h => h) (fun _ => rfl)
              · intro us w' hC HF
                obtain ⟨L7, hL7, u7⟩ := HF 8 7 rfl
                dsimp only [FL2] at u7
                obtain ⟨L8, hL8, u8⟩ := HF 9 8 rfl
                dsimp only [FL2] at u8
                clear HF
                simp only [List.foldl]
                go_simp
                obtain ⟨LL, hLL, hCC⟩ := hC
                have hnd := hCC.2.2
                rw [if_pos (hLL 3 (by decide)), if_pos (hLL 7 (by decide))] at hnd
                have N8 := Lib.hid hnd; have B8 := Lib.hid (B4.out.trans hCC.1)
                clear hCC hLL hnd hL7 hL8
                obtain ⟨bb, hbb⟩ : ∃ b, (Nm.dbl row i).1 = b := ⟨_, rfl⟩
                rw [hbb] at u7 u8
                clear hbb
                try rw [u7]
                try rw [u8]
                have F8 := Lib.hid (HF8.out)
                obtain ⟨rw0, hrw0⟩ : ∃ x, (Nm.dbl row i).2 = x := ⟨_, rfl⟩
                have N9 := Lib.hid (show ND w' g r w.heap.size (fun _ => False) rw0 rw0 from by rw [← hrw0]; exact N8.out); have F9 := Lib.hid (show FacD rw0 from by rw [← hrw0]; exact F8.out)
                have B9 := Lib.hid B8.out
                obtain ⟨S9, vL9, vS9, a9, b9, -⟩ := id N9.out
                obtain ⟨A9, c9, hv9, hLR9, -, -⟩ := b9.2.1.toL.letR (Nat.zero_le _)
                obtain ⟨nr, hnr⟩ : ∃ q, rw0.length = q := ⟨_, rfl⟩
                obtain ⟨ls, hls⟩ : ∃ q, rw0.map (·.1) = q := ⟨_, rfl⟩
                have hlsl : ls.length = nr := by rw [← hls, List.length_map, hnr]
                rw [hls] at hv9 hLR9
                rw [hlsl] at hv9
                subst hv9
                have HA9 := Lib.hid a9; have HLR := Lib.hid hLR9; have HK9 := Lib.hid b9.1; have HNR := Lib.hid hnr; have HLS := Lib.hid hls; have HLSL := Lib.hid hlsl
                have hl64 : nr ≤ 64 := by rw [← hnr]; exact F9.out.1
                clear hrw0 a9 b9 hLR9 hnr hls hlsl
                go_wp2
                generalize hW : w' = w9 at N9 B9 HA9 HLR HK9 ⊢
                clear hW
                refine Inv.region_below (fun i v w' => match i with
                    | 0 => v = .bool bb
                    | 1 => v = .bool bb
                    | 2 => v = .bool false
                    | 3 => v = .bool false
                    | 4 => v = .pointer (some ⟨g, 0, none⟩)
                    | 5 => v = .int .i64 (nr : Int)
                    | 6 => v = .pointer (some ⟨r, 0, none⟩)
                    | 7 => v = .pointer (some ⟨r, 0, none⟩)
                    | 8 => v = .pointer (some ⟨r, 0, none⟩)
                    | 9 => v = .slice A9 nr c9
                    | 10 => v = .int .i64 (nr : Int)
                    | 11 => v = .bool false
                    | 12 => v = .bool false
                    | 13 => v = .bool false
                    | 14 => v = .pointer (some ⟨g, 0, none⟩)
                    | 15 => ∃ A c, v = .slice A nr c ∧ LetR w' w'.heap.size A ls
                    | 16 => ∃ A c, v = .slice A nr c ∧ LetR w' w'.heap.size A ls
                    | 17 => v = .pointer (some ⟨r, 0, none⟩)
                    | 18 => v = .pointer (some ⟨r, 0, none⟩)
                    | 19 => v = .pointer (some ⟨r, 0, none⟩)
                    | 20 => v = .slice A9 nr c9
                    | 21 => v = .bool true
                    | 22 => v = .bool false
                    | 23 => v = .bool false
                    | _ => True)
                  (fun w' => Below w9.heap.size w9 w' ∧ True) 116 [91, 92, 93, 94, 95, 96, 97, 98, 99, 100, 101, 102, 103, 104, 105, 106, 107, 108, 109, 110, 111, 112, 113, 114] (by kernel_rfl) rfl (by kernel_rfl) (by kernel_rfl) ?_ ?_ ?_ ?_
                · intro v v' hC hb
                  obtain ⟨hB, -⟩ := hC
                  exact ⟨hB.trans (hb.mono hB.size), trivial⟩
                · exact ⟨(Below.refl _ _).drew, trivial⟩
                · refine ⟨⟨fun _ _ _ h _ => h, ?_⟩, ⟨fun _ _ _ h _ => h, ?_⟩, ⟨fun _ _ _ h _ => h, ?_⟩, ⟨fun _ _ _ h _ => h, ?_⟩, ⟨fun _ _ _ h _ => h, ?_⟩, ⟨fun _ _ _ h _ => h, ?_⟩, ⟨fun _ _ _ h _ => h, ?_⟩, ⟨fun _ _ _ h _ => h, ?_⟩, ⟨fun _ _ _ h _ => h, ?_⟩, ⟨fun _ _ _ h _ => h, ?_⟩, ⟨fun _ _ _ h _ => h, ?_⟩, ⟨fun _ _ _ h _ => h, ?_⟩, ⟨fun _ _ _ h _ => h, ?_⟩, ⟨fun _ _ _ h _ => h, ?_⟩, ⟨fun _ _ _ h _ => h, ?_⟩, ⟨fun v w w' ⟨A, c, h1, h2⟩ hb => ⟨A, c, h1, h2.step hb⟩, ?_⟩, ⟨fun v w w' ⟨A, c, h1, h2⟩ hb => ⟨A, c, h1, h2.step hb⟩, ?_⟩, ⟨fun _ _ _ h _ => h, ?_⟩, ⟨fun _ _ _ h _ => h, ?_⟩, ⟨fun _ _ _ h _ => h, ?_⟩, ⟨fun _ _ _ h _ => h, ?_⟩, ⟨fun _ _ _ h _ => h, ?_⟩, ⟨fun _ _ _ h _ => h, ?_⟩, ⟨fun _ _ _ h _ => h, ?_⟩, trivial⟩
                  · intro act wa hC hd H O K hK
                    clear hd
                    obtain ⟨hB, -⟩ := hC
                    have h7 := O 7 (by kernel_rfl)
                    have g7 := Array.getD_eq_getD_getElem?.symm.trans h7
                    clear H O
                    have kr := HK9.out.below hB HK9.out.lt
                    have krl := kr.lt
                    have kr0 := kr.cell 0
                    simp at kr0
                    go_simp
                    exact hK _ _ (Below.refl _ _) (fun _ => rfl)
                  · intro act wa hC hd H O K hK
                    clear hd
                    obtain ⟨hB, -⟩ := hC
                    have h8 := O 8 (by kernel_rfl)
                    have g8 := Array.getD_eq_getD_getElem?.symm.trans h8
                    clear H O
                    have kr := HK9.out.below hB HK9.out.lt
                    have krl := kr.lt
                    have kr0 := kr.cell 0
                    simp at kr0
                    go_simp
                    exact hK _ _ (Below.refl _ _) (fun _ => rfl)
                  · intro act wa hC hd H O K hK
                    clear hd
                    obtain ⟨hB, -⟩ := hC
                    have h91 : act.tmps.getD 91 undef = .bool bb := H 1 0 91 (by kernel_rfl) rfl
                    have g91 := Array.getD_eq_getD_getElem?.symm.trans h91
                    have h92 : act.tmps.getD 92 undef = .bool bb := H 1 1 92 (by kernel_rfl) rfl
                    have g92 := Array.getD_eq_getD_getElem?.symm.trans h92
                    clear H O
                    have kr := HK9.out.below hB HK9.out.lt
                    have krl := kr.lt
                    have kr0 := kr.cell 0
                    simp at kr0
                    go_simp
                    exact hK _ _ (Below.refl _ _) (fun _ => rfl)
                  · intro act wa hC hd H O K hK
                    clear hd
                    obtain ⟨hB, -⟩ := hC
                    have h93 : act.tmps.getD 93 undef = .bool false := H 1 2 93 (by kernel_rfl) rfl
                    have g93 := Array.getD_eq_getD_getElem?.symm.trans h93
                    clear H O
                    have kr := HK9.out.below hB HK9.out.lt
                    have krl := kr.lt
                    have kr0 := kr.cell 0
                    simp at kr0
                    go_simp
                    exact hK _ _ (Below.refl _ _) (fun _ => rfl)
                  · intro act wa hC hd H O K hK
                    clear hd
                    obtain ⟨hB, -⟩ := hC
                    have h3 := O 3 (by kernel_rfl)
                    have g3 := Array.getD_eq_getD_getElem?.symm.trans h3
                    have h94 : act.tmps.getD 94 undef = .bool false := H 1 3 94 (by kernel_rfl) rfl
                    have g94 := Array.getD_eq_getD_getElem?.symm.trans h94
                    have k94 := Inv.some_bool g94
                    clear H O
                    have kr := HK9.out.below hB HK9.out.lt
                    have krl := kr.lt
                    have kr0 := kr.cell 0
                    simp at kr0
                    go_simp
                    exact hK _ _ (Below.refl _ _) (fun _ => rfl)
                  · intro act wa hC hd H O K hK
                    clear hd
                    obtain ⟨hB, -⟩ := hC
                    have h95 : act.tmps.getD 95 undef = .pointer (some ⟨g, 0, none⟩) := H 1 4 95 (by kernel_rfl) rfl
                    have g95 := Array.getD_eq_getD_getElem?.symm.trans h95
                    have h94 : act.tmps.getD 94 undef = .bool false := H 1 3 94 (by kernel_rfl) rfl
                    have g94 := Array.getD_eq_getD_getElem?.symm.trans h94
                    have k94 := Inv.some_bool g94
                    clear H O
                    have kr := HK9.out.below hB HK9.out.lt
                    have krl := kr.lt
                    have kr0 := kr.cell 0
                    simp at kr0
                    go_simp
                    refine (NLen_any wa g S9 rw0 (HA9.out.below hB)).mono ?_
                    rintro e1 w1 ⟨rfl, rfl⟩
                    rw [HNR.out]
                    exact hK _ _ (Below.refl _ _) (fun _ => rfl)
                  · intro act wa hC hd H O K hK
                    clear hd
                    obtain ⟨hB, -⟩ := hC
                    have h4 := O 4 (by kernel_rfl)
                    have g4 := Array.getD_eq_getD_getElem?.symm.trans h4
                    have h94 : act.tmps.getD 94 undef = .bool false := H 1 3 94 (by kernel_rfl) rfl
                    have g94 := Array.getD_eq_getD_getElem?.symm.trans h94
                    have k94 := Inv.some_bool g94
                    clear H O
                    have kr := HK9.out.below hB HK9.out.lt
                    have krl := kr.lt
                    have kr0 := kr.cell 0
                    simp at kr0
                    go_simp
                    exact hK _ _ (Below.refl _ _) (fun _ => rfl)
                  · intro act wa hC hd H O K hK
                    clear hd
                    obtain ⟨hB, -⟩ := hC
                    have h97 : act.tmps.getD 97 undef = .pointer (some ⟨r, 0, none⟩) := H 1 6 97 (by kernel_rfl) rfl
                    have g97 := Array.getD_eq_getD_getElem?.symm.trans h97
                    have h94 : act.tmps.getD 94 undef = .bool false := H 1 3 94 (by kernel_rfl) rfl
                    have g94 := Array.getD_eq_getD_getElem?.symm.trans h94
                    have k94 := Inv.some_bool g94
                    clear H O
                    have kr := HK9.out.below hB HK9.out.lt
                    have krl := kr.lt
                    have kr0 := kr.cell 0
                    simp at kr0
                    go_simp
                    exact hK _ _ (Below.refl _ _) (fun _ => rfl)
                  · intro act wa hC hd H O K hK
                    clear hd
                    obtain ⟨hB, -⟩ := hC
                    have h98 : act.tmps.getD 98 undef = .pointer (some ⟨r, 0, none⟩) := H 1 7 98 (by kernel_rfl) rfl
                    have g98 := Array.getD_eq_getD_getElem?.symm.trans h98
                    have h94 : act.tmps.getD 94 undef = .bool false := H 1 3 94 (by kernel_rfl) rfl
                    have g94 := Array.getD_eq_getD_getElem?.symm.trans h94
                    have k94 := Inv.some_bool g94
                    clear H O
                    have kr := HK9.out.below hB HK9.out.lt
                    have krl := kr.lt
                    have kr0 := kr.cell 0
                    simp at kr0
                    go_simp
                    exact hK _ _ (Below.refl _ _) (fun _ => rfl)
                  · intro act wa hC hd H O K hK
                    clear hd
                    obtain ⟨hB, -⟩ := hC
                    have h99 : act.tmps.getD 99 undef = .pointer (some ⟨r, 0, none⟩) := H 1 8 99 (by kernel_rfl) rfl
                    have g99 := Array.getD_eq_getD_getElem?.symm.trans h99
                    have h94 : act.tmps.getD 94 undef = .bool false := H 1 3 94 (by kernel_rfl) rfl
                    have g94 := Array.getD_eq_getD_getElem?.symm.trans h94
                    have k94 := Inv.some_bool g94
                    clear H O
                    have kr := HK9.out.below hB HK9.out.lt
                    have krl := kr.lt
                    have kr0 := kr.cell 0
                    simp at kr0
                    go_simp
                    exact hK _ _ (Below.refl _ _) (fun _ => rfl)
                  · intro act wa hC hd H O K hK
                    clear hd
                    obtain ⟨hB, -⟩ := hC
                    have h100 : act.tmps.getD 100 undef = .slice A9 nr c9 := H 1 9 100 (by kernel_rfl) rfl
                    have g100 := Array.getD_eq_getD_getElem?.symm.trans h100
                    have h94 : act.tmps.getD 94 undef = .bool false := H 1 3 94 (by kernel_rfl) rfl
                    have g94 := Array.getD_eq_getD_getElem?.symm.trans h94
                    have k94 := Inv.some_bool g94
                    clear H O
                    have kr := HK9.out.below hB HK9.out.lt
                    have krl := kr.lt
                    have kr0 := kr.cell 0
                    simp at kr0
                    go_simp
                    exact hK _ _ (Below.refl _ _) (fun _ => rfl)
                  · intro act wa hC hd H O K hK
                    clear hd
                    obtain ⟨hB, -⟩ := hC
                    have h96 : act.tmps.getD 96 undef = .int .i64 (nr : Int) := H 1 5 96 (by kernel_rfl) rfl
                    have g96 := Array.getD_eq_getD_getElem?.symm.trans h96
                    have h101 : act.tmps.getD 101 undef = .int .i64 (nr : Int) := H 1 10 101 (by kernel_rfl) rfl
                    have g101 := Array.getD_eq_getD_getElem?.symm.trans h101
                    have h94 : act.tmps.getD 94 undef = .bool false := H 1 3 94 (by kernel_rfl) rfl
                    have g94 := Array.getD_eq_getD_getElem?.symm.trans h94
                    have k94 := Inv.some_bool g94
                    clear H O
                    have kr := HK9.out.below hB HK9.out.lt
                    have krl := kr.lt
                    have kr0 := kr.cell 0
                    simp at kr0
                    go_simp
                    exact hK _ _ (Below.refl _ _) (fun _ => rfl)
                  · intro act wa hC hd H O K hK
                    clear hd
                    obtain ⟨hB, -⟩ := hC
                    have h94 : act.tmps.getD 94 undef = .bool false := H 1 3 94 (by kernel_rfl) rfl
                    have g94 := Array.getD_eq_getD_getElem?.symm.trans h94
                    have h102 : act.tmps.getD 102 undef = .bool false := H 1 11 102 (by kernel_rfl) rfl
                    have g102 := Array.getD_eq_getD_getElem?.symm.trans h102
                    clear H O
                    have kr := HK9.out.below hB HK9.out.lt
                    have krl := kr.lt
                    have kr0 := kr.cell 0
                    simp at kr0
                    go_simp
                    exact hK _ _ (Below.refl _ _) (fun _ => rfl)
                  · intro act wa hC hd H O K hK
                    clear hd
                    obtain ⟨hB, -⟩ := hC
                    have h103 : act.tmps.getD 103 undef = .bool false := H 1 12 103 (by kernel_rfl) rfl
                    have g103 := Array.getD_eq_getD_getElem?.symm.trans h103
                    clear H O
                    have kr := HK9.out.below hB HK9.out.lt
                    have krl := kr.lt
                    have kr0 := kr.cell 0
                    simp at kr0
                    go_simp
                    exact hK _ _ (Below.refl _ _) (fun _ => rfl)
                  · intro act wa hC hd H O K hK
                    clear hd
                    obtain ⟨hB, -⟩ := hC
                    have h3 := O 3 (by kernel_rfl)
                    have g3 := Array.getD_eq_getD_getElem?.symm.trans h3
                    have h104 : act.tmps.getD 104 undef = .bool false := H 1 13 104 (by kernel_rfl) rfl
                    have g104 := Array.getD_eq_getD_getElem?.symm.trans h104
                    have k104 := Inv.some_bool g104
                    clear H O
                    have kr := HK9.out.below hB HK9.out.lt
                    have krl := kr.lt
                    have kr0 := kr.cell 0
                    simp at kr0
                    go_simp
                    exact hK _ _ (Below.refl _ _) (fun _ => rfl)
                  · intro act wa hC hd H O K hK
                    clear hd
                    obtain ⟨hB, -⟩ := hC
                    have h105 : act.tmps.getD 105 undef = .pointer (some ⟨g, 0, none⟩) := H 1 14 105 (by kernel_rfl) rfl
                    have g105 := Array.getD_eq_getD_getElem?.symm.trans h105
                    have h104 : act.tmps.getD 104 undef = .bool false := H 1 13 104 (by kernel_rfl) rfl
                    have g104 := Array.getD_eq_getD_getElem?.symm.trans h104
                    have k104 := Inv.some_bool g104
                    clear H O
                    have kr := HK9.out.below hB HK9.out.lt
                    have krl := kr.lt
                    have kr0 := kr.cell 0
                    simp at kr0
                    go_simp
                    refine (NAll_any wa g S9 rw0 (HA9.out.below hB) (by rw [HNR.out]; exact hl64) (fun x hx => by have := (F9.out.2.1 x hx).1; omega)).mono ?_
                    rintro e1 w1 ⟨v8, rfl, hl8, hb⟩
                    obtain ⟨A8, c8, rfl, hr8, -, -⟩ := hl8.toL.letR hb.size
                    rw [HLS.out, HLSL.out] at *
                    exact hK _ _ hb (fun _ => ⟨A8, c8, rfl, hr8⟩)
                  · intro act wa hC hd H O K hK
                    clear hd
                    obtain ⟨hB, -⟩ := hC
                    have h106 : ∃ A c, act.tmps.getD 106 undef = .slice A nr c ∧ LetR wa wa.heap.size A ls := H 1 15 106 (by kernel_rfl) rfl
                    obtain ⟨A106, c106, h106', l106⟩ := h106
                    have h104 : act.tmps.getD 104 undef = .bool false := H 1 13 104 (by kernel_rfl) rfl
                    have g104 := Array.getD_eq_getD_getElem?.symm.trans h104
                    have k104 := Inv.some_bool g104
                    clear H O
                    have kr := HK9.out.below hB HK9.out.lt
                    have krl := kr.lt
                    have kr0 := kr.cell 0
                    simp at kr0
                    go_simp
                    refine (Lown_any wa A106 nr c106 _ l106 HLSL.out (by omega)).mono ?_
                    rintro e1 w1 ⟨v8, rfl, hl8, hb⟩
                    obtain ⟨A8, c8, rfl, hr8, -, -⟩ := hl8.letR hb.size
                    rw [HLSL.out]
                    exact hK _ _ hb (fun _ => ⟨A8, c8, rfl, hr8⟩)
                  · intro act wa hC hd H O K hK
                    clear hd
                    obtain ⟨hB, -⟩ := hC
                    have h4 := O 4 (by kernel_rfl)
                    have g4 := Array.getD_eq_getD_getElem?.symm.trans h4
                    have h104 : act.tmps.getD 104 undef = .bool false := H 1 13 104 (by kernel_rfl) rfl
                    have g104 := Array.getD_eq_getD_getElem?.symm.trans h104
                    have k104 := Inv.some_bool g104
                    clear H O
                    have kr := HK9.out.below hB HK9.out.lt
                    have krl := kr.lt
                    have kr0 := kr.cell 0
                    simp at kr0
                    go_simp
                    exact hK _ _ (Below.refl _ _) (fun _ => rfl)
                  · intro act wa hC hd H O K hK
                    clear hd
                    obtain ⟨hB, -⟩ := hC
                    have h108 : act.tmps.getD 108 undef = .pointer (some ⟨r, 0, none⟩) := H 1 17 108 (by kernel_rfl) rfl
                    have g108 := Array.getD_eq_getD_getElem?.symm.trans h108
                    have h104 : act.tmps.getD 104 undef = .bool false := H 1 13 104 (by kernel_rfl) rfl
                    have g104 := Array.getD_eq_getD_getElem?.symm.trans h104
                    have k104 := Inv.some_bool g104
                    clear H O
                    have kr := HK9.out.below hB HK9.out.lt
                    have krl := kr.lt
                    have kr0 := kr.cell 0
                    simp at kr0
                    go_simp
                    exact hK _ _ (Below.refl _ _) (fun _ => rfl)
                  · intro act wa hC hd H O K hK
                    clear hd
                    obtain ⟨hB, -⟩ := hC
                    have h109 : act.tmps.getD 109 undef = .pointer (some ⟨r, 0, none⟩) := H 1 18 109 (by kernel_rfl) rfl
                    have g109 := Array.getD_eq_getD_getElem?.symm.trans h109
                    have h104 : act.tmps.getD 104 undef = .bool false := H 1 13 104 (by kernel_rfl) rfl
                    have g104 := Array.getD_eq_getD_getElem?.symm.trans h104
                    have k104 := Inv.some_bool g104
                    clear H O
                    have kr := HK9.out.below hB HK9.out.lt
                    have krl := kr.lt
                    have kr0 := kr.cell 0
                    simp at kr0
                    go_simp
                    exact hK _ _ (Below.refl _ _) (fun _ => rfl)
                  · intro act wa hC hd H O K hK
                    clear hd
                    obtain ⟨hB, -⟩ := hC
                    have h110 : act.tmps.getD 110 undef = .pointer (some ⟨r, 0, none⟩) := H 1 19 110 (by kernel_rfl) rfl
                    have g110 := Array.getD_eq_getD_getElem?.symm.trans h110
                    have h104 : act.tmps.getD 104 undef = .bool false := H 1 13 104 (by kernel_rfl) rfl
                    have g104 := Array.getD_eq_getD_getElem?.symm.trans h104
                    have k104 := Inv.some_bool g104
                    clear H O
                    have kr := HK9.out.below hB HK9.out.lt
                    have krl := kr.lt
                    have kr0 := kr.cell 0
                    simp at kr0
                    go_simp
                    exact hK _ _ (Below.refl _ _) (fun _ => rfl)
                  · intro act wa hC hd H O K hK
                    clear hd
                    obtain ⟨hB, -⟩ := hC
                    have h107 : ∃ A c, act.tmps.getD 107 undef = .slice A nr c ∧ LetR wa wa.heap.size A ls := H 1 16 107 (by kernel_rfl) rfl
                    obtain ⟨A107, c107, h107', l107⟩ := h107
                    have h111 : act.tmps.getD 111 undef = .slice A9 nr c9 := H 1 20 111 (by kernel_rfl) rfl
                    have g111 := Array.getD_eq_getD_getElem?.symm.trans h111
                    have h104 : act.tmps.getD 104 undef = .bool false := H 1 13 104 (by kernel_rfl) rfl
                    have g104 := Array.getD_eq_getD_getElem?.symm.trans h104
                    have k104 := Inv.some_bool g104
                    clear H O
                    have kr := HK9.out.below hB HK9.out.lt
                    have krl := kr.lt
                    have kr0 := kr.cell 0
                    simp at kr0
                    go_simp
                    refine (LSame_any wa A107 A9 nr nr c107 c9 _ _ l107 (HLR.out.step hB) HLSL.out HLSL.out (by omega) (by omega)).mono ?_
                    rintro e1 w1 ⟨rfl, hb⟩
                    rw [decide_eq_true rfl]
                    exact hK _ _ hb (fun _ => rfl)
                  · intro act wa hC hd H O K hK
                    clear hd
                    obtain ⟨hB, -⟩ := hC
                    have h112 : act.tmps.getD 112 undef = .bool true := H 1 21 112 (by kernel_rfl) rfl
                    have g112 := Array.getD_eq_getD_getElem?.symm.trans h112
                    have h104 : act.tmps.getD 104 undef = .bool false := H 1 13 104 (by kernel_rfl) rfl
                    have g104 := Array.getD_eq_getD_getElem?.symm.trans h104
                    have k104 := Inv.some_bool g104
                    clear H O
                    have kr := HK9.out.below hB HK9.out.lt
                    have krl := kr.lt
                    have kr0 := kr.cell 0
                    simp at kr0
                    go_simp
                    exact hK _ _ (Below.refl _ _) (fun _ => rfl)
                  · intro act wa hC hd H O K hK
                    clear hd
                    obtain ⟨hB, -⟩ := hC
                    have h104 : act.tmps.getD 104 undef = .bool false := H 1 13 104 (by kernel_rfl) rfl
                    have g104 := Array.getD_eq_getD_getElem?.symm.trans h104
                    have h113 : act.tmps.getD 113 undef = .bool false := H 1 22 113 (by kernel_rfl) rfl
                    have g113 := Array.getD_eq_getD_getElem?.symm.trans h113
                    clear H O
                    have kr := HK9.out.below hB HK9.out.lt
                    have krl := kr.lt
                    have kr0 := kr.cell 0
                    simp at kr0
                    go_simp
                    exact hK _ _ (Below.refl _ _) (fun _ => rfl)
                · intro us w' hC hF
                  obtain ⟨hB, -⟩ := hC
                  have u114 : us 114 = .bool false := hF 23 114 rfl
                  clear hF
                  simp only [List.foldl]
                  go_simp
                  have e114 : us 114 = .bool false := u114
                  have N11 := Lib.hid (N9.out.below hB); have B11 := Lib.hid (B9.out.trans (hB.mono B9.out.size))
                  have R := Lib.hid (show TRD w g r len (.int .i64 ((k : Int) + 1)) w' from ⟨k + 1, rw0, by go_num, HLT.out, N11.out, F9.out, B11.out⟩)
                  clear hB u114
                  try rw [e114]
                  go_wp2
                  go_roundw
                  case rel => exact R.out
                  case measure => simp [intOf]; have := HLT.out; omega
            · have n21 : (d == 2) = false := by simp [hq2]
              have n22 : decide (d = 2) = false := by simp [hq2]
              by_cases hq3 : d = 3
              · subst hq3
                go_wp2_with fail
                generalize hW : wr.alloc (.cells #[.int .i64 3, .int .i64 i, .int .i64 p, .int .u32 (m : Int), .int .i64 to, .slice Ab nb cb] 100) = w4
                have hb : Below wr.heap.size wr w4 := by rw [← hW]; exact (Below.refl _ wr).alloc (Nat.le_refl _) _
                have N4 := Lib.hid (N0.out.below hb); have B4 := Lib.hid (HB.out.trans (hb.mono HB.out.size))
                have RB4 := Lib.hid (RB.out.below (hb.mono HB.out.size))
                have Z4 : Hid (Blk w4 wr.heap.size 100 #[.int .i64 3, .int .i64 i, .int .i64 p, .int .u32 (m : Int), .int .i64 to, .slice Ab nb cb]) := Lib.hid (by rw [← hW]; exact Blk.new wr _ _)
                have HS4 := Lib.hid B4.out.size
                have hsz4 : w4.heap.size = wr.heap.size + 1 := by rw [← hW]; simp
                obtain ⟨ga, hga⟩ : ∃ q, wr.heap.size = q := ⟨_, rfl⟩
                rw [hga] at Z4 hsz4
                have HSZ := Lib.hid hsz4
                clear hsz4
                try rw [hga]
                clear hb hW hga d0 d1 d2 d3 d4 d5
                have HF8 := Lib.hid (HFC.out.trn (i := i) (p := p) (m := m))
                try go_wp2
                refine Inv.region_genL (FL3 g r ga i p m (Nm.trn row i p m).1) (CD w4 g r w.heap.size ga #[.int .i64 3, .int .i64 i, .int .i64 p, .int .u32 (m : Int), .int .i64 to, .slice Ab nb cb] 7 15 row (Nm.trn row i p m).2) 116 [75, 76, 77, 78, 79, 80, 81, 82, 83, 84, 85, 86, 87, 88, 89, 90, 7, 8] (by kernel_rfl) rfl (by kernel_rfl) (by kernel_rfl) ?_ ?_ ?_
                · exact ⟨(Below.refl _ w4).drew, Z4.out.drew, by simpa using N4.out.below ((Below.refl _ w4).drew)⟩
                · refine ⟨?_, ?_, ?_, ?_, ?_, ?_, ?_, ?_, ?_, ?_, ?_, ?_, ?_, ?_, ?_, ?_, ?_, ?_, trivial⟩
                  · intro act wa L hC hd hLi hLa hLb HF O K hK
                    clear hd
                    have hz := hC.2.1
                    have zl := hz.lt
                    have z1 := hz.cell 1
                    have z2 := hz.cell 2
                    have z3' := hz.cell 3
                    have z4 := hz.cell 4
                    have z5 := hz.cell 5
                    have hbs := Nat.le_trans HS4.out hC.1.size
                    simp at z1 z2 z3' z4 z5
                    have h3 := O 3 (by kernel_rfl)
                    try have g3 := Array.getD_eq_getD_getElem?.symm.trans h3
                    go_simp
                    exact hK _ _ (hC.keep 0 (by decide) (by decide) HS4.out (Below.refl wa.heap.size wa)) (fun j d _ _ _ h => h) (fun _ => rfl)
                  · intro act wa L hC hd hLi hLa hLb HF O K hK
                    clear hd
                    have hz := hC.2.1
                    have zl := hz.lt
                    have z1 := hz.cell 1
                    have z2 := hz.cell 2
                    have z3' := hz.cell 3
                    have z4 := hz.cell 4
                    have z5 := hz.cell 5
                    have hbs := Nat.le_trans HS4.out hC.1.size
                    simp at z1 z2 z3' z4 z5
                    have h6 := O 6 (by kernel_rfl)
                    try have g6 := Array.getD_eq_getD_getElem?.symm.trans h6
                    go_simp
                    exact hK _ _ (hC.keep 1 (by decide) (by decide) HS4.out (Below.refl wa.heap.size wa)) (fun j d _ _ _ h => h) (fun _ => rfl)
                  · intro act wa L hC hd hLi hLa hLb HF O K hK
                    clear hd
                    have hz := hC.2.1
                    have zl := hz.lt
                    have z1 := hz.cell 1
                    have z2 := hz.cell 2
                    have z3' := hz.cell 3
                    have z4 := hz.cell 4
                    have z5 := hz.cell 5
                    have hbs := Nat.le_trans HS4.out hC.1.size
                    simp at z1 z2 z3' z4 z5
                    have h76 := HF 1 76 (hLa 1 1 (by kernel_rfl)) rfl
                    dsimp only [FL3] at h76
                    try have g76 := Array.getD_eq_getD_getElem?.symm.trans h76
                    go_simp
                    exact hK _ _ (hC.keep 2 (by decide) (by decide) HS4.out (Below.refl wa.heap.size wa)) (fun j d _ _ _ h => h) (fun _ => rfl)
                  · intro act wa L hC hd hLi hLa hLb HF O K hK
                    clear hd
                    have hz := hC.2.1
                    have zl := hz.lt
                    have z1 := hz.cell 1
                    have z2 := hz.cell 2
                    have z3' := hz.cell 3
                    have z4 := hz.cell 4
                    have z5 := hz.cell 5
                    have hbs := Nat.le_trans HS4.out hC.1.size
                    simp at z1 z2 z3' z4 z5
                    have h6 := O 6 (by kernel_rfl)
                    try have g6 := Array.getD_eq_getD_getElem?.symm.trans h6
                    go_simp
                    exact hK _ _ (hC.keep 3 (by decide) (by decide) HS4.out (Below.refl wa.heap.size wa)) (fun j d _ _ _ h => h) (fun _ => rfl)
                  · intro act wa L hC hd hLi hLa hLb HF O K hK
                    clear hd
                    have hz := hC.2.1
                    have zl := hz.lt
                    have z1 := hz.cell 1
                    have z2 := hz.cell 2
                    have z3' := hz.cell 3
                    have z4 := hz.cell 4
                    have z5 := hz.cell 5
                    have hbs := Nat.le_trans HS4.out hC.1.size
                    simp at z1 z2 z3' z4 z5
                    have h78 := HF 3 78 (hLa 1 3 (by kernel_rfl)) rfl
                    dsimp only [FL3] at h78
                    try have g78 := Array.getD_eq_getD_getElem?.symm.trans h78
                    go_simp
                    exact hK _ _ (hC.keep 4 (by decide) (by decide) HS4.out (Below.refl wa.heap.size wa)) (fun j d _ _ _ h => h) (fun _ => rfl)
                  · intro act wa L hC hd hLi hLa hLb HF O K hK
                    clear hd
                    have hz := hC.2.1
                    have zl := hz.lt
                    have z1 := hz.cell 1
                    have z2 := hz.cell 2
                    have z3' := hz.cell 3
                    have z4 := hz.cell 4
                    have z5 := hz.cell 5
                    have hbs := Nat.le_trans HS4.out hC.1.size
                    simp at z1 z2 z3' z4 z5
                    have h6 := O 6 (by kernel_rfl)
                    try have g6 := Array.getD_eq_getD_getElem?.symm.trans h6
                    go_simp
                    exact hK _ _ (hC.keep 5 (by decide) (by decide) HS4.out (Below.refl wa.heap.size wa)) (fun j d _ _ _ h => h) (fun _ => rfl)
                  · intro act wa L hC hd hLi hLa hLb HF O K hK
                    clear hd
                    have hz := hC.2.1
                    have zl := hz.lt
                    have z1 := hz.cell 1
                    have z2 := hz.cell 2
                    have z3' := hz.cell 3
                    have z4 := hz.cell 4
                    have z5 := hz.cell 5
                    have hbs := Nat.le_trans HS4.out hC.1.size
                    simp at z1 z2 z3' z4 z5
                    have h80 := HF 5 80 (hLa 1 5 (by kernel_rfl)) rfl
                    dsimp only [FL3] at h80
                    try have g80 := Array.getD_eq_getD_getElem?.symm.trans h80
                    go_simp
                    exact hK _ _ (hC.keep 6 (by decide) (by decide) HS4.out (Below.refl wa.heap.size wa)) (fun j d _ _ _ h => h) (fun _ => rfl)
                  · intro act wa L hC hd hLi hLa hLb HF O K hK
                    clear hd
                    have hz := hC.2.1
                    have zl := hz.lt
                    have z1 := hz.cell 1
                    have z2 := hz.cell 2
                    have z3' := hz.cell 3
                    have z4 := hz.cell 4
                    have z5 := hz.cell 5
                    have hbs := Nat.le_trans HS4.out hC.1.size
                    simp at z1 z2 z3' z4 z5
                    have h75 := HF 0 75 (hLa 1 0 (by kernel_rfl)) rfl
                    dsimp only [FL3] at h75
                    try have g75 := Array.getD_eq_getD_getElem?.symm.trans h75
                    have h77 := HF 2 77 (hLa 1 2 (by kernel_rfl)) rfl
                    dsimp only [FL3] at h77
                    try have g77 := Array.getD_eq_getD_getElem?.symm.trans h77
                    have h79 := HF 4 79 (hLa 1 4 (by kernel_rfl)) rfl
                    dsimp only [FL3] at h79
                    try have g79 := Array.getD_eq_getD_getElem?.symm.trans h79
                    have h81 := HF 6 81 (hLa 1 6 (by kernel_rfl)) rfl
                    dsimp only [FL3] at h81
                    try have g81 := Array.getD_eq_getD_getElem?.symm.trans h81
                    go_simp
                    refine (trnN i p m (hC.nd1 hLi) hbs HI.out HPP.out HMM.out HFC.out.1 (fun x hx => by have := (HFC.out.2.1 x hx).1; omega)).mono ?_
                    rintro e w1 hpp
                    obtain rfl := hpp.1
                    exact hK _ _ (hC.one hLi (by decide) hpp) (fun j d _ _ _ h => h) (fun _ => rfl)
                  · intro act wa L hC hd hLi hLa hLb HF O K hK
                    clear hd
                    have hz := hC.2.1
                    have zl := hz.lt
                    have z1 := hz.cell 1
                    have z2 := hz.cell 2
                    have z3' := hz.cell 3
                    have z4 := hz.cell 4
                    have z5 := hz.cell 5
                    have hbs := Nat.le_trans HS4.out hC.1.size
                    simp at z1 z2 z3' z4 z5
                    have h4 := O 4 (by kernel_rfl)
                    try have g4 := Array.getD_eq_getD_getElem?.symm.trans h4
                    go_simp
                    exact hK _ _ (hC.keep 8 (by decide) (by decide) HS4.out (Below.refl wa.heap.size wa)) (fun j d _ _ _ h => h) (fun _ => rfl)
                  · intro act wa L hC hd hLi hLa hLb HF O K hK
                    clear hd
                    have hz := hC.2.1
                    have zl := hz.lt
                    have z1 := hz.cell 1
                    have z2 := hz.cell 2
                    have z3' := hz.cell 3
                    have z4 := hz.cell 4
                    have z5 := hz.cell 5
                    have hbs := Nat.le_trans HS4.out hC.1.size
                    simp at z1 z2 z3' z4 z5
                    have h6 := O 6 (by kernel_rfl)
                    try have g6 := Array.getD_eq_getD_getElem?.symm.trans h6
                    go_simp
                    exact hK _ _ (hC.keep 9 (by decide) (by decide) HS4.out (Below.refl wa.heap.size wa)) (fun j d _ _ _ h => h) (fun _ => rfl)
                  · intro act wa L hC hd hLi hLa hLb HF O K hK
                    clear hd
                    have hz := hC.2.1
                    have zl := hz.lt
                    have z1 := hz.cell 1
                    have z2 := hz.cell 2
                    have z3' := hz.cell 3
                    have z4 := hz.cell 4
                    have z5 := hz.cell 5
                    have hbs := Nat.le_trans HS4.out hC.1.size
                    simp at z1 z2 z3' z4 z5
                    have h84 := HF 9 84 (hLa 1 9 (by kernel_rfl)) rfl
                    dsimp only [FL3] at h84
                    try have g84 := Array.getD_eq_getD_getElem?.symm.trans h84
                    go_simp
                    exact hK _ _ (hC.keep 10 (by decide) (by decide) HS4.out (Below.refl wa.heap.size wa)) (fun j d _ _ _ h => h) (fun _ => rfl)
                  · intro act wa L hC hd hLi hLa hLb HF O K hK
                    clear hd
                    have hz := hC.2.1
                    have zl := hz.lt
                    have z1 := hz.cell 1
                    have z2 := hz.cell 2
                    have z3' := hz.cell 3
                    have z4 := hz.cell 4
                    have z5 := hz.cell 5
                    have hbs := Nat.le_trans HS4.out hC.1.size
                    simp at z1 z2 z3' z4 z5
                    have h6 := O 6 (by kernel_rfl)
                    try have g6 := Array.getD_eq_getD_getElem?.symm.trans h6
                    go_simp
                    exact hK _ _ (hC.keep 11 (by decide) (by decide) HS4.out (Below.refl wa.heap.size wa)) (fun j d _ _ _ h => h) (fun _ => rfl)
                  · intro act wa L hC hd hLi hLa hLb HF O K hK
                    clear hd
                    have hz := hC.2.1
                    have zl := hz.lt
                    have z1 := hz.cell 1
                    have z2 := hz.cell 2
                    have z3' := hz.cell 3
                    have z4 := hz.cell 4
                    have z5 := hz.cell 5
                    have hbs := Nat.le_trans HS4.out hC.1.size
                    simp at z1 z2 z3' z4 z5
                    have h86 := HF 11 86 (hLa 1 11 (by kernel_rfl)) rfl
                    dsimp only [FL3] at h86
                    try have g86 := Array.getD_eq_getD_getElem?.symm.trans h86
                    go_simp
                    exact hK _ _ (hC.keep 12 (by decide) (by decide) HS4.out (Below.refl wa.heap.size wa)) (fun j d _ _ _ h => h) (fun _ => rfl)
                  · intro act wa L hC hd hLi hLa hLb HF O K hK
                    clear hd
                    have hz := hC.2.1
                    have zl := hz.lt
                    have z1 := hz.cell 1
                    have z2 := hz.cell 2
                    have z3' := hz.cell 3
                    have z4 := hz.cell 4
                    have z5 := hz.cell 5
                    have hbs := Nat.le_trans HS4.out hC.1.size
                    simp at z1 z2 z3' z4 z5
                    have h6 := O 6 (by kernel_rfl)
                    try have g6 := Array.getD_eq_getD_getElem?.symm.trans h6
                    go_simp
                    exact hK _ _ (hC.keep 13 (by decide) (by decide) HS4.out (Below.refl wa.heap.size wa)) (fun j d _ _ _ h => h) (fun _ => rfl)
                  · intro act wa L hC hd hLi hLa hLb HF O K hK
                    clear hd
                    have hz := hC.2.1
                    have zl := hz.lt
                    have z1 := hz.cell 1
                    have z2 := hz.cell 2
                    have z3' := hz.cell 3
                    have z4 := hz.cell 4
                    have z5 := hz.cell 5
                    have hbs := Nat.le_trans HS4.out hC.1.size
                    simp at z1 z2 z3' z4 z5
                    have h88 := HF 13 88 (hLa 1 13 (by kernel_rfl)) rfl
                    dsimp only [FL3] at h88
                    try have g88 := Array.getD_eq_getD_getElem?.symm.trans h88
                    go_simp
                    exact hK _ _ (hC.keep 14 (by decide) (by decide) HS4.out (Below.refl wa.heap.size wa)) (fun j d _ _ _ h => h) (fun _ => rfl)
                  · intro act wa L hC hd hLi hLa hLb HF O K hK
                    clear hd
                    have hz := hC.2.1
                    have zl := hz.lt
                    have z1 := hz.cell 1
                    have z2 := hz.cell 2
                    have z3' := hz.cell 3
                    have z4 := hz.cell 4
                    have z5 := hz.cell 5
                    have hbs := Nat.le_trans HS4.out hC.1.size
                    simp at z1 z2 z3' z4 z5
                    have h83 := HF 8 83 (hLa 1 8 (by kernel_rfl)) rfl
                    dsimp only [FL3] at h83
                    try have g83 := Array.getD_eq_getD_getElem?.symm.trans h83
                    have h85 := HF 10 85 (hLa 1 10 (by kernel_rfl)) rfl
                    dsimp only [FL3] at h85
                    try have g85 := Array.getD_eq_getD_getElem?.symm.trans h85
                    have h87 := HF 12 87 (hLa 1 12 (by kernel_rfl)) rfl
                    dsimp only [FL3] at h87
                    try have g87 := Array.getD_eq_getD_getElem?.symm.trans h87
                    have h89 := HF 14 89 (hLa 1 14 (by kernel_rfl)) rfl
                    dsimp only [FL3] at h89
                    try have g89 := Array.getD_eq_getD_getElem?.symm.trans h89
                    go_simp
                    refine (trnR i p m (hC.nd2 hLi) hbs HI.out HPP.out HMM.out HFC.out.1 (fun x hx => by have := (HFC.out.2.1 x hx).1; omega)).mono ?_
                    rintro e w1 hpp
                    obtain rfl := hpp.1
                    exact hK _ _ (hC.two hLi (by decide) hpp) (fun j d _ _ _ h => h) (fun _ => rfl)
                  · intro act wa L hC hd hLi hLa hLb HF O K hK
                    clear hd
                    have hz := hC.2.1
                    have zl := hz.lt
                    have z1 := hz.cell 1
                    have z2 := hz.cell 2
                    have z3' := hz.cell 3
                    have z4 := hz.cell 4
                    have z5 := hz.cell 5
                    have hbs := Nat.le_trans HS4.out hC.1.size
                    simp at z1 z2 z3' z4 z5
                    have h82 := HF 7 82 (hLa 1 7 (by kernel_rfl)) rfl
                    dsimp only [FL3] at h82
                    try have g82 := Array.getD_eq_getD_getElem?.symm.trans h82
                    go_simp
                    exact hK _ _ (hC.keep 16 (by decide) (by decide) HS4.out (Below.refl wa.heap.size wa)) (fun j d _ _ _ h => h) (fun _ => rfl)
                  · intro act wa L hC hd hLi hLa hLb HF O K hK
                    clear hd
                    have hz := hC.2.1
                    have zl := hz.lt
                    have z1 := hz.cell 1
                    have z2 := hz.cell 2
                    have z3' := hz.cell 3
                    have z4 := hz.cell 4
                    have z5 := hz.cell 5
                    have hbs := Nat.le_trans HS4.out hC.1.size
                    simp at z1 z2 z3' z4 z5
                    have h90 := HF 15 90 (hLa 1 15 (by kernel_rfl)) rfl
                    dsimp only [FL3] at h90
                    try have g90 := Array.getD_eq_getD_getElem?.symm.trans h90
                    go_simp
                    exact hK _ _ (hC.keep 17 (by decide) (by decide) HS4.out (Below.refl wa.heap.size wa)) (fun j d _ _ _ h => h) (fun _ => rfl)
                · intro us w' hC HF
                  obtain ⟨L7, hL7, u7⟩ := HF 16 7 rfl
                  dsimp only [FL3] at u7
                  obtain ⟨L8, hL8, u8⟩ := HF 17 8 rfl
                  dsimp only [FL3] at u8
                  clear HF
                  simp only [List.foldl]
                  go_simp
                  obtain ⟨LL, hLL, hCC⟩ := hC
                  have hnd := hCC.2.2
                  rw [if_pos (hLL 7 (by decide)), if_pos (hLL 15 (by decide))] at hnd
                  have N8 := Lib.hid hnd; have B8 := Lib.hid (B4.out.trans hCC.1)
                  clear hCC hLL hnd hL7 hL8
                  obtain ⟨bb, hbb⟩ : ∃ b, (Nm.trn row i p m).1 = b := ⟨_, rfl⟩
                  rw [hbb] at u7 u8
                  clear hbb
                  try rw [u7]
                  try rw [u8]
                  have F8 := Lib.hid (HF8.out)
                  obtain ⟨rw0, hrw0⟩ : ∃ x, (Nm.trn row i p m).2 = x := ⟨_, rfl⟩
                  have N9 := Lib.hid (show ND w' g r w.heap.size (fun _ => False) rw0 rw0 from by rw [← hrw0]; exact N8.out); have F9 := Lib.hid (show FacD rw0 from by rw [← hrw0]; exact F8.out)
                  have B9 := Lib.hid B8.out
                  obtain ⟨S9, vL9, vS9, a9, b9, -⟩ := id N9.out
                  obtain ⟨A9, c9, hv9, hLR9, -, -⟩ := b9.2.1.toL.letR (Nat.zero_le _)
                  obtain ⟨nr, hnr⟩ : ∃ q, rw0.length = q := ⟨_, rfl⟩
                  obtain ⟨ls, hls⟩ : ∃ q, rw0.map (·.1) = q := ⟨_, rfl⟩
                  have hlsl : ls.length = nr := by rw [← hls, List.length_map, hnr]
                  rw [hls] at hv9 hLR9
                  rw [hlsl] at hv9
                  subst hv9
                  have HA9 := Lib.hid a9; have HLR := Lib.hid hLR9; have HK9 := Lib.hid b9.1; have HNR := Lib.hid hnr; have HLS := Lib.hid hls; have HLSL := Lib.hid hlsl
                  have hl64 : nr ≤ 64 := by rw [← hnr]; exact F9.out.1
                  clear hrw0 a9 b9 hLR9 hnr hls hlsl
                  go_wp2
                  generalize hW : w' = w9 at N9 B9 HA9 HLR HK9 ⊢
                  clear hW
                  refine Inv.region_below (fun i v w' => match i with
                      | 0 => v = .bool bb
                      | 1 => v = .bool bb
                      | 2 => v = .bool false
                      | 3 => v = .bool false
                      | 4 => v = .pointer (some ⟨g, 0, none⟩)
                      | 5 => v = .int .i64 (nr : Int)
                      | 6 => v = .pointer (some ⟨r, 0, none⟩)
                      | 7 => v = .pointer (some ⟨r, 0, none⟩)
                      | 8 => v = .pointer (some ⟨r, 0, none⟩)
                      | 9 => v = .slice A9 nr c9
                      | 10 => v = .int .i64 (nr : Int)
                      | 11 => v = .bool false
                      | 12 => v = .bool false
                      | 13 => v = .bool false
                      | 14 => v = .pointer (some ⟨g, 0, none⟩)
                      | 15 => ∃ A c, v = .slice A nr c ∧ LetR w' w'.heap.size A ls
                      | 16 => ∃ A c, v = .slice A nr c ∧ LetR w' w'.heap.size A ls
                      | 17 => v = .pointer (some ⟨r, 0, none⟩)
                      | 18 => v = .pointer (some ⟨r, 0, none⟩)
                      | 19 => v = .pointer (some ⟨r, 0, none⟩)
                      | 20 => v = .slice A9 nr c9
                      | 21 => v = .bool true
                      | 22 => v = .bool false
                      | 23 => v = .bool false
                      | _ => True)
                    (fun w' => Below w9.heap.size w9 w' ∧ True) 116 [91, 92, 93, 94, 95, 96, 97, 98, 99, 100, 101, 102, 103, 104, 105, 106, 107, 108, 109, 110, 111, 112, 113, 114] (by kernel_rfl) rfl (by kernel_rfl) (by kernel_rfl) ?_ ?_ ?_ ?_
                  · intro v v' hC hb
                    obtain ⟨hB, -⟩ := hC
                    exact ⟨hB.trans (hb.mono hB.size), trivial⟩
                  · exact ⟨(Below.refl _ _).drew, trivial⟩
                  · refine ⟨⟨fun _ _ _ h _ => h, ?_⟩, ⟨fun _ _ _ h _ => h, ?_⟩, ⟨fun _ _ _ h _ => h, ?_⟩, ⟨fun _ _ _ h _ => h, ?_⟩, ⟨fun _ _ _ h _ => h, ?_⟩, ⟨fun _ _ _ h _ => h, ?_⟩, ⟨fun _ _ _ h _ => h, ?_⟩, ⟨fun _ _ _ h _ => h, ?_⟩, ⟨fun _ _ _ h _ => h, ?_⟩, ⟨fun _ _ _ h _ => h, ?_⟩, ⟨fun _ _ _ h _ => h, ?_⟩, ⟨fun _ _ _ h _ => h, ?_⟩, ⟨fun _ _ _ h _ => h, ?_⟩, ⟨fun _ _ _ h _ => h, ?_⟩, ⟨fun _ _ _ h _ => h, ?_⟩, ⟨fun v w w' ⟨A, c, h1, h2⟩ hb => ⟨A, c, h1, h2.step hb⟩, ?_⟩, ⟨fun v w w' ⟨A, c, h1, h2⟩ hb => ⟨A, c, h1, h2.step hb⟩, ?_⟩, ⟨fun _ _ _ h _ => h, ?_⟩, ⟨fun _ _ _ h _ => h, ?_⟩, ⟨fun _ _ _ h _ => h, ?_⟩, ⟨fun _ _ _ h _ => h, ?_⟩, ⟨fun _ _ _ h _ => h, ?_⟩, ⟨fun _ _ _ h _ => h, ?_⟩, ⟨fun _ _ _ h _ => h, ?_⟩, trivial⟩
                    · intro act wa hC hd H O K hK
                      clear hd
                      obtain ⟨hB, -⟩ := hC
                      have h7 := O 7 (by kernel_rfl)
                      have g7 := Array.getD_eq_getD_getElem?.symm.trans h7
                      clear H O
                      have kr := HK9.out.below hB HK9.out.lt
                      have krl := kr.lt
                      have kr0 := kr.cell 0
                      simp at kr0
                      go_simp
                      exact hK _ _ (Below.refl _ _) (fun _ => rfl)
                    · intro act wa hC hd H O K hK
                      clear hd
                      obtain ⟨hB, -⟩ := hC
                      have h8 := O 8 (by kernel_rfl)
                      have g8 := Array.getD_eq_getD_getElem?.symm.trans h8
                      clear H O
                      have kr := HK9.out.below hB HK9.out.lt
                      have krl := kr.lt
                      have kr0 := kr.cell 0
                      simp at kr0
                      go_simp
                      exact hK _ _ (Below.refl _ _) (fun _ => rfl)
                    · intro act wa hC hd H O K hK
                      clear hd
                      obtain ⟨hB, -⟩ := hC
                      have h91 : act.tmps.getD 91 undef = .bool bb := H 1 0 91 (by kernel_rfl) rfl
                      have g91 := Array.getD_eq_getD_getElem?.symm.trans h91
                      have h92 : act.tmps.getD 92 undef = .bool bb := H 1 1 92 (by kernel_rfl) rfl
                      have g92 := Array.getD_eq_getD_getElem?.symm.trans h92
                      clear H O
                      have kr := HK9.out.below hB HK9.out.lt
                      have krl := kr.lt
                      have kr0 := kr.cell 0
                      simp at kr0
                      go_simp
                      exact hK _ _ (Below.refl _ _) (fun _ => rfl)
                    · intro act wa hC hd H O K hK
                      clear hd
                      obtain ⟨hB, -⟩ := hC
                      have h93 : act.tmps.getD 93 undef = .bool false := H 1 2 93 (by kernel_rfl) rfl
                      have g93 := Array.getD_eq_getD_getElem?.symm.trans h93
                      clear H O
                      have kr := HK9.out.below hB HK9.out.lt
                      have krl := kr.lt
                      have kr0 := kr.cell 0
                      simp at kr0
                      go_simp
                      exact hK _ _ (Below.refl _ _) (fun _ => rfl)
                    · intro act wa hC hd H O K hK
                      clear hd
                      obtain ⟨hB, -⟩ := hC
                      have h3 := O 3 (by kernel_rfl)
                      have g3 := Array.getD_eq_getD_getElem?.symm.trans h3
                      have h94 : act.tmps.getD 94 undef = .bool false := H 1 3 94 (by kernel_rfl) rfl
                      have g94 := Array.getD_eq_getD_getElem?.symm.trans h94
                      have k94 := Inv.some_bool g94
                      clear H O
                      have kr := HK9.out.below hB HK9.out.lt
                      have krl := kr.lt
                      have kr0 := kr.cell 0
                      simp at kr0
                      go_simp
                      exact hK _ _ (Below.refl _ _) (fun _ => rfl)
                    · intro act wa hC hd H O K hK
                      clear hd
                      obtain ⟨hB, -⟩ := hC
                      have h95 : act.tmps.getD 95 undef = .pointer (some ⟨g, 0, none⟩) := H 1 4 95 (by kernel_rfl) rfl
                      have g95 := Array.getD_eq_getD_getElem?.symm.trans h95
                      have h94 : act.tmps.getD 94 undef = .bool false := H 1 3 94 (by kernel_rfl) rfl
                      have g94 := Array.getD_eq_getD_getElem?.symm.trans h94
                      have k94 := Inv.some_bool g94
                      clear H O
                      have kr := HK9.out.below hB HK9.out.lt
                      have krl := kr.lt
                      have kr0 := kr.cell 0
                      simp at kr0
                      go_simp
                      refine (NLen_any wa g S9 rw0 (HA9.out.below hB)).mono ?_
                      rintro e1 w1 ⟨rfl, rfl⟩
                      rw [HNR.out]
                      exact hK _ _ (Below.refl _ _) (fun _ => rfl)
                    · intro act wa hC hd H O K hK
                      clear hd
                      obtain ⟨hB, -⟩ := hC
                      have h4 := O 4 (by kernel_rfl)
                      have g4 := Array.getD_eq_getD_getElem?.symm.trans h4
                      have h94 : act.tmps.getD 94 undef = .bool false := H 1 3 94 (by kernel_rfl) rfl
                      have g94 := Array.getD_eq_getD_getElem?.symm.trans h94
                      have k94 := Inv.some_bool g94
                      clear H O
                      have kr := HK9.out.below hB HK9.out.lt
                      have krl := kr.lt
                      have kr0 := kr.cell 0
                      simp at kr0
                      go_simp
                      exact hK _ _ (Below.refl _ _) (fun _ => rfl)
                    · intro act wa hC hd H O K hK
                      clear hd
                      obtain ⟨hB, -⟩ := hC
                      have h97 : act.tmps.getD 97 undef = .pointer (some ⟨r, 0, none⟩) := H 1 6 97 (by kernel_rfl) rfl
                      have g97 := Array.getD_eq_getD_getElem?.symm.trans h97
                      have h94 : act.tmps.getD 94 undef = .bool false := H 1 3 94 (by kernel_rfl) rfl
                      have g94 := Array.getD_eq_getD_getElem?.symm.trans h94
                      have k94 := Inv.some_bool g94
                      clear H O
                      have kr := HK9.out.below hB HK9.out.lt
                      have krl := kr.lt
                      have kr0 := kr.cell 0
                      simp at kr0
                      go_simp
                      exact hK _ _ (Below.refl _ _) (fun _ => rfl)
                    · intro act wa hC hd H O K hK
                      clear hd
                      obtain ⟨hB, -⟩ := hC
                      have h98 : act.tmps.getD 98 undef = .pointer (some ⟨r, 0, none⟩) := H 1 7 98 (by kernel_rfl) rfl
                      have g98 := Array.getD_eq_getD_getElem?.symm.trans h98
                      have h94 : act.tmps.getD 94 undef = .bool false := H 1 3 94 (by kernel_rfl) rfl
                      have g94 := Array.getD_eq_getD_getElem?.symm.trans h94
                      have k94 := Inv.some_bool g94
                      clear H O
                      have kr := HK9.out.below hB HK9.out.lt
                      have krl := kr.lt
                      have kr0 := kr.cell 0
                      simp at kr0
                      go_simp
                      exact hK _ _ (Below.refl _ _) (fun _ => rfl)
                    · intro act wa hC hd H O K hK
                      clear hd
                      obtain ⟨hB, -⟩ := hC
                      have h99 : act.tmps.getD 99 undef = .pointer (some ⟨r, 0, none⟩) := H 1 8 99 (by kernel_rfl) rfl
                      have g99 := Array.getD_eq_getD_getElem?.symm.trans h99
                      have h94 : act.tmps.getD 94 undef = .bool false := H 1 3 94 (by kernel_rfl) rfl
                      have g94 := Array.getD_eq_getD_getElem?.symm.trans h94
                      have k94 := Inv.some_bool g94
                      clear H O
                      have kr := HK9.out.below hB HK9.out.lt
                      have krl := kr.lt
                      have kr0 := kr.cell 0
                      simp at kr0
                      go_simp
                      exact hK _ _ (Below.refl _ _) (fun _ => rfl)
                    · intro act wa hC hd H O K hK
                      clear hd
                      obtain ⟨hB, -⟩ := hC
                      have h100 : act.tmps.getD 100 undef = .slice A9 nr c9 := H 1 9 100 (by kernel_rfl) rfl
                      have g100 := Array.getD_eq_getD_getElem?.symm.trans h100
                      have h94 : act.tmps.getD 94 undef = .bool false := H 1 3 94 (by kernel_rfl) rfl
                      have g94 := Array.getD_eq_getD_getElem?.symm.trans h94
                      have k94 := Inv.some_bool g94
                      clear H O
                      have kr := HK9.out.below hB HK9.out.lt
                      have krl := kr.lt
                      have kr0 := kr.cell 0
                      simp at kr0
                      go_simp
                      exact hK _ _ (Below.refl _ _) (fun _ => rfl)
                    · intro act wa hC hd H O K hK
                      clear hd
                      obtain ⟨hB, -⟩ := hC
                      have h96 : act.tmps.getD 96 undef = .int .i64 (nr : Int) := H 1 5 96 (by kernel_rfl) rfl
                      have g96 := Array.getD_eq_getD_getElem?.symm.trans h96
                      have h101 : act.tmps.getD 101 undef = .int .i64 (nr : Int) := H 1 10 101 (by kernel_rfl) rfl
                      have g101 := Array.getD_eq_getD_getElem?.symm.trans h101
                      have h94 : act.tmps.getD 94 undef = .bool false := H 1 3 94 (by kernel_rfl) rfl
                      have g94 := Array.getD_eq_getD_getElem?.symm.trans h94
                      have k94 := Inv.some_bool g94
                      clear H O
                      have kr := HK9.out.below hB HK9.out.lt
                      have krl := kr.lt
                      have kr0 := kr.cell 0
                      simp at kr0
                      go_simp
                      exact hK _ _ (Below.refl _ _) (fun _ => rfl)
                    · intro act wa hC hd H O K hK
                      clear hd
                      obtain ⟨hB, -⟩ := hC
                      have h94 : act.tmps.getD 94 undef = .bool false := H 1 3 94 (by kernel_rfl) rfl
                      have g94 := Array.getD_eq_getD_getElem?.symm.trans h94
                      have h102 : act.tmps.getD 102 undef = .bool false := H 1 11 102 (by kernel_rfl) rfl
                      have g102 := Array.getD_eq_getD_getElem?.symm.trans h102
                      clear H O
                      have kr := HK9.out.below hB HK9.out.lt
                      have krl := kr.lt
                      have kr0 := kr.cell 0
                      simp at kr0
                      go_simp
                      exact hK _ _ (Below.refl _ _) (fun _ => rfl)
                    · intro act wa hC hd H O K hK
                      clear hd
                      obtain ⟨hB, -⟩ := hC
                      have h103 : act.tmps.getD 103 undef = .bool false := H 1 12 103 (by kernel_rfl) rfl
                      have g103 := Array.getD_eq_getD_getElem?.symm.trans h103
                      clear H O
                      have kr := HK9.out.below hB HK9.out.lt
                      have krl := kr.lt
                      have kr0 := kr.cell 0
                      simp at kr0
                      go_simp
                      exact hK _ _ (Below.refl _ _) (fun _ => rfl)
                    · intro act wa hC hd H O K hK
                      clear hd
                      obtain ⟨hB, -⟩ := hC
                      have h3 := O 3 (by kernel_rfl)
                      have g3 := Array.getD_eq_getD_getElem?.symm.trans h3
                      have h104 : act.tmps.getD 104 undef = .bool false := H 1 13 104 (by kernel_rfl) rfl
                      have g104 := Array.getD_eq_getD_getElem?.symm.trans h104
                      have k104 := Inv.some_bool g104
                      clear H O
                      have kr := HK9.out.below hB HK9.out.lt
                      have krl := kr.lt
                      have kr0 := kr.cell 0
                      simp at kr0
                      go_simp
                      exact hK _ _ (Below.refl _ _) (fun _ => rfl)
                    · intro act wa hC hd H O K hK
                      clear hd
                      obtain ⟨hB, -⟩ := hC
                      have h105 : act.tmps.getD 105 undef = .pointer (some ⟨g, 0, none⟩) := H 1 14 105 (by kernel_rfl) rfl
                      have g105 := Array.getD_eq_getD_getElem?.symm.trans h105
                      have h104 : act.tmps.getD 104 undef = .bool false := H 1 13 104 (by kernel_rfl) rfl
                      have g104 := Array.getD_eq_getD_getElem?.symm.trans h104
                      have k104 := Inv.some_bool g104
                      clear H O
                      have kr := HK9.out.below hB HK9.out.lt
                      have krl := kr.lt
                      have kr0 := kr.cell 0
                      simp at kr0
                      go_simp
                      refine (NAll_any wa g S9 rw0 (HA9.out.below hB) (by rw [HNR.out]; exact hl64) (fun x hx => by have := (F9.out.2.1 x hx).1; omega)).mono ?_
                      rintro e1 w1 ⟨v8, rfl, hl8, hb⟩
                      obtain ⟨A8, c8, rfl, hr8, -, -⟩ := hl8.toL.letR hb.size
                      rw [HLS.out, HLSL.out] at *
                      exact hK _ _ hb (fun _ => ⟨A8, c8, rfl, hr8⟩)
                    · intro act wa hC hd H O K hK
                      clear hd
                      obtain ⟨hB, -⟩ := hC
                      have h106 : ∃ A c, act.tmps.getD 106 undef = .slice A nr c ∧ LetR wa wa.heap.size A ls := H 1 15 106 (by kernel_rfl) rfl
                      obtain ⟨A106, c106, h106', l106⟩ := h106
                      have h104 : act.tmps.getD 104 undef = .bool false := H 1 13 104 (by kernel_rfl) rfl
                      have g104 := Array.getD_eq_getD_getElem?.symm.trans h104
                      have k104 := Inv.some_bool g104
                      clear H O
                      have kr := HK9.out.below hB HK9.out.lt
                      have krl := kr.lt
                      have kr0 := kr.cell 0
                      simp at kr0
                      go_simp
                      refine (Lown_any wa A106 nr c106 _ l106 HLSL.out (by omega)).mono ?_
                      rintro e1 w1 ⟨v8, rfl, hl8, hb⟩
                      obtain ⟨A8, c8, rfl, hr8, -, -⟩ := hl8.letR hb.size
                      rw [HLSL.out]
                      exact hK _ _ hb (fun _ => ⟨A8, c8, rfl, hr8⟩)
                    · intro act wa hC hd H O K hK
                      clear hd
                      obtain ⟨hB, -⟩ := hC
                      have h4 := O 4 (by kernel_rfl)
                      have g4 := Array.getD_eq_getD_getElem?.symm.trans h4
                      have h104 : act.tmps.getD 104 undef = .bool false := H 1 13 104 (by kernel_rfl) rfl
                      have g104 := Array.getD_eq_getD_getElem?.symm.trans h104
                      have k104 := Inv.some_bool g104
                      clear H O
                      have kr := HK9.out.below hB HK9.out.lt
                      have krl := kr.lt
                      have kr0 := kr.cell 0
                      simp at kr0
                      go_simp
                      exact hK _ _ (Below.refl _ _) (fun _ => rfl)
                    · intro act wa hC hd H O K hK
                      clear hd
                      obtain ⟨hB, -⟩ := hC
                      have h108 : act.tmps.getD 108 undef = .pointer (some ⟨r, 0, none⟩) := H 1 17 108 (by kernel_rfl) rfl
                      have g108 := Array.getD_eq_getD_getElem?.symm.trans h108
                      have h104 : act.tmps.getD 104 undef = .bool false := H 1 13 104 (by kernel_rfl) rfl
                      have g104 := Array.getD_eq_getD_getElem?.symm.trans h104
                      have k104 := Inv.some_bool g104
                      clear H O
                      have kr := HK9.out.below hB HK9.out.lt
                      have krl := kr.lt
                      have kr0 := kr.cell 0
                      simp at kr0
                      go_simp
                      exact hK _ _ (Below.refl _ _) (fun _ => rfl)
                    · intro act wa hC hd H O K hK
                      clear hd
                      obtain ⟨hB, -⟩ := hC
                      have h109 : act.tmps.getD 109 undef = .pointer (some ⟨r, 0, none⟩) := H 1 18 109 (by kernel_rfl) rfl
                      have g109 := Array.getD_eq_getD_getElem?.symm.trans h109
                      have h104 : act.tmps.getD 104 undef = .bool false := H 1 13 104 (by kernel_rfl) rfl
                      have g104 := Array.getD_eq_getD_getElem?.symm.trans h104
                      have k104 := Inv.some_bool g104
                      clear H O
                      have kr := HK9.out.below hB HK9.out.lt
                      have krl := kr.lt
                      have kr0 := kr.cell 0
                      simp at kr0
                      go_simp
                      exact hK _ _ (Below.refl _ _) (fun _ => rfl)
                    · intro act wa hC hd H O K hK
                      clear hd
                      obtain ⟨hB, -⟩ := hC
                      have h110 : act.tmps.getD 110 undef = .pointer (some ⟨r, 0, none⟩) := H 1 19 110 (by kernel_rfl) rfl
                      have g110 := Array.getD_eq_getD_getElem?.symm.trans h110
                      have h104 : act.tmps.getD 104 undef = .bool false := H 1 13 104 (by kernel_rfl) rfl
                      have g104 := Array.getD_eq_getD_getElem?.symm.trans h104
                      have k104 := Inv.some_bool g104
                      clear H O
                      have kr := HK9.out.below hB HK9.out.lt
                      have krl := kr.lt
                      have kr0 := kr.cell 0
                      simp at kr0
                      go_simp
                      exact hK _ _ (Below.refl _ _) (fun _ => rfl)
                    · intro act wa hC hd H O K hK
                      clear hd
                      obtain ⟨hB, -⟩ := hC
                      have h107 : ∃ A c, act.tmps.getD 107 undef = .slice A nr c ∧ LetR wa wa.heap.size A ls := H 1 16 107 (by kernel_rfl) rfl
                      obtain ⟨A107, c107, h107', l107⟩ := h107
                      have h111 : act.tmps.getD 111 undef = .slice A9 nr c9 := H 1 20 111 (by kernel_rfl) rfl
                      have g111 := Array.getD_eq_getD_getElem?.symm.trans h111
                      have h104 : act.tmps.getD 104 undef = .bool false := H 1 13 104 (by kernel_rfl) rfl
                      have g104 := Array.getD_eq_getD_getElem?.symm.trans h104
                      have k104 := Inv.some_bool g104
                      clear H O
                      have kr := HK9.out.below hB HK9.out.lt
                      have krl := kr.lt
                      have kr0 := kr.cell 0
                      simp at kr0
                      go_simp
                      refine (LSame_any wa A107 A9 nr nr c107 c9 _ _ l107 (HLR.out.step hB) HLSL.out HLSL.out (by omega) (by omega)).mono ?_
                      rintro e1 w1 ⟨rfl, hb⟩
                      rw [decide_eq_true rfl]
                      exact hK _ _ hb (fun _ => rfl)
                    · intro act wa hC hd H O K hK
                      clear hd
                      obtain ⟨hB, -⟩ := hC
                      have h112 : act.tmps.getD 112 undef = .bool true := H 1 21 112 (by kernel_rfl) rfl
                      have g112 := Array.getD_eq_getD_getElem?.symm.trans h112
                      have h104 : act.tmps.getD 104 undef = .bool false := H 1 13 104 (by kernel_rfl) rfl
                      have g104 := Array.getD_eq_getD_getElem?.symm.trans h104
                      have k104 := Inv.some_bool g104
                      clear H O
                      have kr := HK9.out.below hB HK9.out.lt
                      have krl := kr.lt
                      have kr0 := kr.cell 0
                      simp at kr0
                      go_simp
                      exact hK _ _ (Below.refl _ _) (fun _ => rfl)
                    · intro act wa hC hd H O K hK
                      clear hd
                      obtain ⟨hB, -⟩ := hC
                      have h104 : act.tmps.getD 104 undef = .bool false := H 1 13 104 (by kernel_rfl) rfl
                      have g104 := Array.getD_eq_getD_getElem?.symm.trans h104
                      have h113 : act.tmps.getD 113 undef = .bool false := H 1 22 113 (by kernel_rfl) rfl
                      have g113 := Array.getD_eq_getD_getElem?.symm.trans h113
                      clear H O
                      have kr := HK9.out.below hB HK9.out.lt
                      have krl := kr.lt
                      have kr0 := kr.cell 0
                      simp at kr0
                      go_simp
                      exact hK _ _ (Below.refl _ _) (fun _ => rfl)
                  · intro us w' hC hF
                    obtain ⟨hB, -⟩ := hC
                    have u114 : us 114 = .bool false := hF 23 114 rfl
                    clear hF
                    simp only [List.foldl]
                    go_simp
                    have e114 : us 114 = .bool false := u114
                    have N11 := Lib.hid (N9.out.below hB); have B11 := Lib.hid (B9.out.trans (hB.mono B9.out.size))
                    have R := Lib.hid (show TRD w g r len (.int .i64 ((k : Int) + 1)) w' from ⟨k + 1, rw0, by go_num, HLT.out, N11.out, F9.out, B11.out⟩)
                    clear hB u114
                    try rw [e114]
                    go_wp2
                    go_roundw
                    case rel => exact R.out
                    case measure => simp [intOf]; have := HLT.out; omega
              · have n31 : (d == 3) = false := by simp [hq3]
                have n32 : decide (d = 3) = false := by simp [hq3]
                have hb : Below wr.heap.size wr (wr.alloc (.cells #[.int .i64 d, .int .i64 i, .int .i64 p, .int .u32 (m : Int), .int .i64 to, .slice Ab nb cb] 100)) := (Below.refl _ wr).alloc (Nat.le_refl _) _
                have N4 := Lib.hid (N0.out.below hb); have B4 := Lib.hid (HB.out.trans (hb.mono HB.out.size))
                clear hb
                obtain ⟨rw0, hrw0⟩ : ∃ x, row = x := ⟨_, rfl⟩
                have N9 := Lib.hid (show ND (wr.alloc (.cells #[.int .i64 d, .int .i64 i, .int .i64 p, .int .u32 (m : Int), .int .i64 to, .slice Ab nb cb] 100)) g r w.heap.size (fun _ => False) rw0 rw0 from by rw [← hrw0]; exact N4.out); have F9 := Lib.hid (show FacD rw0 from by rw [← hrw0]; exact HFC.out)
                have B9 := Lib.hid B4.out
                obtain ⟨S9, vL9, vS9, a9, b9, -⟩ := id N9.out
                obtain ⟨A9, c9, hv9, hLR9, -, -⟩ := b9.2.1.toL.letR (Nat.zero_le _)
                obtain ⟨nr, hnr⟩ : ∃ q, rw0.length = q := ⟨_, rfl⟩
                obtain ⟨ls, hls⟩ : ∃ q, rw0.map (·.1) = q := ⟨_, rfl⟩
                have hlsl : ls.length = nr := by rw [← hls, List.length_map, hnr]
                rw [hls] at hv9 hLR9
                rw [hlsl] at hv9
                subst hv9
                have HA9 := Lib.hid a9; have HLR := Lib.hid hLR9; have HK9 := Lib.hid b9.1; have HNR := Lib.hid hnr; have HLS := Lib.hid hls; have HLSL := Lib.hid hlsl
                have hl64 : nr ≤ 64 := by rw [← hnr]; exact F9.out.1
                clear hrw0 a9 b9 hLR9 hnr hls hlsl
                go_wp2
                generalize hW : (wr.alloc (.cells #[.int .i64 d, .int .i64 i, .int .i64 p, .int .u32 (m : Int), .int .i64 to, .slice Ab nb cb] 100)) = w9 at N9 B9 HA9 HLR HK9 ⊢
                clear hW
                refine Inv.region_below (fun i v w' => match i with
                    | 0 => v = .bool true
                    | 1 => v = .bool true
                    | 2 => v = .bool false
                    | 3 => v = .bool false
                    | 4 => v = .pointer (some ⟨g, 0, none⟩)
                    | 5 => v = .int .i64 (nr : Int)
                    | 6 => v = .pointer (some ⟨r, 0, none⟩)
                    | 7 => v = .pointer (some ⟨r, 0, none⟩)
                    | 8 => v = .pointer (some ⟨r, 0, none⟩)
                    | 9 => v = .slice A9 nr c9
                    | 10 => v = .int .i64 (nr : Int)
                    | 11 => v = .bool false
                    | 12 => v = .bool false
                    | 13 => v = .bool false
                    | 14 => v = .pointer (some ⟨g, 0, none⟩)
                    | 15 => ∃ A c, v = .slice A nr c ∧ LetR w' w'.heap.size A ls
                    | 16 => ∃ A c, v = .slice A nr c ∧ LetR w' w'.heap.size A ls
                    | 17 => v = .pointer (some ⟨r, 0, none⟩)
                    | 18 => v = .pointer (some ⟨r, 0, none⟩)
                    | 19 => v = .pointer (some ⟨r, 0, none⟩)
                    | 20 => v = .slice A9 nr c9
                    | 21 => v = .bool true
                    | 22 => v = .bool false
                    | 23 => v = .bool false
                    | _ => True)
                  (fun w' => Below w9.heap.size w9 w' ∧ True) 116 [91, 92, 93, 94, 95, 96, 97, 98, 99, 100, 101, 102, 103, 104, 105, 106, 107, 108, 109, 110, 111, 112, 113, 114] (by kernel_rfl) rfl (by kernel_rfl) (by kernel_rfl) ?_ ?_ ?_ ?_
                · intro v v' hC hb
                  obtain ⟨hB, -⟩ := hC
                  exact ⟨hB.trans (hb.mono hB.size), trivial⟩
                · exact ⟨(Below.refl _ _).drew, trivial⟩
                · refine ⟨⟨fun _ _ _ h _ => h, ?_⟩, ⟨fun _ _ _ h _ => h, ?_⟩, ⟨fun _ _ _ h _ => h, ?_⟩, ⟨fun _ _ _ h _ => h, ?_⟩, ⟨fun _ _ _ h _ => h, ?_⟩, ⟨fun _ _ _ h _ => h, ?_⟩, ⟨fun _ _ _ h _ => h, ?_⟩, ⟨fun _ _ _ h _ => h, ?_⟩, ⟨fun _ _ _ h _ => h, ?_⟩, ⟨fun _ _ _ h _ => h, ?_⟩, ⟨fun _ _ _ h _ => h, ?_⟩, ⟨fun _ _ _ h _ => h, ?_⟩, ⟨fun _ _ _ h _ => h, ?_⟩, ⟨fun _ _ _ h _ => h, ?_⟩, ⟨fun _ _ _ h _ => h, ?_⟩, ⟨fun v w w' ⟨A, c, h1, h2⟩ hb => ⟨A, c, h1, h2.step hb⟩, ?_⟩, ⟨fun v w w' ⟨A, c, h1, h2⟩ hb => ⟨A, c, h1, h2.step hb⟩, ?_⟩, ⟨fun _ _ _ h _ => h, ?_⟩, ⟨fun _ _ _ h _ => h, ?_⟩, ⟨fun _ _ _ h _ => h, ?_⟩, ⟨fun _ _ _ h _ => h, ?_⟩, ⟨fun _ _ _ h _ => h, ?_⟩, ⟨fun _ _ _ h _ => h, ?_⟩, ⟨fun _ _ _ h _ => h, ?_⟩, trivial⟩
                  · intro act wa hC hd H O K hK
                    clear hd
                    obtain ⟨hB, -⟩ := hC
                    have h7 := O 7 (by kernel_rfl)
                    have g7 := Array.getD_eq_getD_getElem?.symm.trans h7
                    clear H O
                    have kr := HK9.out.below hB HK9.out.lt
                    have krl := kr.lt
                    have kr0 := kr.cell 0
                    simp at kr0
                    go_simp
                    exact hK _ _ (Below.refl _ _) (fun _ => rfl)
                  · intro act wa hC hd H O K hK
                    clear hd
                    obtain ⟨hB, -⟩ := hC
                    have h8 := O 8 (by kernel_rfl)
                    have g8 := Array.getD_eq_getD_getElem?.symm.trans h8
                    clear H O
                    have kr := HK9.out.below hB HK9.out.lt
                    have krl := kr.lt
                    have kr0 := kr.cell 0
                    simp at kr0
                    go_simp
                    exact hK _ _ (Below.refl _ _) (fun _ => rfl)
                  · intro act wa hC hd H O K hK
                    clear hd
                    obtain ⟨hB, -⟩ := hC
                    have h91 : act.tmps.getD 91 undef = .bool true := H 1 0 91 (by kernel_rfl) rfl
                    have g91 := Array.getD_eq_getD_getElem?.symm.trans h91
                    have h92 : act.tmps.getD 92 undef = .bool true := H 1 1 92 (by kernel_rfl) rfl
                    have g92 := Array.getD_eq_getD_getElem?.symm.trans h92
                    clear H O
                    have kr := HK9.out.below hB HK9.out.lt
                    have krl := kr.lt
                    have kr0 := kr.cell 0
                    simp at kr0
                    go_simp
                    exact hK _ _ (Below.refl _ _) (fun _ => rfl)
                  · intro act wa hC hd H O K hK
                    clear hd
                    obtain ⟨hB, -⟩ := hC
                    have h93 : act.tmps.getD 93 undef = .bool false := H 1 2 93 (by kernel_rfl) rfl
                    have g93 := Array.getD_eq_getD_getElem?.symm.trans h93
                    clear H O
                    have kr := HK9.out.below hB HK9.out.lt
                    have krl := kr.lt
                    have kr0 := kr.cell 0
                    simp at kr0
                    go_simp
                    exact hK _ _ (Below.refl _ _) (fun _ => rfl)
                  · intro act wa hC hd H O K hK
                    clear hd
                    obtain ⟨hB, -⟩ := hC
                    have h3 := O 3 (by kernel_rfl)
                    have g3 := Array.getD_eq_getD_getElem?.symm.trans h3
                    have h94 : act.tmps.getD 94 undef = .bool false := H 1 3 94 (by kernel_rfl) rfl
                    have g94 := Array.getD_eq_getD_getElem?.symm.trans h94
                    have k94 := Inv.some_bool g94
                    clear H O
                    have kr := HK9.out.below hB HK9.out.lt
                    have krl := kr.lt
                    have kr0 := kr.cell 0
                    simp at kr0
                    go_simp
                    exact hK _ _ (Below.refl _ _) (fun _ => rfl)
                  · intro act wa hC hd H O K hK
                    clear hd
                    obtain ⟨hB, -⟩ := hC
                    have h95 : act.tmps.getD 95 undef = .pointer (some ⟨g, 0, none⟩) := H 1 4 95 (by kernel_rfl) rfl
                    have g95 := Array.getD_eq_getD_getElem?.symm.trans h95
                    have h94 : act.tmps.getD 94 undef = .bool false := H 1 3 94 (by kernel_rfl) rfl
                    have g94 := Array.getD_eq_getD_getElem?.symm.trans h94
                    have k94 := Inv.some_bool g94
                    clear H O
                    have kr := HK9.out.below hB HK9.out.lt
                    have krl := kr.lt
                    have kr0 := kr.cell 0
                    simp at kr0
                    go_simp
                    refine (NLen_any wa g S9 rw0 (HA9.out.below hB)).mono ?_
                    rintro e1 w1 ⟨rfl, rfl⟩
                    rw [HNR.out]
                    exact hK _ _ (Below.refl _ _) (fun _ => rfl)
                  · intro act wa hC hd H O K hK
                    clear hd
                    obtain ⟨hB, -⟩ := hC
                    have h4 := O 4 (by kernel_rfl)
                    have g4 := Array.getD_eq_getD_getElem?.symm.trans h4
                    have h94 : act.tmps.getD 94 undef = .bool false := H 1 3 94 (by kernel_rfl) rfl
                    have g94 := Array.getD_eq_getD_getElem?.symm.trans h94
                    have k94 := Inv.some_bool g94
                    clear H O
                    have kr := HK9.out.below hB HK9.out.lt
                    have krl := kr.lt
                    have kr0 := kr.cell 0
                    simp at kr0
                    go_simp
                    exact hK _ _ (Below.refl _ _) (fun _ => rfl)
                  · intro act wa hC hd H O K hK
                    clear hd
                    obtain ⟨hB, -⟩ := hC
                    have h97 : act.tmps.getD 97 undef = .pointer (some ⟨r, 0, none⟩) := H 1 6 97 (by kernel_rfl) rfl
                    have g97 := Array.getD_eq_getD_getElem?.symm.trans h97
                    have h94 : act.tmps.getD 94 undef = .bool false := H 1 3 94 (by kernel_rfl) rfl
                    have g94 := Array.getD_eq_getD_getElem?.symm.trans h94
                    have k94 := Inv.some_bool g94
                    clear H O
                    have kr := HK9.out.below hB HK9.out.lt
                    have krl := kr.lt
                    have kr0 := kr.cell 0
                    simp at kr0
                    go_simp
                    exact hK _ _ (Below.refl _ _) (fun _ => rfl)
                  · intro act wa hC hd H O K hK
                    clear hd
                    obtain ⟨hB, -⟩ := hC
                    have h98 : act.tmps.getD 98 undef = .pointer (some ⟨r, 0, none⟩) := H 1 7 98 (by kernel_rfl) rfl
                    have g98 := Array.getD_eq_getD_getElem?.symm.trans h98
                    have h94 : act.tmps.getD 94 undef = .bool false := H 1 3 94 (by kernel_rfl) rfl
                    have g94 := Array.getD_eq_getD_getElem?.symm.trans h94
                    have k94 := Inv.some_bool g94
                    clear H O
                    have kr := HK9.out.below hB HK9.out.lt
                    have krl := kr.lt
                    have kr0 := kr.cell 0
                    simp at kr0
                    go_simp
                    exact hK _ _ (Below.refl _ _) (fun _ => rfl)
                  · intro act wa hC hd H O K hK
                    clear hd
                    obtain ⟨hB, -⟩ := hC
                    have h99 : act.tmps.getD 99 undef = .pointer (some ⟨r, 0, none⟩) := H 1 8 99 (by kernel_rfl) rfl
                    have g99 := Array.getD_eq_getD_getElem?.symm.trans h99
                    have h94 : act.tmps.getD 94 undef = .bool false := H 1 3 94 (by kernel_rfl) rfl
                    have g94 := Array.getD_eq_getD_getElem?.symm.trans h94
                    have k94 := Inv.some_bool g94
                    clear H O
                    have kr := HK9.out.below hB HK9.out.lt
                    have krl := kr.lt
                    have kr0 := kr.cell 0
                    simp at kr0
                    go_simp
                    exact hK _ _ (Below.refl _ _) (fun _ => rfl)
                  · intro act wa hC hd H O K hK
                    clear hd
                    obtain ⟨hB, -⟩ := hC
                    have h100 : act.tmps.getD 100 undef = .slice A9 nr c9 := H 1 9 100 (by kernel_rfl) rfl
                    have g100 := Array.getD_eq_getD_getElem?.symm.trans h100
                    have h94 : act.tmps.getD 94 undef = .bool false := H 1 3 94 (by kernel_rfl) rfl
                    have g94 := Array.getD_eq_getD_getElem?.symm.trans h94
                    have k94 := Inv.some_bool g94
                    clear H O
                    have kr := HK9.out.below hB HK9.out.lt
                    have krl := kr.lt
                    have kr0 := kr.cell 0
                    simp at kr0
                    go_simp
                    exact hK _ _ (Below.refl _ _) (fun _ => rfl)
                  · intro act wa hC hd H O K hK
                    clear hd
                    obtain ⟨hB, -⟩ := hC
                    have h96 : act.tmps.getD 96 undef = .int .i64 (nr : Int) := H 1 5 96 (by kernel_rfl) rfl
                    have g96 := Array.getD_eq_getD_getElem?.symm.trans h96
                    have h101 : act.tmps.getD 101 undef = .int .i64 (nr : Int) := H 1 10 101 (by kernel_rfl) rfl
                    have g101 := Array.getD_eq_getD_getElem?.symm.trans h101
                    have h94 : act.tmps.getD 94 undef = .bool false := H 1 3 94 (by kernel_rfl) rfl
                    have g94 := Array.getD_eq_getD_getElem?.symm.trans h94
                    have k94 := Inv.some_bool g94
                    clear H O
                    have kr := HK9.out.below hB HK9.out.lt
                    have krl := kr.lt
                    have kr0 := kr.cell 0
                    simp at kr0
                    go_simp
                    exact hK _ _ (Below.refl _ _) (fun _ => rfl)
                  · intro act wa hC hd H O K hK
                    clear hd
                    obtain ⟨hB, -⟩ := hC
                    have h94 : act.tmps.getD 94 undef = .bool false := H 1 3 94 (by kernel_rfl) rfl
                    have g94 := Array.getD_eq_getD_getElem?.symm.trans h94
                    have h102 : act.tmps.getD 102 undef = .bool false := H 1 11 102 (by kernel_rfl) rfl
                    have g102 := Array.getD_eq_getD_getElem?.symm.trans h102
                    clear H O
                    have kr := HK9.out.below hB HK9.out.lt
                    have krl := kr.lt
                    have kr0 := kr.cell 0
                    simp at kr0
                    go_simp
                    exact hK _ _ (Below.refl _ _) (fun _ => rfl)
                  · intro act wa hC hd H O K hK
                    clear hd
                    obtain ⟨hB, -⟩ := hC
                    have h103 : act.tmps.getD 103 undef = .bool false := H 1 12 103 (by kernel_rfl) rfl
                    have g103 := Array.getD_eq_getD_getElem?.symm.trans h103
                    clear H O
                    have kr := HK9.out.below hB HK9.out.lt
                    have krl := kr.lt
                    have kr0 := kr.cell 0
                    simp at kr0
                    go_simp
                    exact hK _ _ (Below.refl _ _) (fun _ => rfl)
                  · intro act wa hC hd H O K hK
                    clear hd
                    obtain ⟨hB, -⟩ := hC
                    have h3 := O 3 (by kernel_rfl)
                    have g3 := Array.getD_eq_getD_getElem?.symm.trans h3
                    have h104 : act.tmps.getD 104 undef = .bool false := H 1 13 104 (by kernel_rfl) rfl
                    have g104 := Array.getD_eq_getD_getElem?.symm.trans h104
                    have k104 := Inv.some_bool g104
                    clear H O
                    have kr := HK9.out.below hB HK9.out.lt
                    have krl := kr.lt
                    have kr0 := kr.cell 0
                    simp at kr0
                    go_simp
                    exact hK _ _ (Below.refl _ _) (fun _ => rfl)
                  · intro act wa hC hd H O K hK
                    clear hd
                    obtain ⟨hB, -⟩ := hC
                    have h105 : act.tmps.getD 105 undef = .pointer (some ⟨g, 0, none⟩) := H 1 14 105 (by kernel_rfl) rfl
                    have g105 := Array.getD_eq_getD_getElem?.symm.trans h105
                    have h104 : act.tmps.getD 104 undef = .bool false := H 1 13 104 (by kernel_rfl) rfl
                    have g104 := Array.getD_eq_getD_getElem?.symm.trans h104
                    have k104 := Inv.some_bool g104
                    clear H O
                    have kr := HK9.out.below hB HK9.out.lt
                    have krl := kr.lt
                    have kr0 := kr.cell 0
                    simp at kr0
                    go_simp
                    refine (NAll_any wa g S9 rw0 (HA9.out.below hB) (by rw [HNR.out]; exact hl64) (fun x hx => by have := (F9.out.2.1 x hx).1; omega)).mono ?_
                    rintro e1 w1 ⟨v8, rfl, hl8, hb⟩
                    obtain ⟨A8, c8, rfl, hr8, -, -⟩ := hl8.toL.letR hb.size
                    rw [HLS.out, HLSL.out] at *
                    exact hK _ _ hb (fun _ => ⟨A8, c8, rfl, hr8⟩)
                  · intro act wa hC hd H O K hK
                    clear hd
                    obtain ⟨hB, -⟩ := hC
                    have h106 : ∃ A c, act.tmps.getD 106 undef = .slice A nr c ∧ LetR wa wa.heap.size A ls := H 1 15 106 (by kernel_rfl) rfl
                    obtain ⟨A106, c106, h106', l106⟩ := h106
                    have h104 : act.tmps.getD 104 undef = .bool false := H 1 13 104 (by kernel_rfl) rfl
                    have g104 := Array.getD_eq_getD_getElem?.symm.trans h104
                    have k104 := Inv.some_bool g104
                    clear H O
                    have kr := HK9.out.below hB HK9.out.lt
                    have krl := kr.lt
                    have kr0 := kr.cell 0
                    simp at kr0
                    go_simp
                    refine (Lown_any wa A106 nr c106 _ l106 HLSL.out (by omega)).mono ?_
                    rintro e1 w1 ⟨v8, rfl, hl8, hb⟩
                    obtain ⟨A8, c8, rfl, hr8, -, -⟩ := hl8.letR hb.size
                    rw [HLSL.out]
                    exact hK _ _ hb (fun _ => ⟨A8, c8, rfl, hr8⟩)
                  · intro act wa hC hd H O K hK
                    clear hd
                    obtain ⟨hB, -⟩ := hC
                    have h4 := O 4 (by kernel_rfl)
                    have g4 := Array.getD_eq_getD_getElem?.symm.trans h4
                    have h104 : act.tmps.getD 104 undef = .bool false := H 1 13 104 (by kernel_rfl) rfl
                    have g104 := Array.getD_eq_getD_getElem?.symm.trans h104
                    have k104 := Inv.some_bool g104
                    clear H O
                    have kr := HK9.out.below hB HK9.out.lt
                    have krl := kr.lt
                    have kr0 := kr.cell 0
                    simp at kr0
                    go_simp
                    exact hK _ _ (Below.refl _ _) (fun _ => rfl)
                  · intro act wa hC hd H O K hK
                    clear hd
                    obtain ⟨hB, -⟩ := hC
                    have h108 : act.tmps.getD 108 undef = .pointer (some ⟨r, 0, none⟩) := H 1 17 108 (by kernel_rfl) rfl
                    have g108 := Array.getD_eq_getD_getElem?.symm.trans h108
                    have h104 : act.tmps.getD 104 undef = .bool false := H 1 13 104 (by kernel_rfl) rfl
                    have g104 := Array.getD_eq_getD_getElem?.symm.trans h104
                    have k104 := Inv.some_bool g104
                    clear H O
                    have kr := HK9.out.below hB HK9.out.lt
                    have krl := kr.lt
                    have kr0 := kr.cell 0
                    simp at kr0
                    go_simp
                    exact hK _ _ (Below.refl _ _) (fun _ => rfl)
                  · intro act wa hC hd H O K hK
                    clear hd
                    obtain ⟨hB, -⟩ := hC
                    have h109 : act.tmps.getD 109 undef = .pointer (some ⟨r, 0, none⟩) := H 1 18 109 (by kernel_rfl) rfl
                    have g109 := Array.getD_eq_getD_getElem?.symm.trans h109
                    have h104 : act.tmps.getD 104 undef = .bool false := H 1 13 104 (by kernel_rfl) rfl
                    have g104 := Array.getD_eq_getD_getElem?.symm.trans h104
                    have k104 := Inv.some_bool g104
                    clear H O
                    have kr := HK9.out.below hB HK9.out.lt
                    have krl := kr.lt
                    have kr0 := kr.cell 0
                    simp at kr0
                    go_simp
                    exact hK _ _ (Below.refl _ _) (fun _ => rfl)
                  · intro act wa hC hd H O K hK
                    clear hd
                    obtain ⟨hB, -⟩ := hC
                    have h110 : act.tmps.getD 110 undef = .pointer (some ⟨r, 0, none⟩) := H 1 19 110 (by kernel_rfl) rfl
                    have g110 := Array.getD_eq_getD_getElem?.symm.trans h110
                    have h104 : act.tmps.getD 104 undef = .bool false := H 1 13 104 (by kernel_rfl) rfl
                    have g104 := Array.getD_eq_getD_getElem?.symm.trans h104
                    have k104 := Inv.some_bool g104
                    clear H O
                    have kr := HK9.out.below hB HK9.out.lt
                    have krl := kr.lt
                    have kr0 := kr.cell 0
                    simp at kr0
                    go_simp
                    exact hK _ _ (Below.refl _ _) (fun _ => rfl)
                  · intro act wa hC hd H O K hK
                    clear hd
                    obtain ⟨hB, -⟩ := hC
                    have h107 : ∃ A c, act.tmps.getD 107 undef = .slice A nr c ∧ LetR wa wa.heap.size A ls := H 1 16 107 (by kernel_rfl) rfl
                    obtain ⟨A107, c107, h107', l107⟩ := h107
                    have h111 : act.tmps.getD 111 undef = .slice A9 nr c9 := H 1 20 111 (by kernel_rfl) rfl
                    have g111 := Array.getD_eq_getD_getElem?.symm.trans h111
                    have h104 : act.tmps.getD 104 undef = .bool false := H 1 13 104 (by kernel_rfl) rfl
                    have g104 := Array.getD_eq_getD_getElem?.symm.trans h104
                    have k104 := Inv.some_bool g104
                    clear H O
                    have kr := HK9.out.below hB HK9.out.lt
                    have krl := kr.lt
                    have kr0 := kr.cell 0
                    simp at kr0
                    go_simp
                    refine (LSame_any wa A107 A9 nr nr c107 c9 _ _ l107 (HLR.out.step hB) HLSL.out HLSL.out (by omega) (by omega)).mono ?_
                    rintro e1 w1 ⟨rfl, hb⟩
                    rw [decide_eq_true rfl]
                    exact hK _ _ hb (fun _ => rfl)
                  · intro act wa hC hd H O K hK
                    clear hd
                    obtain ⟨hB, -⟩ := hC
                    have h112 : act.tmps.getD 112 undef = .bool true := H 1 21 112 (by kernel_rfl) rfl
                    have g112 := Array.getD_eq_getD_getElem?.symm.trans h112
                    have h104 : act.tmps.getD 104 undef = .bool false := H 1 13 104 (by kernel_rfl) rfl
                    have g104 := Array.getD_eq_getD_getElem?.symm.trans h104
                    have k104 := Inv.some_bool g104
                    clear H O
                    have kr := HK9.out.below hB HK9.out.lt
                    have krl := kr.lt
                    have kr0 := kr.cell 0
                    simp at kr0
                    go_simp
                    exact hK _ _ (Below.refl _ _) (fun _ => rfl)
                  · intro act wa hC hd H O K hK
                    clear hd
                    obtain ⟨hB, -⟩ := hC
                    have h104 : act.tmps.getD 104 undef = .bool false := H 1 13 104 (by kernel_rfl) rfl
                    have g104 := Array.getD_eq_getD_getElem?.symm.trans h104
                    have h113 : act.tmps.getD 113 undef = .bool false := H 1 22 113 (by kernel_rfl) rfl
                    have g113 := Array.getD_eq_getD_getElem?.symm.trans h113
                    clear H O
                    have kr := HK9.out.below hB HK9.out.lt
                    have krl := kr.lt
                    have kr0 := kr.cell 0
                    simp at kr0
                    go_simp
                    exact hK _ _ (Below.refl _ _) (fun _ => rfl)
                · intro us w' hC hF
                  obtain ⟨hB, -⟩ := hC
                  have u114 : us 114 = .bool false := hF 23 114 rfl
                  clear hF
                  simp only [List.foldl]
                  go_simp
                  have e114 : us 114 = .bool false := u114
                  have N11 := Lib.hid (N9.out.below hB); have B11 := Lib.hid (B9.out.trans (hB.mono B9.out.size))
                  have R := Lib.hid (show TRD w g r len (.int .i64 ((k : Int) + 1)) w' from ⟨k + 1, rw0, by go_num, HLT.out, N11.out, F9.out, B11.out⟩)
                  clear hB u114
                  try rw [e114]
                  go_wp2
                  go_roundw
                  case rel => exact R.out
                  case measure => simp [intOf]; have := HLT.out; omega
      · obtain rfl : k = len := by omega
        have HP := Lib.hid (show TrueN w (.returned (.bool true)) wr from ⟨rfl, HB.out⟩)
        clear hN hF hbel
        go_wp2
        go_ret
        exact HP.out
end Go.Proofs.Ytahichieakdbnaa
