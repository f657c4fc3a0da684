/- law 5's DictDoes: the walk. -/
import Derived.Test.YtignfhdblakcfaaFew5
import Derived.Test.YtignfhdblakcfaaRdp
import Derived.Test.YtignfhdblakcfaaDbk
import Derived.Test.YtignfhdblakcfaaSsm
namespace Go.Proofs.Ytignfhdblakcfaa
open Go.ChangeShapes Go.WideShapes Go.ChangeAt Go.RowKit Go.Maps
set_option linter.unusedVariables false
set_option linter.unusedSimpArgs false

theorem RAt_at (w : World) (g : Nat) (U : Nat → Prop) (ks : List ByteArray) (e now : Nat) (k : ByteArray) (h : RDR w g U ks e now) (i : Int) (hi : Dm.atD ks k = i) :
    Calls Try.prog 38 #[.pointer (some ⟨g, 0, none⟩), .string k] w fun en w' => en = .returned (.int .i64 i) ∧ w = w' := by
  subst hi; exact RAt_any w g U ks e now k h
theorem RPut5_at (w : World) (g : Nat) (U : Nat → Prop) (ks : List ByteArray) (e now : Nat) (k : ByteArray) (h : RDR w g U ks e now) (hnow : now ≤ 1000000) (bs : List Nat) (d n : Nat) (ks' : List ByteArray) (e' : Nat) (hr : Dm.putD ks e k = (bs, d, ks', e')) (hn : bs.length = n) :
    Calls Try.prog 31 #[.pointer (some ⟨g, 0, none⟩), .string k] w fun en w' => ∃ v U' now', en = .returned (.tuple #[v, .int .i64 (d : Int)]) ∧ Made w' v bs n ∧ RDR w' g U' ks' e' now' ∧ now' ≤ now + 1 ∧ Turned w U U' w' := by
  have h1 := RPut5_any w g U ks e now k h hnow
  rw [hr] at h1
  subst hn
  exact h1
theorem RTake5_at (w : World) (g : Nat) (U : Nat → Prop) (ks : List ByteArray) (e now : Nat) (A : Option Addr) (n c : Nat) (bs : List Nat) (h : RDR w g U ks e now) (hnow : now ≤ 1000000) (hrd : Rd w w.heap.size A (u8s bs)) (h256 : ∀ b ∈ bs, b < 256) (hn : bs.length = n) (hl : n ≤ 1099511627776) (hc : n ≤ c) (hcm : c ≤ maxLen) (k : ByteArray) (m d : Nat) (ks' : List ByteArray) (e' : Nat) (hr : Dm.takeD ks e bs = (k, m, d, ks', e')) :
    Calls Try.prog 33 #[.pointer (some ⟨g, 0, none⟩), .slice A n c] w fun en w' => ∃ U' now', en = .returned (.tuple #[.string k, .int .i64 (m : Int), .int .i64 (d : Int)]) ∧ RDR w' g U' ks' e' now' ∧ now' ≤ now + 1 ∧ Turned w U U' w' := by
  have h1 := RTake5_any w g U ks e now A n c bs h hnow hrd h256 hn hl hc hcm
  rw [hr] at h1
  exact h1
theorem rdr_new (w : World) : RDR (w.alloc (.cells #[.slice none 0 0, .slice none 0 0, .int .i64 0] 50)) w.heap.size (fun j => j = w.heap.size) [] 0 0 :=
  ⟨[], ⟨none, 0, none, 0, Blk.new w _ _, World.ownsRow_nil _ _ _ _, World.ownsRow_nil _ _ _ _, fun j => by simp [Value.ownBlock]⟩, Dm.RI.nil⟩
def DoesRel (w : World) (g : Nat) (ys : List ActD) (s4 s28 : Value) (wr : World) : Prop :=
  ∃ (k gr : Nat) (S U : Nat → Prop) (ks : List ByteArray) (e now : Nat), s28 = .int .i64 (k : Int) ∧ s4 = .pointer (some ⟨gr, 0, none⟩) ∧ k ≤ ys.length ∧ DictM wr g S ks e ∧ RDR wr gr U ks e now ∧ now ≤ k ∧ Apart S U ∧ (∀ j, S j → w.heap.size ≤ j) ∧ (∀ j, U j → w.heap.size ≤ j) ∧ Below w.heap.size w wr
set_option maxRecDepth 100000 in
set_option maxHeartbeats 16000000 in
theorem DictDoes_walk (w : World) (A : Option Addr) (len cap : Nat) (ys : List ActD) (hn : ys.length = len) (hlc : len ≤ cap) (hcm : cap ≤ maxLen) (hr : Acts5 w w.heap.size A ys) :
    Calls Try.prog 6 #[.slice A len cap] w (TrueP5 w) := by
  subst hn
  have HLC := Lib.hid hlc; have HCM := Lib.hid hcm; have HR := Lib.hid hr
  unfold maxLen at hcm
  clear hr
  go_enter Try.func6, Try.ntmps6
  go_wp2_with fail
  refine (awake5_any w).mono ?_
  rintro en w1 ⟨rfl, hb1⟩
  have B1 := Lib.hid hb1; clear hb1
  go_wp2_with fail
  refine (large5_any w1 A ys.length cap ys (Acts5.step HR.out B1.out) rfl HLC.out HCM.out).mono ?_
  rintro en w2 ⟨⟨lb, rfl, hfine⟩, hb2⟩
  have B2 := Lib.hid (B1.out.trans (hb2.mono B1.out.size)); have HFI := Lib.hid hfine
  clear hb2 hfine
  cases lb
  · obtain ⟨h60, hsh⟩ := HFI.out rfl
    have HSH := Lib.hid hsh; clear hsh HFI
    go_wp2_with fail
    refine (DNew_any w2).mono ?_
    rintro en w3 ⟨g, S3, rfl, hd, hS, hb⟩
    have hal : Below w3.heap.size w3 (w3.alloc (.cells #[.slice none 0 0, .slice none 0 0, .int .i64 0] 50)) := (Below.refl _ _).alloc (Nat.le_refl _) _
    have hb3 := B2.out.trans (hb.mono B2.out.size)
    have START := Lib.hid (show DoesRel w g ys (.pointer (some ⟨w3.heap.size, 0, none⟩)) (.int .i64 0) (w3.alloc (.cells #[.slice none 0 0, .slice none 0 0, .int .i64 0] 50)) from
      ⟨0, w3.heap.size, S3, _, [], 0, 0, rfl, rfl, by omega, hd.below hal, rdr_new w3, by omega, fun j h1 h2 => by have := hd.lt j h1; omega, fun j hj => Nat.le_trans B2.out.size (hS j hj), fun j hj => by have := hb3.size; omega, hb3.trans (hal.mono hb3.size)⟩)
    clear hd hS hb hal hb3
    go_wp2
    go_loopw [4, 28] (fun s4 s28 wr => DoesRel w g ys s4 s28 wr) (fun _ s28 _ => ys.length - (intOf s28).toNat)
    case atStart => exact START.out
    case round =>
      clear START
      obtain ⟨k, gr, S, U, ks, e, now, rfl, rfl, hk, hd, hrd, hnow, hap, hS, hU, hbel⟩ := hrel
      by_cases hlt : k < ys.length
      · obtain ⟨ga, o, d, s, bs, Ab, cb, rfl, hga, hp, d0, d1, d2, hrb, hbc, hbm, hbn, hb256, hsm, hd0, hd1⟩ := (Acts5.below HR.out hbel).row hlt
        have hgw : ga < wr.heap.size := World.block_lt_of_cell? _ _ d0
        have hlt2 : (k : Int) < (ys.length : Int) := by omega
        obtain ⟨hs200, hb200⟩ := HSH.out k _ hp
        obtain ⟨lb, hlb⟩ : ∃ lb, bs.length = lb := ⟨_, rfl⟩
        rw [hlb] at d2 hbc
        simp only [hlb] at hs200 hb200
        have HLB := Lib.hid hlb; have HSM := Lib.hid hsm; have H256 := Lib.hid hb256; have HBM := Lib.hid hbm
        have hal : Below wr.heap.size wr (wr.alloc (.cells #[.int .i64 d, .string s, .slice Ab lb cb] 52)) := (Below.refl _ _).alloc (Nat.le_refl _) _
        have D4 := Lib.hid (hd.below hal); have A4 := Lib.hid hS; have B4 := Lib.hid (hbel.trans (hal.mono hbel.size))
        have RB := Lib.hid ((hrb.below (hal.mono (by exact hbel.size))).more B4.out.size)
        have HK := Lib.hid hlt
        have HBASE := Lib.hid (hrb.below (hal.mono (by exact hbel.size)))
        have hlt0 := hd.lt
        have c0 : (wr.alloc (.cells #[.int .i64 d, .string s, .slice Ab lb cb] 52)).cell? ⟨wr.heap.size, 0, none⟩ = some (.int .i64 d) := by simp [World.cell?_alloc_new]
        have c1 : (wr.alloc (.cells #[.int .i64 d, .string s, .slice Ab lb cb] 52)).cell? ⟨wr.heap.size, 1, none⟩ = some (.string s) := by simp [World.cell?_alloc_new]
        have c2 : (wr.alloc (.cells #[.int .i64 d, .string s, .slice Ab lb cb] 52)).cell? ⟨wr.heap.size, 2, none⟩ = some (.slice Ab lb cb) := by simp [World.cell?_alloc_new]
        have R4 := Lib.hid (hrd.below hal); have X4 := Lib.hid hap; have AU4 := Lib.hid hU; have hnw : now ≤ 1000000 := by omega
        have hrlt := hrd.lt
        clear hrd hap hU
        clear hd hS hbel hal hp hlb hsm hb256 hrb hbm hbn hgw hga c0 c1 c2
        have HLT := Lib.hid hlt0; have HRLT := Lib.hid hrlt
        clear hlt0 hrlt
        by_cases hq0 : d = 0
        · subst hq0
          obtain ⟨⟨pb, pd, pk, pe⟩, hpd⟩ : ∃ r, Dm.putD ks e s = r := ⟨_, rfl⟩
          have hpl := (Dm.put_len (k := s) D4.out.ok).1
          rw [hpd] at hpl
          simp only at hpl
          obtain ⟨np, hnp⟩ : ∃ np, pb.length = np := ⟨_, rfl⟩
          rw [hnp] at hpl
          have HPD := Lib.hid hpd; have HNP := Lib.hid hnp
          clear hpd hnp
          go_wp2_with fail
          refine (DPut_at _ g S ks e s HSM.out D4.out pb pd np pk pe HPD.out HNP.out).mono ?_
          rintro en w5 ⟨v, SX, rfl, hm, hf, hd, hT⟩
          obtain ⟨Av, cv, rfl, hrv, -⟩ := id hm
          have D5 := Lib.hid hd; have AX := Lib.hid (hT.1.above B4.out.size A4.out); have B5 := Lib.hid (B4.out.trans (hT.2.to_below B4.out.size A4.out))
          have hact := hT.2.blk (Blk.new wr 52 #[.int .i64 0, .string s, .slice Ab lb cb]) (fun h => by have := HLT.out _ h; omega)
          obtain ⟨e0, e1, e2, -⟩ := Blk.three hact
          have ACT5 := Lib.hid hact
          have R5 := Lib.hid (R4.out.only hT.2 X4.out); have X5 := Lib.hid (X4.out.turn hT R4.out.lt)
          have M5 := Lib.hid (MadeO.also (T := U) hm hf R4.out.lt)
          clear hm hf hd hT hact hrv
          go_wp2_with fail
          refine (RPut5_at w5 gr U ks e now s R5.out hnw pb pd np pk pe HPD.out HNP.out).mono ?_
          rintro en wx ⟨v, UX, nx, rfl, hm, hd, hnx, hT⟩
          obtain ⟨Aw, cw, rfl, hrw, -⟩ := id hm
          have HNX := Lib.hid (show nx ≤ k + 1 by omega)
          have RX := Lib.hid hd; have AUX := Lib.hid (hT.1.above B5.out.size AU4.out); have BX := Lib.hid (B5.out.trans (hT.2.to_below B5.out.size AU4.out))
          have DX := Lib.hid (D5.out.only hT.2 X5.out.symm); have XX := Lib.hid (X5.out.symm.turn hT D5.out.lt).symm
          have HACT := Lib.hid (hT.2.blk ACT5.out (fun h => by have := HRLT.out _ h; omega))
          have MX := Lib.hid ((M5.out.turn hT.right).1.rd_of); have MW := Lib.hid hrw
          clear hm hd hT hrw hnx
          go_wp2_with fail
          refine (same_at wx Av Aw cv cw pb pb _ _ np np true MX.out MW.out (by rw [HNP.out]; unfold maxLen; omega) HNP.out HNP.out (by simp)).mono ?_
          rintro en wy ⟨rfl, q, hq⟩
          have hby : Below wx.heap.size wx wy := by rw [hq]; exact below_drewN (Below.refl _ _) q
          have DY := Lib.hid (DX.out.below hby); have RY := Lib.hid (RX.out.below hby); have BY := Lib.hid (BX.out.trans (hby.mono BX.out.size)); have HACTY := Lib.hid (HACT.out.below hby HACT.out.lt)
          clear hby hq DX RX BX HACT MX MW
          have DX := DY; have RX := RY; have BX := BY; have HACT := HACTY
          obtain ⟨nk, hnk⟩ : ∃ nk, (pk).length = nk := ⟨_, rfl⟩
          have hnk8 : nk ≤ 8 := by have := DX.out.ok.2.1; omega
          have HNK := Lib.hid hnk
          obtain ⟨ai, hai⟩ : ∃ ai, Dm.atD (pk) s = ai := ⟨_, rfl⟩
          have HAI := Lib.hid hai
          obtain ⟨wsX, ⟨A1, c1, A2, c2, q1, q2, q3, q4⟩, q5⟩ := id RX.out
          obtain ⟨A1', c1', hv, -, -, -, hr1, -⟩ := own_form q2
          injection hv with e1 _ e2
          subst e1 e2
          rw [hnk] at q1
          have HGR := Lib.hid q1; have R1 := Lib.hid hr1
          have RREL := Lib.hid (show ∀ w', Below wy.heap.size wy w' → DoesRel w g ys (.pointer (some ⟨gr, 0, none⟩)) (.int .i64 ((k : Int) + 1)) w' from fun w' hb => ⟨k + 1, gr, SX, UX, (pk), pe, nx, by go_num, rfl, HK.out, DX.out.below hb, RX.out.below hb, HNX.out, XX.out, AX.out, AUX.out, BX.out.trans (hb.mono BX.out.size)⟩)
          clear hnk hai q1 q2 q3 q4 q5 hr1
          go_wp2
          refine Inv.region_below (fun i v w' => match i with
              | 0 => v = .pointer (some ⟨g, 0, none⟩)
              | 1 => ∃ Ak ck, v = .slice Ak nk ck ∧ Rd w' w'.heap.size Ak ((pk).map Value.string)
              | 2 => v = .pointer (some ⟨gr, 0, none⟩)
              | 3 => v = .pointer (some ⟨gr, 0, none⟩)
              | 4 => v = .pointer (some ⟨gr, 0, none⟩)
              | 5 => v = .slice A1 nk c1
              | 6 => v = .bool true
              | 7 => v = .bool false
              | 8 => v = .bool false
              | 9 => v = .pointer (some ⟨g, 0, none⟩)
              | 10 => v = .pointer (some ⟨wr.heap.size, 1, none⟩)
              | 11 => v = .string s
              | 12 => v = .int .i64 ai
              | 13 => v = .pointer (some ⟨gr, 0, none⟩)
              | 14 => v = .pointer (some ⟨wr.heap.size, 1, none⟩)
              | 15 => v = .string s
              | 16 => v = .int .i64 ai
              | 17 => v = .bool false
              | 18 => v = .bool false
              | _ => True)
            (fun w' => Below wy.heap.size wy w') 116 [96, 97, 98, 99, 100, 101, 102, 103, 104, 105, 106, 107, 108, 109, 110, 111, 112, 113, 114] (by kernel_rfl) rfl (by kernel_rfl) (by kernel_rfl) ?_ ?_ ?_ ?_
          · intro v v' hC hb
            obtain hC := hC
            exact hC.trans (hb.mono hC.size)
          · exact (Below.refl _ _).drew
          · refine ⟨⟨fun _ _ _ h _ => h, ?_⟩, ⟨fun v w w' ⟨Ak, ck, h1, h2⟩ hb => ⟨Ak, ck, h1, (h2.below hb).more hb.size⟩, ?_⟩, ⟨fun _ _ _ h _ => h, ?_⟩, ⟨fun _ _ _ h _ => h, ?_⟩, ⟨fun _ _ _ h _ => h, ?_⟩, ⟨fun _ _ _ h _ => h, ?_⟩, ⟨fun _ _ _ h _ => h, ?_⟩, ⟨fun _ _ _ h _ => h, ?_⟩, ⟨fun _ _ _ h _ => h, ?_⟩, ⟨fun _ _ _ h _ => h, ?_⟩, ⟨fun _ _ _ h _ => h, ?_⟩, ⟨fun _ _ _ h _ => h, ?_⟩, ⟨fun _ _ _ h _ => h, ?_⟩, ⟨fun _ _ _ h _ => h, ?_⟩, ⟨fun _ _ _ h _ => h, ?_⟩, ⟨fun _ _ _ h _ => h, ?_⟩, ⟨fun _ _ _ h _ => h, ?_⟩, ⟨fun _ _ _ h _ => h, ?_⟩, ⟨fun _ _ _ h _ => h, ?_⟩, trivial⟩
            · intro act wa hC hd H O K hK
              clear hd
              obtain hC := hC
              have h3 := O 3 (by kernel_rfl)
              have g3 := Array.getD_eq_getD_getElem?.symm.trans h3
              clear H O
              obtain ⟨r0, r1, r2, rf⟩ := Blk.three (HGR.out.below hC HGR.out.lt)
              obtain ⟨a0, a1, a2, af⟩ := Blk.three (HACT.out.below hC HACT.out.lt)
              go_simp
              exact hK _ _ (Below.refl _ _) (fun _ => rfl)
            · intro act wa hC hd H O K hK
              clear hd
              obtain hC := hC
              have h96 : act.tmps.getD 96 undef = .pointer (some ⟨g, 0, none⟩) := H 1 0 96 (by kernel_rfl) rfl
              have g96 := Array.getD_eq_getD_getElem?.symm.trans h96
              clear H O
              obtain ⟨r0, r1, r2, rf⟩ := Blk.three (HGR.out.below hC HGR.out.lt)
              obtain ⟨a0, a1, a2, af⟩ := Blk.three (HACT.out.below hC HACT.out.lt)
              go_simp
              refine (DKeys_at wa g SX (pk) pe (DX.out.below hC) nk HNK.out).mono ?_
              rintro e1 w1 ⟨Ak, ck, rfl, hrk, -, -, -, hb⟩
              exact hK _ _ hb (fun _ => ⟨Ak, ck, rfl, hrk⟩)
            · intro act wa hC hd H O K hK
              clear hd
              obtain hC := hC
              have h4 := O 4 (by kernel_rfl)
              have g4 := Array.getD_eq_getD_getElem?.symm.trans h4
              clear H O
              obtain ⟨r0, r1, r2, rf⟩ := Blk.three (HGR.out.below hC HGR.out.lt)
              obtain ⟨a0, a1, a2, af⟩ := Blk.three (HACT.out.below hC HACT.out.lt)
              go_simp
              exact hK _ _ (Below.refl _ _) (fun _ => rfl)
            · intro act wa hC hd H O K hK
              clear hd
              obtain hC := hC
              have h98 : act.tmps.getD 98 undef = .pointer (some ⟨gr, 0, none⟩) := H 1 2 98 (by kernel_rfl) rfl
              have g98 := Array.getD_eq_getD_getElem?.symm.trans h98
              clear H O
              obtain ⟨r0, r1, r2, rf⟩ := Blk.three (HGR.out.below hC HGR.out.lt)
              obtain ⟨a0, a1, a2, af⟩ := Blk.three (HACT.out.below hC HACT.out.lt)
              go_simp
              exact hK _ _ (Below.refl _ _) (fun _ => rfl)
            · intro act wa hC hd H O K hK
              clear hd
              obtain hC := hC
              have h99 : act.tmps.getD 99 undef = .pointer (some ⟨gr, 0, none⟩) := H 1 3 99 (by kernel_rfl) rfl
              have g99 := Array.getD_eq_getD_getElem?.symm.trans h99
              clear H O
              obtain ⟨r0, r1, r2, rf⟩ := Blk.three (HGR.out.below hC HGR.out.lt)
              obtain ⟨a0, a1, a2, af⟩ := Blk.three (HACT.out.below hC HACT.out.lt)
              go_simp
              exact hK _ _ (Below.refl _ _) (fun _ => rfl)
            · intro act wa hC hd H O K hK
              clear hd
              obtain hC := hC
              have h100 : act.tmps.getD 100 undef = .pointer (some ⟨gr, 0, none⟩) := H 1 4 100 (by kernel_rfl) rfl
              have g100 := Array.getD_eq_getD_getElem?.symm.trans h100
              clear H O
              obtain ⟨r0, r1, r2, rf⟩ := Blk.three (HGR.out.below hC HGR.out.lt)
              obtain ⟨a0, a1, a2, af⟩ := Blk.three (HACT.out.below hC HACT.out.lt)
              go_simp
              exact hK _ _ (Below.refl _ _) (fun _ => rfl)
            · intro act wa hC hd H O K hK
              clear hd
              obtain hC := hC
              have h97 : ∃ Ak ck, act.tmps.getD 97 undef = .slice Ak nk ck ∧ Rd wa wa.heap.size Ak ((pk).map Value.string) := H 1 1 97 (by kernel_rfl) rfl
              obtain ⟨Ak, ck, h97, hrk⟩ := h97
              have h101 : act.tmps.getD 101 undef = .slice A1 nk c1 := H 1 5 101 (by kernel_rfl) rfl
              have g101 := Array.getD_eq_getD_getElem?.symm.trans h101
              clear H O
              obtain ⟨r0, r1, r2, rf⟩ := Blk.three (HGR.out.below hC HGR.out.lt)
              obtain ⟨a0, a1, a2, af⟩ := Blk.three (HACT.out.below hC HACT.out.lt)
              have g97 := Array.getD_eq_getD_getElem?.symm.trans h97
              go_simp
              refine (SSame_true wa Ak A1 ck c1 nk (pk) _ _ hrk (R1.out.below hC) HNK.out (by omega)).mono ?_
              rintro e1 w1 ⟨rfl, q, hq⟩
              have hb : Below wa.heap.size wa w1 := by rw [hq]; exact below_drewN (Below.refl _ _) q
              exact hK _ _ hb (fun _ => rfl)
            · intro act wa hC hd H O K hK
              clear hd
              obtain hC := hC
              have h102 : act.tmps.getD 102 undef = .bool true := H 1 6 102 (by kernel_rfl) rfl
              have g102 := Array.getD_eq_getD_getElem?.symm.trans h102
              clear H O
              obtain ⟨r0, r1, r2, rf⟩ := Blk.three (HGR.out.below hC HGR.out.lt)
              obtain ⟨a0, a1, a2, af⟩ := Blk.three (HACT.out.below hC HACT.out.lt)
              go_simp
              exact hK _ _ (Below.refl _ _) (fun _ => rfl)
            · intro act wa hC hd H O K hK
              clear hd
              obtain hC := hC
              have h103 : act.tmps.getD 103 undef = .bool false := H 1 7 103 (by kernel_rfl) rfl
              have g103 := Array.getD_eq_getD_getElem?.symm.trans h103
              clear H O
              obtain ⟨r0, r1, r2, rf⟩ := Blk.three (HGR.out.below hC HGR.out.lt)
              obtain ⟨a0, a1, a2, af⟩ := Blk.three (HACT.out.below hC HACT.out.lt)
              go_simp
              exact hK _ _ (Below.refl _ _) (fun _ => rfl)
            · intro act wa hC hd H O K hK
              clear hd
              obtain hC := hC
              have h3 := O 3 (by kernel_rfl)
              have g3 := Array.getD_eq_getD_getElem?.symm.trans h3
              have h104 : act.tmps.getD 104 undef = .bool false := H 1 8 104 (by kernel_rfl) rfl
              have g104 := Array.getD_eq_getD_getElem?.symm.trans h104
              have k104 := Inv.some_bool g104
              clear H O
              obtain ⟨r0, r1, r2, rf⟩ := Blk.three (HGR.out.below hC HGR.out.lt)
              obtain ⟨a0, a1, a2, af⟩ := Blk.three (HACT.out.below hC HACT.out.lt)
              go_simp
              exact hK _ _ (Below.refl _ _) (fun _ => rfl)
            · intro act wa hC hd H O K hK
              clear hd
              obtain hC := hC
              have h6 := O 6 (by kernel_rfl)
              have g6 := Array.getD_eq_getD_getElem?.symm.trans h6
              have h104 : act.tmps.getD 104 undef = .bool false := H 1 8 104 (by kernel_rfl) rfl
              have g104 := Array.getD_eq_getD_getElem?.symm.trans h104
              have k104 := Inv.some_bool g104
              clear H O
              obtain ⟨r0, r1, r2, rf⟩ := Blk.three (HGR.out.below hC HGR.out.lt)
              obtain ⟨a0, a1, a2, af⟩ := Blk.three (HACT.out.below hC HACT.out.lt)
              go_simp
              exact hK _ _ (Below.refl _ _) (fun _ => rfl)
            · intro act wa hC hd H O K hK
              clear hd
              obtain hC := hC
              have h106 : act.tmps.getD 106 undef = .pointer (some ⟨wr.heap.size, 1, none⟩) := H 1 10 106 (by kernel_rfl) rfl
              have g106 := Array.getD_eq_getD_getElem?.symm.trans h106
              have h104 : act.tmps.getD 104 undef = .bool false := H 1 8 104 (by kernel_rfl) rfl
              have g104 := Array.getD_eq_getD_getElem?.symm.trans h104
              have k104 := Inv.some_bool g104
              clear H O
              obtain ⟨r0, r1, r2, rf⟩ := Blk.three (HGR.out.below hC HGR.out.lt)
              obtain ⟨a0, a1, a2, af⟩ := Blk.three (HACT.out.below hC HACT.out.lt)
              go_simp
              exact hK _ _ (Below.refl _ _) (fun _ => rfl)
            · intro act wa hC hd H O K hK
              clear hd
              obtain hC := hC
              have h105 : act.tmps.getD 105 undef = .pointer (some ⟨g, 0, none⟩) := H 1 9 105 (by kernel_rfl) rfl
              have g105 := Array.getD_eq_getD_getElem?.symm.trans h105
              have h107 : act.tmps.getD 107 undef = .string s := H 1 11 107 (by kernel_rfl) rfl
              have g107 := Array.getD_eq_getD_getElem?.symm.trans h107
              have h104 : act.tmps.getD 104 undef = .bool false := H 1 8 104 (by kernel_rfl) rfl
              have g104 := Array.getD_eq_getD_getElem?.symm.trans h104
              have k104 := Inv.some_bool g104
              clear H O
              obtain ⟨r0, r1, r2, rf⟩ := Blk.three (HGR.out.below hC HGR.out.lt)
              obtain ⟨a0, a1, a2, af⟩ := Blk.three (HACT.out.below hC HACT.out.lt)
              go_simp
              refine (DAt_at wa g SX (pk) pe s HSM.out (DX.out.below hC) ai HAI.out).mono ?_
              rintro e1 w1 ⟨rfl, rfl⟩
              exact hK _ _ (Below.refl _ _) (fun _ => rfl)
            · intro act wa hC hd H O K hK
              clear hd
              obtain hC := hC
              have h4 := O 4 (by kernel_rfl)
              have g4 := Array.getD_eq_getD_getElem?.symm.trans h4
              have h104 : act.tmps.getD 104 undef = .bool false := H 1 8 104 (by kernel_rfl) rfl
              have g104 := Array.getD_eq_getD_getElem?.symm.trans h104
              have k104 := Inv.some_bool g104
              clear H O
              obtain ⟨r0, r1, r2, rf⟩ := Blk.three (HGR.out.below hC HGR.out.lt)
              obtain ⟨a0, a1, a2, af⟩ := Blk.three (HACT.out.below hC HACT.out.lt)
              go_simp
              exact hK _ _ (Below.refl _ _) (fun _ => rfl)
            · intro act wa hC hd H O K hK
              clear hd
              obtain hC := hC
              have h6 := O 6 (by kernel_rfl)
              have g6 := Array.getD_eq_getD_getElem?.symm.trans h6
              have h104 : act.tmps.getD 104 undef = .bool false := H 1 8 104 (by kernel_rfl) rfl
              have g104 := Array.getD_eq_getD_getElem?.symm.trans h104
              have k104 := Inv.some_bool g104
              clear H O
              obtain ⟨r0, r1, r2, rf⟩ := Blk.three (HGR.out.below hC HGR.out.lt)
              obtain ⟨a0, a1, a2, af⟩ := Blk.three (HACT.out.below hC HACT.out.lt)
              go_simp
              exact hK _ _ (Below.refl _ _) (fun _ => rfl)
            · intro act wa hC hd H O K hK
              clear hd
              obtain hC := hC
              have h110 : act.tmps.getD 110 undef = .pointer (some ⟨wr.heap.size, 1, none⟩) := H 1 14 110 (by kernel_rfl) rfl
              have g110 := Array.getD_eq_getD_getElem?.symm.trans h110
              have h104 : act.tmps.getD 104 undef = .bool false := H 1 8 104 (by kernel_rfl) rfl
              have g104 := Array.getD_eq_getD_getElem?.symm.trans h104
              have k104 := Inv.some_bool g104
              clear H O
              obtain ⟨r0, r1, r2, rf⟩ := Blk.three (HGR.out.below hC HGR.out.lt)
              obtain ⟨a0, a1, a2, af⟩ := Blk.three (HACT.out.below hC HACT.out.lt)
              go_simp
              exact hK _ _ (Below.refl _ _) (fun _ => rfl)
            · intro act wa hC hd H O K hK
              clear hd
              obtain hC := hC
              have h109 : act.tmps.getD 109 undef = .pointer (some ⟨gr, 0, none⟩) := H 1 13 109 (by kernel_rfl) rfl
              have g109 := Array.getD_eq_getD_getElem?.symm.trans h109
              have h111 : act.tmps.getD 111 undef = .string s := H 1 15 111 (by kernel_rfl) rfl
              have g111 := Array.getD_eq_getD_getElem?.symm.trans h111
              have h104 : act.tmps.getD 104 undef = .bool false := H 1 8 104 (by kernel_rfl) rfl
              have g104 := Array.getD_eq_getD_getElem?.symm.trans h104
              have k104 := Inv.some_bool g104
              clear H O
              obtain ⟨r0, r1, r2, rf⟩ := Blk.three (HGR.out.below hC HGR.out.lt)
              obtain ⟨a0, a1, a2, af⟩ := Blk.three (HACT.out.below hC HACT.out.lt)
              go_simp
              refine (RAt_at wa gr UX (pk) pe nx s (RX.out.below hC) ai HAI.out).mono ?_
              rintro e1 w1 ⟨rfl, rfl⟩
              exact hK _ _ (Below.refl _ _) (fun _ => rfl)
            · intro act wa hC hd H O K hK
              clear hd
              obtain hC := hC
              have h108 : act.tmps.getD 108 undef = .int .i64 ai := H 1 12 108 (by kernel_rfl) rfl
              have g108 := Array.getD_eq_getD_getElem?.symm.trans h108
              have h112 : act.tmps.getD 112 undef = .int .i64 ai := H 1 16 112 (by kernel_rfl) rfl
              have g112 := Array.getD_eq_getD_getElem?.symm.trans h112
              have h104 : act.tmps.getD 104 undef = .bool false := H 1 8 104 (by kernel_rfl) rfl
              have g104 := Array.getD_eq_getD_getElem?.symm.trans h104
              have k104 := Inv.some_bool g104
              clear H O
              obtain ⟨r0, r1, r2, rf⟩ := Blk.three (HGR.out.below hC HGR.out.lt)
              obtain ⟨a0, a1, a2, af⟩ := Blk.three (HACT.out.below hC HACT.out.lt)
              go_simp
              exact hK _ _ (Below.refl _ _) (fun _ => rfl)
            · intro act wa hC hd H O K hK
              clear hd
              obtain hC := hC
              have h104 : act.tmps.getD 104 undef = .bool false := H 1 8 104 (by kernel_rfl) rfl
              have g104 := Array.getD_eq_getD_getElem?.symm.trans h104
              have h113 : act.tmps.getD 113 undef = .bool false := H 1 17 113 (by kernel_rfl) rfl
              have g113 := Array.getD_eq_getD_getElem?.symm.trans h113
              clear H O
              obtain ⟨r0, r1, r2, rf⟩ := Blk.three (HGR.out.below hC HGR.out.lt)
              obtain ⟨a0, a1, a2, af⟩ := Blk.three (HACT.out.below hC HACT.out.lt)
              go_simp
              exact hK _ _ (Below.refl _ _) (fun _ => rfl)
          · intro us w' hC hF
            obtain hC := hC
            have u114 : us 114 = .bool false := hF 18 114 rfl
            clear hF
            simp only [List.foldl]
            go_simp
            have RR := Lib.hid (RREL.out _ hC)
            clear hC RREL
            go_wp2
            go_roundw
            case rel => exact RR.out
            case measure => simp [intOf]; have := HK.out; omega
        · have n01 : (d == 0) = false := by simp [hq0]
          have n02 : decide (d = 0) = false := by simp [hq0]
          by_cases hq1 : d = 1
          · subst hq1
            obtain ⟨⟨tk, tm, td, pk, pe⟩, hpd⟩ : ∃ r, Dm.takeD ks e bs = r := ⟨_, rfl⟩
            have HPD := Lib.hid hpd
            clear hpd
            go_wp2_with fail
            refine (DTake_at _ g S ks e Ab lb cb bs D4.out RB.out H256.out HLB.out (by omega) (by omega) HBM.out tk tm td pk pe HPD.out).mono ?_
            rintro en w5 ⟨SX, rfl, hd, hT⟩
            have D5 := Lib.hid hd; have AX := Lib.hid (hT.1.above B4.out.size A4.out); have B5 := Lib.hid (B4.out.trans (hT.2.to_below B4.out.size A4.out))
            have hact := hT.2.blk (Blk.new wr 52 #[.int .i64 1, .string s, .slice Ab lb cb]) (fun h => by have := HLT.out _ h; omega)
            obtain ⟨e0, e1, e2, -⟩ := Blk.three hact
            have ACT5 := Lib.hid hact
            have R5 := Lib.hid (R4.out.only hT.2 X4.out); have X5 := Lib.hid (X4.out.turn hT R4.out.lt)
            have RB5 := Lib.hid ((HBASE.out.below (hT.2.to_below B4.out.size A4.out)).more B5.out.size)
            clear hd hT hact
            go_wp2_with fail
            refine (RTake5_at w5 gr U ks e now Ab lb cb bs R5.out hnw RB5.out H256.out HLB.out (by omega) (by omega) HBM.out tk tm td pk pe HPD.out).mono ?_
            rintro en wx ⟨UX, nx, rfl, hd, hnx, hT⟩
            have HNX := Lib.hid (show nx ≤ k + 1 by omega)
            have RX := Lib.hid hd; have AUX := Lib.hid (hT.1.above B5.out.size AU4.out); have BX := Lib.hid (B5.out.trans (hT.2.to_below B5.out.size AU4.out))
            have DX := Lib.hid (D5.out.only hT.2 X5.out.symm); have XX := Lib.hid (X5.out.symm.turn hT D5.out.lt).symm
            have HACT := Lib.hid (hT.2.blk ACT5.out (fun h => by have := HRLT.out _ h; omega))
            clear hd hT hnx
            obtain ⟨nk, hnk⟩ : ∃ nk, (pk).length = nk := ⟨_, rfl⟩
            have hnk8 : nk ≤ 8 := by have := DX.out.ok.2.1; omega
            have HNK := Lib.hid hnk
            obtain ⟨ai, hai⟩ : ∃ ai, Dm.atD (pk) s = ai := ⟨_, rfl⟩
            have HAI := Lib.hid hai
            obtain ⟨wsX, ⟨A1, c1, A2, c2, q1, q2, q3, q4⟩, q5⟩ := id RX.out
            obtain ⟨A1', c1', hv, -, -, -, hr1, -⟩ := own_form q2
            injection hv with e1 _ e2
            subst e1 e2
            rw [hnk] at q1
            have HGR := Lib.hid q1; have R1 := Lib.hid hr1
            have RREL := Lib.hid (show ∀ w', Below wx.heap.size wx w' → DoesRel w g ys (.pointer (some ⟨gr, 0, none⟩)) (.int .i64 ((k : Int) + 1)) w' from fun w' hb => ⟨k + 1, gr, SX, UX, (pk), pe, nx, by go_num, rfl, HK.out, DX.out.below hb, RX.out.below hb, HNX.out, XX.out, AX.out, AUX.out, BX.out.trans (hb.mono BX.out.size)⟩)
            clear hnk hai q1 q2 q3 q4 q5 hr1
            go_wp2
            refine Inv.region_below (fun i v w' => match i with
                | 0 => v = .pointer (some ⟨g, 0, none⟩)
                | 1 => ∃ Ak ck, v = .slice Ak nk ck ∧ Rd w' w'.heap.size Ak ((pk).map Value.string)
                | 2 => v = .pointer (some ⟨gr, 0, none⟩)
                | 3 => v = .pointer (some ⟨gr, 0, none⟩)
                | 4 => v = .pointer (some ⟨gr, 0, none⟩)
                | 5 => v = .slice A1 nk c1
                | 6 => v = .bool true
                | 7 => v = .bool false
                | 8 => v = .bool false
                | 9 => v = .pointer (some ⟨g, 0, none⟩)
                | 10 => v = .pointer (some ⟨wr.heap.size, 1, none⟩)
                | 11 => v = .string s
                | 12 => v = .int .i64 ai
                | 13 => v = .pointer (some ⟨gr, 0, none⟩)
                | 14 => v = .pointer (some ⟨wr.heap.size, 1, none⟩)
                | 15 => v = .string s
                | 16 => v = .int .i64 ai
                | 17 => v = .bool false
                | 18 => v = .bool false
                | _ => True)
              (fun w' => Below wx.heap.size wx w') 116 [96, 97, 98, 99, 100, 101, 102, 103, 104, 105, 106, 107, 108, 109, 110, 111, 112, 113, 114] (by kernel_rfl) rfl (by kernel_rfl) (by kernel_rfl) ?_ ?_ ?_ ?_
            · intro v v' hC hb
              obtain hC := hC
              exact hC.trans (hb.mono hC.size)
            · exact (Below.refl _ _).drew
            · refine ⟨⟨fun _ _ _ h _ => h, ?_⟩, ⟨fun v w w' ⟨Ak, ck, h1, h2⟩ hb => ⟨Ak, ck, h1, (h2.below hb).more hb.size⟩, ?_⟩, ⟨fun _ _ _ h _ => h, ?_⟩, ⟨fun _ _ _ h _ => h, ?_⟩, ⟨fun _ _ _ h _ => h, ?_⟩, ⟨fun _ _ _ h _ => h, ?_⟩, ⟨fun _ _ _ h _ => h, ?_⟩, ⟨fun _ _ _ h _ => h, ?_⟩, ⟨fun _ _ _ h _ => h, ?_⟩, ⟨fun _ _ _ h _ => h, ?_⟩, ⟨fun _ _ _ h _ => h, ?_⟩, ⟨fun _ _ _ h _ => h, ?_⟩, ⟨fun _ _ _ h _ => h, ?_⟩, ⟨fun _ _ _ h _ => h, ?_⟩, ⟨fun _ _ _ h _ => h, ?_⟩, ⟨fun _ _ _ h _ => h, ?_⟩, ⟨fun _ _ _ h _ => h, ?_⟩, ⟨fun _ _ _ h _ => h, ?_⟩, ⟨fun _ _ _ h _ => h, ?_⟩, trivial⟩
              · intro act wa hC hd H O K hK
                clear hd
                obtain hC := hC
                have h3 := O 3 (by kernel_rfl)
                have g3 := Array.getD_eq_getD_getElem?.symm.trans h3
                clear H O
                obtain ⟨r0, r1, r2, rf⟩ := Blk.three (HGR.out.below hC HGR.out.lt)
                obtain ⟨a0, a1, a2, af⟩ := Blk.three (HACT.out.below hC HACT.out.lt)
                go_simp
                exact hK _ _ (Below.refl _ _) (fun _ => rfl)
              · intro act wa hC hd H O K hK
                clear hd
                obtain hC := hC
                have h96 : act.tmps.getD 96 undef = .pointer (some ⟨g, 0, none⟩) := H 1 0 96 (by kernel_rfl) rfl
                have g96 := Array.getD_eq_getD_getElem?.symm.trans h96
                clear H O
                obtain ⟨r0, r1, r2, rf⟩ := Blk.three (HGR.out.below hC HGR.out.lt)
                obtain ⟨a0, a1, a2, af⟩ := Blk.three (HACT.out.below hC HACT.out.lt)
                go_simp
                refine (DKeys_at wa g SX (pk) pe (DX.out.below hC) nk HNK.out).mono ?_
                rintro e1 w1 ⟨Ak, ck, rfl, hrk, -, -, -, hb⟩
                exact hK _ _ hb (fun _ => ⟨Ak, ck, rfl, hrk⟩)
              · intro act wa hC hd H O K hK
                clear hd
                obtain hC := hC
                have h4 := O 4 (by kernel_rfl)
                have g4 := Array.getD_eq_getD_getElem?.symm.trans h4
                clear H O
                obtain ⟨r0, r1, r2, rf⟩ := Blk.three (HGR.out.below hC HGR.out.lt)
                obtain ⟨a0, a1, a2, af⟩ := Blk.three (HACT.out.below hC HACT.out.lt)
                go_simp
                exact hK _ _ (Below.refl _ _) (fun _ => rfl)
              · intro act wa hC hd H O K hK
                clear hd
                obtain hC := hC
                have h98 : act.tmps.getD 98 undef = .pointer (some ⟨gr, 0, none⟩) := H 1 2 98 (by kernel_rfl) rfl
                have g98 := Array.getD_eq_getD_getElem?.symm.trans h98
                clear H O
                obtain ⟨r0, r1, r2, rf⟩ := Blk.three (HGR.out.below hC HGR.out.lt)
                obtain ⟨a0, a1, a2, af⟩ := Blk.three (HACT.out.below hC HACT.out.lt)
                go_simp
                exact hK _ _ (Below.refl _ _) (fun _ => rfl)
              · intro act wa hC hd H O K hK
                clear hd
                obtain hC := hC
                have h99 : act.tmps.getD 99 undef = .pointer (some ⟨gr, 0, none⟩) := H 1 3 99 (by kernel_rfl) rfl
                have g99 := Array.getD_eq_getD_getElem?.symm.trans h99
                clear H O
                obtain ⟨r0, r1, r2, rf⟩ := Blk.three (HGR.out.below hC HGR.out.lt)
                obtain ⟨a0, a1, a2, af⟩ := Blk.three (HACT.out.below hC HACT.out.lt)
                go_simp
                exact hK _ _ (Below.refl _ _) (fun _ => rfl)
              · intro act wa hC hd H O K hK
                clear hd
                obtain hC := hC
                have h100 : act.tmps.getD 100 undef = .pointer (some ⟨gr, 0, none⟩) := H 1 4 100 (by kernel_rfl) rfl
                have g100 := Array.getD_eq_getD_getElem?.symm.trans h100
                clear H O
                obtain ⟨r0, r1, r2, rf⟩ := Blk.three (HGR.out.below hC HGR.out.lt)
                obtain ⟨a0, a1, a2, af⟩ := Blk.three (HACT.out.below hC HACT.out.lt)
                go_simp
                exact hK _ _ (Below.refl _ _) (fun _ => rfl)
              · intro act wa hC hd H O K hK
                clear hd
                obtain hC := hC
                have h97 : ∃ Ak ck, act.tmps.getD 97 undef = .slice Ak nk ck ∧ Rd wa wa.heap.size Ak ((pk).map Value.string) := H 1 1 97 (by kernel_rfl) rfl
                obtain ⟨Ak, ck, h97, hrk⟩ := h97
                have h101 : act.tmps.getD 101 undef = .slice A1 nk c1 := H 1 5 101 (by kernel_rfl) rfl
                have g101 := Array.getD_eq_getD_getElem?.symm.trans h101
                clear H O
                obtain ⟨r0, r1, r2, rf⟩ := Blk.three (HGR.out.below hC HGR.out.lt)
                obtain ⟨a0, a1, a2, af⟩ := Blk.three (HACT.out.below hC HACT.out.lt)
                have g97 := Array.getD_eq_getD_getElem?.symm.trans h97
                go_simp
                refine (SSame_true wa Ak A1 ck c1 nk (pk) _ _ hrk (R1.out.below hC) HNK.out (by omega)).mono ?_
                rintro e1 w1 ⟨rfl, q, hq⟩
                have hb : Below wa.heap.size wa w1 := by rw [hq]; exact below_drewN (Below.refl _ _) q
                exact hK _ _ hb (fun _ => rfl)
              · intro act wa hC hd H O K hK
                clear hd
                obtain hC := hC
                have h102 : act.tmps.getD 102 undef = .bool true := H 1 6 102 (by kernel_rfl) rfl
                have g102 := Array.getD_eq_getD_getElem?.symm.trans h102
                clear H O
                obtain ⟨r0, r1, r2, rf⟩ := Blk.three (HGR.out.below hC HGR.out.lt)
                obtain ⟨a0, a1, a2, af⟩ := Blk.three (HACT.out.below hC HACT.out.lt)
                go_simp
                exact hK _ _ (Below.refl _ _) (fun _ => rfl)
              · intro act wa hC hd H O K hK
                clear hd
                obtain hC := hC
                have h103 : act.tmps.getD 103 undef = .bool false := H 1 7 103 (by kernel_rfl) rfl
                have g103 := Array.getD_eq_getD_getElem?.symm.trans h103
                clear H O
                obtain ⟨r0, r1, r2, rf⟩ := Blk.three (HGR.out.below hC HGR.out.lt)
                obtain ⟨a0, a1, a2, af⟩ := Blk.three (HACT.out.below hC HACT.out.lt)
                go_simp
                exact hK _ _ (Below.refl _ _) (fun _ => rfl)
              · intro act wa hC hd H O K hK
                clear hd
                obtain hC := hC
                have h3 := O 3 (by kernel_rfl)
                have g3 := Array.getD_eq_getD_getElem?.symm.trans h3
                have h104 : act.tmps.getD 104 undef = .bool false := H 1 8 104 (by kernel_rfl) rfl
                have g104 := Array.getD_eq_getD_getElem?.symm.trans h104
                have k104 := Inv.some_bool g104
                clear H O
                obtain ⟨r0, r1, r2, rf⟩ := Blk.three (HGR.out.below hC HGR.out.lt)
                obtain ⟨a0, a1, a2, af⟩ := Blk.three (HACT.out.below hC HACT.out.lt)
                go_simp
                exact hK _ _ (Below.refl _ _) (fun _ => rfl)
              · intro act wa hC hd H O K hK
                clear hd
                obtain hC := hC
                have h6 := O 6 (by kernel_rfl)
                have g6 := Array.getD_eq_getD_getElem?.symm.trans h6
                have h104 : act.tmps.getD 104 undef = .bool false := H 1 8 104 (by kernel_rfl) rfl
                have g104 := Array.getD_eq_getD_getElem?.symm.trans h104
                have k104 := Inv.some_bool g104
                clear H O
                obtain ⟨r0, r1, r2, rf⟩ := Blk.three (HGR.out.below hC HGR.out.lt)
                obtain ⟨a0, a1, a2, af⟩ := Blk.three (HACT.out.below hC HACT.out.lt)
                go_simp
                exact hK _ _ (Below.refl _ _) (fun _ => rfl)
              · intro act wa hC hd H O K hK
                clear hd
                obtain hC := hC
                have h106 : act.tmps.getD 106 undef = .pointer (some ⟨wr.heap.size, 1, none⟩) := H 1 10 106 (by kernel_rfl) rfl
                have g106 := Array.getD_eq_getD_getElem?.symm.trans h106
                have h104 : act.tmps.getD 104 undef = .bool false := H 1 8 104 (by kernel_rfl) rfl
                have g104 := Array.getD_eq_getD_getElem?.symm.trans h104
                have k104 := Inv.some_bool g104
                clear H O
                obtain ⟨r0, r1, r2, rf⟩ := Blk.three (HGR.out.below hC HGR.out.lt)
                obtain ⟨a0, a1, a2, af⟩ := Blk.three (HACT.out.below hC HACT.out.lt)
                go_simp
                exact hK _ _ (Below.refl _ _) (fun _ => rfl)
              · intro act wa hC hd H O K hK
                clear hd
                obtain hC := hC
                have h105 : act.tmps.getD 105 undef = .pointer (some ⟨g, 0, none⟩) := H 1 9 105 (by kernel_rfl) rfl
                have g105 := Array.getD_eq_getD_getElem?.symm.trans h105
                have h107 : act.tmps.getD 107 undef = .string s := H 1 11 107 (by kernel_rfl) rfl
                have g107 := Array.getD_eq_getD_getElem?.symm.trans h107
                have h104 : act.tmps.getD 104 undef = .bool false := H 1 8 104 (by kernel_rfl) rfl
                have g104 := Array.getD_eq_getD_getElem?.symm.trans h104
                have k104 := Inv.some_bool g104
                clear H O
                obtain ⟨r0, r1, r2, rf⟩ := Blk.three (HGR.out.below hC HGR.out.lt)
                obtain ⟨a0, a1, a2, af⟩ := Blk.three (HACT.out.below hC HACT.out.lt)
                go_simp
                refine (DAt_at wa g SX (pk) pe s HSM.out (DX.out.below hC) ai HAI.out).mono ?_
                rintro e1 w1 ⟨rfl, rfl⟩
                exact hK _ _ (Below.refl _ _) (fun _ => rfl)
              · intro act wa hC hd H O K hK
                clear hd
                obtain hC := hC
                have h4 := O 4 (by kernel_rfl)
                have g4 := Array.getD_eq_getD_getElem?.symm.trans h4
                have h104 : act.tmps.getD 104 undef = .bool false := H 1 8 104 (by kernel_rfl) rfl
                have g104 := Array.getD_eq_getD_getElem?.symm.trans h104
                have k104 := Inv.some_bool g104
                clear H O
                obtain ⟨r0, r1, r2, rf⟩ := Blk.three (HGR.out.below hC HGR.out.lt)
                obtain ⟨a0, a1, a2, af⟩ := Blk.three (HACT.out.below hC HACT.out.lt)
                go_simp
                exact hK _ _ (Below.refl _ _) (fun _ => rfl)
              · intro act wa hC hd H O K hK
                clear hd
                obtain hC := hC
                have h6 := O 6 (by kernel_rfl)
                have g6 := Array.getD_eq_getD_getElem?.symm.trans h6
                have h104 : act.tmps.getD 104 undef = .bool false := H 1 8 104 (by kernel_rfl) rfl
                have g104 := Array.getD_eq_getD_getElem?.symm.trans h104
                have k104 := Inv.some_bool g104
                clear H O
                obtain ⟨r0, r1, r2, rf⟩ := Blk.three (HGR.out.below hC HGR.out.lt)
                obtain ⟨a0, a1, a2, af⟩ := Blk.three (HACT.out.below hC HACT.out.lt)
                go_simp
                exact hK _ _ (Below.refl _ _) (fun _ => rfl)
              · intro act wa hC hd H O K hK
                clear hd
                obtain hC := hC
                have h110 : act.tmps.getD 110 undef = .pointer (some ⟨wr.heap.size, 1, none⟩) := H 1 14 110 (by kernel_rfl) rfl
                have g110 := Array.getD_eq_getD_getElem?.symm.trans h110
                have h104 : act.tmps.getD 104 undef = .bool false := H 1 8 104 (by kernel_rfl) rfl
                have g104 := Array.getD_eq_getD_getElem?.symm.trans h104
                have k104 := Inv.some_bool g104
                clear H O
                obtain ⟨r0, r1, r2, rf⟩ := Blk.three (HGR.out.below hC HGR.out.lt)
                obtain ⟨a0, a1, a2, af⟩ := Blk.three (HACT.out.below hC HACT.out.lt)
                go_simp
                exact hK _ _ (Below.refl _ _) (fun _ => rfl)
              · intro act wa hC hd H O K hK
                clear hd
                obtain hC := hC
                have h109 : act.tmps.getD 109 undef = .pointer (some ⟨gr, 0, none⟩) := H 1 13 109 (by kernel_rfl) rfl
                have g109 := Array.getD_eq_getD_getElem?.symm.trans h109
                have h111 : act.tmps.getD 111 undef = .string s := H 1 15 111 (by kernel_rfl) rfl
                have g111 := Array.getD_eq_getD_getElem?.symm.trans h111
                have h104 : act.tmps.getD 104 undef = .bool false := H 1 8 104 (by kernel_rfl) rfl
                have g104 := Array.getD_eq_getD_getElem?.symm.trans h104
                have k104 := Inv.some_bool g104
                clear H O
                obtain ⟨r0, r1, r2, rf⟩ := Blk.three (HGR.out.below hC HGR.out.lt)
                obtain ⟨a0, a1, a2, af⟩ := Blk.three (HACT.out.below hC HACT.out.lt)
                go_simp
                refine (RAt_at wa gr UX (pk) pe nx s (RX.out.below hC) ai HAI.out).mono ?_
                rintro e1 w1 ⟨rfl, rfl⟩
                exact hK _ _ (Below.refl _ _) (fun _ => rfl)
              · intro act wa hC hd H O K hK
                clear hd
                obtain hC := hC
                have h108 : act.tmps.getD 108 undef = .int .i64 ai := H 1 12 108 (by kernel_rfl) rfl
                have g108 := Array.getD_eq_getD_getElem?.symm.trans h108
                have h112 : act.tmps.getD 112 undef = .int .i64 ai := H 1 16 112 (by kernel_rfl) rfl
                have g112 := Array.getD_eq_getD_getElem?.symm.trans h112
                have h104 : act.tmps.getD 104 undef = .bool false := H 1 8 104 (by kernel_rfl) rfl
                have g104 := Array.getD_eq_getD_getElem?.symm.trans h104
                have k104 := Inv.some_bool g104
                clear H O
                obtain ⟨r0, r1, r2, rf⟩ := Blk.three (HGR.out.below hC HGR.out.lt)
                obtain ⟨a0, a1, a2, af⟩ := Blk.three (HACT.out.below hC HACT.out.lt)
                go_simp
                exact hK _ _ (Below.refl _ _) (fun _ => rfl)
              · intro act wa hC hd H O K hK
                clear hd
                obtain hC := hC
                have h104 : act.tmps.getD 104 undef = .bool false := H 1 8 104 (by kernel_rfl) rfl
                have g104 := Array.getD_eq_getD_getElem?.symm.trans h104
                have h113 : act.tmps.getD 113 undef = .bool false := H 1 17 113 (by kernel_rfl) rfl
                have g113 := Array.getD_eq_getD_getElem?.symm.trans h113
                clear H O
                obtain ⟨r0, r1, r2, rf⟩ := Blk.three (HGR.out.below hC HGR.out.lt)
                obtain ⟨a0, a1, a2, af⟩ := Blk.three (HACT.out.below hC HACT.out.lt)
                go_simp
                exact hK _ _ (Below.refl _ _) (fun _ => rfl)
            · intro us w' hC hF
              obtain hC := hC
              have u114 : us 114 = .bool false := hF 18 114 rfl
              clear hF
              simp only [List.foldl]
              go_simp
              have RR := Lib.hid (RREL.out _ hC)
              clear hC RREL
              go_wp2
              go_roundw
              case rel => exact RR.out
              case measure => simp [intOf]; have := HK.out; omega
          · have n11 : (d == 1) = false := by simp [hq1]
            have n12 : decide (d = 1) = false := by simp [hq1]
            by_cases hq2 : d = 2
            · subst hq2
              go_wp2_with fail
              refine (DReset_any _ g S ks e D4.out).mono ?_
              rintro en w5 ⟨rfl, SX, hd, hT⟩
              have D5 := Lib.hid hd; have AX := Lib.hid (hT.1.above B4.out.size A4.out); have B5 := Lib.hid (B4.out.trans (hT.2.to_below B4.out.size A4.out))
              have hact := hT.2.blk (Blk.new wr 52 #[.int .i64 2, .string s, .slice Ab lb cb]) (fun h => by have := HLT.out _ h; omega)
              have hal5 : Below w5.heap.size w5 (w5.alloc (.cells #[.slice none 0 0, .slice none 0 0, .int .i64 0] 50)) := (Below.refl _ _).alloc (Nat.le_refl _) _
              have HNX := Lib.hid (show 0 ≤ k + 1 by omega)
              have hrn := rdr_new w5
              obtain ⟨UX, hux⟩ : ∃ UX, (fun j => j = w5.heap.size) = UX := ⟨_, rfl⟩
              have hux2 : ∀ j, UX j → j = w5.heap.size := fun j hj => by rw [← hux] at hj; exact hj
              rw [hux] at hrn
              have RX := Lib.hid hrn; have AUX := Lib.hid (fun j (hj : UX j) => by have := hux2 j hj; have := B5.out.size; show w.heap.size ≤ j; omega); have BX := Lib.hid (B5.out.trans (hal5.mono B5.out.size))
              have DX := Lib.hid (D5.out.below hal5); have XX : Hid (Apart SX UX) := Lib.hid (fun j h1 h2 => by have := D5.out.lt j h1; have := hux2 j h2; omega)
              have HACT := Lib.hid (hact.below hal5 hact.lt)
              clear hd hT hact hal5 hrn hux hux2
              obtain ⟨nk, hnk⟩ : ∃ nk, (([] : List ByteArray)).length = nk := ⟨_, rfl⟩
              have hnk8 : nk ≤ 8 := by have := DX.out.ok.2.1; omega
              have HNK := Lib.hid hnk
              obtain ⟨ai, hai⟩ : ∃ ai, Dm.atD (([] : List ByteArray)) s = ai := ⟨_, rfl⟩
              have HAI := Lib.hid hai
              obtain ⟨wsX, ⟨A1, c1, A2, c2, q1, q2, q3, q4⟩, q5⟩ := id RX.out
              obtain ⟨A1', c1', hv, -, -, -, hr1, -⟩ := own_form q2
              injection hv with e1 _ e2
              subst e1 e2
              rw [hnk] at q1
              have HGR := Lib.hid q1; have R1 := Lib.hid hr1
              have RREL := Lib.hid (show ∀ w', Below (w5.alloc (.cells #[.slice none 0 0, .slice none 0 0, .int .i64 0] 50)).heap.size (w5.alloc (.cells #[.slice none 0 0, .slice none 0 0, .int .i64 0] 50)) w' → DoesRel w g ys (.pointer (some ⟨w5.heap.size, 0, none⟩)) (.int .i64 ((k : Int) + 1)) w' from fun w' hb => ⟨k + 1, w5.heap.size, SX, UX, (([] : List ByteArray)), 0, 0, by go_num, rfl, HK.out, DX.out.below hb, RX.out.below hb, HNX.out, XX.out, AX.out, AUX.out, BX.out.trans (hb.mono BX.out.size)⟩)
              clear hnk hai q1 q2 q3 q4 q5 hr1
              go_wp2
              refine Inv.region_below (fun i v w' => match i with
                  | 0 => v = .pointer (some ⟨g, 0, none⟩)
                  | 1 => ∃ Ak ck, v = .slice Ak nk ck ∧ Rd w' w'.heap.size Ak ((([] : List ByteArray)).map Value.string)
                  | 2 => v = .pointer (some ⟨w5.heap.size, 0, none⟩)
                  | 3 => v = .pointer (some ⟨w5.heap.size, 0, none⟩)
                  | 4 => v = .pointer (some ⟨w5.heap.size, 0, none⟩)
                  | 5 => v = .slice A1 nk c1
                  | 6 => v = .bool true
                  | 7 => v = .bool false
                  | 8 => v = .bool false
                  | 9 => v = .pointer (some ⟨g, 0, none⟩)
                  | 10 => v = .pointer (some ⟨wr.heap.size, 1, none⟩)
                  | 11 => v = .string s
                  | 12 => v = .int .i64 ai
                  | 13 => v = .pointer (some ⟨w5.heap.size, 0, none⟩)
                  | 14 => v = .pointer (some ⟨wr.heap.size, 1, none⟩)
                  | 15 => v = .string s
                  | 16 => v = .int .i64 ai
                  | 17 => v = .bool false
                  | 18 => v = .bool false
                  | _ => True)
                (fun w' => Below (w5.alloc (.cells #[.slice none 0 0, .slice none 0 0, .int .i64 0] 50)).heap.size (w5.alloc (.cells #[.slice none 0 0, .slice none 0 0, .int .i64 0] 50)) w') 116 [96, 97, 98, 99, 100, 101, 102, 103, 104, 105, 106, 107, 108, 109, 110, 111, 112, 113, 114] (by kernel_rfl) rfl (by kernel_rfl) (by kernel_rfl) ?_ ?_ ?_ ?_
              · intro v v' hC hb
                obtain hC := hC
                exact hC.trans (hb.mono hC.size)
              · exact (Below.refl _ _).drew
              · refine ⟨⟨fun _ _ _ h _ => h, ?_⟩, ⟨fun v w w' ⟨Ak, ck, h1, h2⟩ hb => ⟨Ak, ck, h1, (h2.below hb).more hb.size⟩, ?_⟩, ⟨fun _ _ _ h _ => h, ?_⟩, ⟨fun _ _ _ h _ => h, ?_⟩, ⟨fun _ _ _ h _ => h, ?_⟩, ⟨fun _ _ _ h _ => h, ?_⟩, ⟨fun _ _ _ h _ => h, ?_⟩, ⟨fun _ _ _ h _ => h, ?_⟩, ⟨fun _ _ _ h _ => h, ?_⟩, ⟨fun _ _ _ h _ => h, ?_⟩, ⟨fun _ _ _ h _ => h, ?_⟩, ⟨fun _ _ _ h _ => h, ?_⟩, ⟨fun _ _ _ h _ => h, ?_⟩, ⟨fun _ _ _ h _ => h, ?_⟩, ⟨fun _ _ _ h _ => h, ?_⟩, ⟨fun _ _ _ h _ => h, ?_⟩, ⟨fun _ _ _ h _ => h, ?_⟩, ⟨fun _ _ _ h _ => h, ?_⟩, ⟨fun _ _ _ h _ => h, ?_⟩, trivial⟩
                · intro act wa hC hd H O K hK
                  clear hd
                  obtain hC := hC
                  have h3 := O 3 (by kernel_rfl)
                  have g3 := Array.getD_eq_getD_getElem?.symm.trans h3
                  clear H O
                  obtain ⟨r0, r1, r2, rf⟩ := Blk.three (HGR.out.below hC HGR.out.lt)
                  obtain ⟨a0, a1, a2, af⟩ := Blk.three (HACT.out.below hC HACT.out.lt)
                  go_simp
                  exact hK _ _ (Below.refl _ _) (fun _ => rfl)
                · intro act wa hC hd H O K hK
                  clear hd
                  obtain hC := hC
                  have h96 : act.tmps.getD 96 undef = .pointer (some ⟨g, 0, none⟩) := H 1 0 96 (by kernel_rfl) rfl
                  have g96 := Array.getD_eq_getD_getElem?.symm.trans h96
                  clear H O
                  obtain ⟨r0, r1, r2, rf⟩ := Blk.three (HGR.out.below hC HGR.out.lt)
                  obtain ⟨a0, a1, a2, af⟩ := Blk.three (HACT.out.below hC HACT.out.lt)
                  go_simp
                  refine (DKeys_at wa g SX (([] : List ByteArray)) 0 (DX.out.below hC) nk HNK.out).mono ?_
                  rintro e1 w1 ⟨Ak, ck, rfl, hrk, -, -, -, hb⟩
                  exact hK _ _ hb (fun _ => ⟨Ak, ck, rfl, hrk⟩)
                · intro act wa hC hd H O K hK
                  clear hd
                  obtain hC := hC
                  have h4 := O 4 (by kernel_rfl)
                  have g4 := Array.getD_eq_getD_getElem?.symm.trans h4
                  clear H O
                  obtain ⟨r0, r1, r2, rf⟩ := Blk.three (HGR.out.below hC HGR.out.lt)
                  obtain ⟨a0, a1, a2, af⟩ := Blk.three (HACT.out.below hC HACT.out.lt)
                  go_simp
                  exact hK _ _ (Below.refl _ _) (fun _ => rfl)
                · intro act wa hC hd H O K hK
                  clear hd
                  obtain hC := hC
                  have h98 : act.tmps.getD 98 undef = .pointer (some ⟨w5.heap.size, 0, none⟩) := H 1 2 98 (by kernel_rfl) rfl
                  have g98 := Array.getD_eq_getD_getElem?.symm.trans h98
                  clear H O
                  obtain ⟨r0, r1, r2, rf⟩ := Blk.three (HGR.out.below hC HGR.out.lt)
                  obtain ⟨a0, a1, a2, af⟩ := Blk.three (HACT.out.below hC HACT.out.lt)
                  go_simp
                  exact hK _ _ (Below.refl _ _) (fun _ => rfl)
                · intro act wa hC hd H O K hK
                  clear hd
                  obtain hC := hC
                  have h99 : act.tmps.getD 99 undef = .pointer (some ⟨w5.heap.size, 0, none⟩) := H 1 3 99 (by kernel_rfl) rfl
                  have g99 := Array.getD_eq_getD_getElem?.symm.trans h99
                  clear H O
                  obtain ⟨r0, r1, r2, rf⟩ := Blk.three (HGR.out.below hC HGR.out.lt)
                  obtain ⟨a0, a1, a2, af⟩ := Blk.three (HACT.out.below hC HACT.out.lt)
                  go_simp
                  exact hK _ _ (Below.refl _ _) (fun _ => rfl)
                · intro act wa hC hd H O K hK
                  clear hd
                  obtain hC := hC
                  have h100 : act.tmps.getD 100 undef = .pointer (some ⟨w5.heap.size, 0, none⟩) := H 1 4 100 (by kernel_rfl) rfl
                  have g100 := Array.getD_eq_getD_getElem?.symm.trans h100
                  clear H O
                  obtain ⟨r0, r1, r2, rf⟩ := Blk.three (HGR.out.below hC HGR.out.lt)
                  obtain ⟨a0, a1, a2, af⟩ := Blk.three (HACT.out.below hC HACT.out.lt)
                  go_simp
                  exact hK _ _ (Below.refl _ _) (fun _ => rfl)
                · intro act wa hC hd H O K hK
                  clear hd
                  obtain hC := hC
                  have h97 : ∃ Ak ck, act.tmps.getD 97 undef = .slice Ak nk ck ∧ Rd wa wa.heap.size Ak ((([] : List ByteArray)).map Value.string) := H 1 1 97 (by kernel_rfl) rfl
                  obtain ⟨Ak, ck, h97, hrk⟩ := h97
                  have h101 : act.tmps.getD 101 undef = .slice A1 nk c1 := H 1 5 101 (by kernel_rfl) rfl
                  have g101 := Array.getD_eq_getD_getElem?.symm.trans h101
                  clear H O
                  obtain ⟨r0, r1, r2, rf⟩ := Blk.three (HGR.out.below hC HGR.out.lt)
                  obtain ⟨a0, a1, a2, af⟩ := Blk.three (HACT.out.below hC HACT.out.lt)
                  have g97 := Array.getD_eq_getD_getElem?.symm.trans h97
                  go_simp
                  refine (SSame_true wa Ak A1 ck c1 nk (([] : List ByteArray)) _ _ hrk (R1.out.below hC) HNK.out (by omega)).mono ?_
                  rintro e1 w1 ⟨rfl, q, hq⟩
                  have hb : Below wa.heap.size wa w1 := by rw [hq]; exact below_drewN (Below.refl _ _) q
                  exact hK _ _ hb (fun _ => rfl)
                · intro act wa hC hd H O K hK
                  clear hd
                  obtain hC := hC
                  have h102 : act.tmps.getD 102 undef = .bool true := H 1 6 102 (by kernel_rfl) rfl
                  have g102 := Array.getD_eq_getD_getElem?.symm.trans h102
                  clear H O
                  obtain ⟨r0, r1, r2, rf⟩ := Blk.three (HGR.out.below hC HGR.out.lt)
                  obtain ⟨a0, a1, a2, af⟩ := Blk.three (HACT.out.below hC HACT.out.lt)
                  go_simp
                  exact hK _ _ (Below.refl _ _) (fun _ => rfl)
                · intro act wa hC hd H O K hK
                  clear hd
                  obtain hC := hC
                  have h103 : act.tmps.getD 103 undef = .bool false := H 1 7 103 (by kernel_rfl) rfl
                  have g103 := Array.getD_eq_getD_getElem?.symm.trans h103
                  clear H O
                  obtain ⟨r0, r1, r2, rf⟩ := Blk.three (HGR.out.below hC HGR.out.lt)
                  obtain ⟨a0, a1, a2, af⟩ := Blk.three (HACT.out.below hC HACT.out.lt)
                  go_simp
                  exact hK _ _ (Below.refl _ _) (fun _ => rfl)
                · intro act wa hC hd H O K hK
                  clear hd
                  obtain hC := hC
                  have h3 := O 3 (by kernel_rfl)
                  have g3 := Array.getD_eq_getD_getElem?.symm.trans h3
                  have h104 : act.tmps.getD 104 undef = .bool false := H 1 8 104 (by kernel_rfl) rfl
                  have g104 := Array.getD_eq_getD_getElem?.symm.trans h104
                  have k104 := Inv.some_bool g104
                  clear H O
                  obtain ⟨r0, r1, r2, rf⟩ := Blk.three (HGR.out.below hC HGR.out.lt)
                  obtain ⟨a0, a1, a2, af⟩ := Blk.three (HACT.out.below hC HACT.out.lt)
                  go_simp
                  exact hK _ _ (Below.refl _ _) (fun _ => rfl)
                · intro act wa hC hd H O K hK
                  clear hd
                  obtain hC := hC
                  have h6 := O 6 (by kernel_rfl)
                  have g6 := Array.getD_eq_getD_getElem?.symm.trans h6
                  have h104 : act.tmps.getD 104 undef = .bool false := H 1 8 104 (by kernel_rfl) rfl
                  have g104 := Array.getD_eq_getD_getElem?.symm.trans h104
                  have k104 := Inv.some_bool g104
                  clear H O
                  obtain ⟨r0, r1, r2, rf⟩ := Blk.three (HGR.out.below hC HGR.out.lt)
                  obtain ⟨a0, a1, a2, af⟩ := Blk.three (HACT.out.below hC HACT.out.lt)
                  go_simp
                  exact hK _ _ (Below.refl _ _) (fun _ => rfl)
                · intro act wa hC hd H O K hK
                  clear hd
                  obtain hC := hC
                  have h106 : act.tmps.getD 106 undef = .pointer (some ⟨wr.heap.size, 1, none⟩) := H 1 10 106 (by kernel_rfl) rfl
                  have g106 := Array.getD_eq_getD_getElem?.symm.trans h106
                  have h104 : act.tmps.getD 104 undef = .bool false := H 1 8 104 (by kernel_rfl) rfl
                  have g104 := Array.getD_eq_getD_getElem?.symm.trans h104
                  have k104 := Inv.some_bool g104
                  clear H O
                  obtain ⟨r0, r1, r2, rf⟩ := Blk.three (HGR.out.below hC HGR.out.lt)
                  obtain ⟨a0, a1, a2, af⟩ := Blk.three (HACT.out.below hC HACT.out.lt)
                  go_simp
                  exact hK _ _ (Below.refl _ _) (fun _ => rfl)
                · intro act wa hC hd H O K hK
                  clear hd
                  obtain hC := hC
                  have h105 : act.tmps.getD 105 undef = .pointer (some ⟨g, 0, none⟩) := H 1 9 105 (by kernel_rfl) rfl
                  have g105 := Array.getD_eq_getD_getElem?.symm.trans h105
                  have h107 : act.tmps.getD 107 undef = .string s := H 1 11 107 (by kernel_rfl) rfl
                  have g107 := Array.getD_eq_getD_getElem?.symm.trans h107
                  have h104 : act.tmps.getD 104 undef = .bool false := H 1 8 104 (by kernel_rfl) rfl
                  have g104 := Array.getD_eq_getD_getElem?.symm.trans h104
                  have k104 := Inv.some_bool g104
                  clear H O
                  obtain ⟨r0, r1, r2, rf⟩ := Blk.three (HGR.out.below hC HGR.out.lt)
                  obtain ⟨a0, a1, a2, af⟩ := Blk.three (HACT.out.below hC HACT.out.lt)
                  go_simp
                  refine (DAt_at wa g SX (([] : List ByteArray)) 0 s HSM.out (DX.out.below hC) ai HAI.out).mono ?_
                  rintro e1 w1 ⟨rfl, rfl⟩
                  exact hK _ _ (Below.refl _ _) (fun _ => rfl)
                · intro act wa hC hd H O K hK
                  clear hd
                  obtain hC := hC
                  have h4 := O 4 (by kernel_rfl)
                  have g4 := Array.getD_eq_getD_getElem?.symm.trans h4
                  have h104 : act.tmps.getD 104 undef = .bool false := H 1 8 104 (by kernel_rfl) rfl
                  have g104 := Array.getD_eq_getD_getElem?.symm.trans h104
                  have k104 := Inv.some_bool g104
                  clear H O
                  obtain ⟨r0, r1, r2, rf⟩ := Blk.three (HGR.out.below hC HGR.out.lt)
                  obtain ⟨a0, a1, a2, af⟩ := Blk.three (HACT.out.below hC HACT.out.lt)
                  go_simp
                  exact hK _ _ (Below.refl _ _) (fun _ => rfl)
                · intro act wa hC hd H O K hK
                  clear hd
                  obtain hC := hC
                  have h6 := O 6 (by kernel_rfl)
                  have g6 := Array.getD_eq_getD_getElem?.symm.trans h6
                  have h104 : act.tmps.getD 104 undef = .bool false := H 1 8 104 (by kernel_rfl) rfl
                  have g104 := Array.getD_eq_getD_getElem?.symm.trans h104
                  have k104 := Inv.some_bool g104
                  clear H O
                  obtain ⟨r0, r1, r2, rf⟩ := Blk.three (HGR.out.below hC HGR.out.lt)
                  obtain ⟨a0, a1, a2, af⟩ := Blk.three (HACT.out.below hC HACT.out.lt)
                  go_simp
                  exact hK _ _ (Below.refl _ _) (fun _ => rfl)
                · intro act wa hC hd H O K hK
                  clear hd
                  obtain hC := hC
                  have h110 : act.tmps.getD 110 undef = .pointer (some ⟨wr.heap.size, 1, none⟩) := H 1 14 110 (by kernel_rfl) rfl
                  have g110 := Array.getD_eq_getD_getElem?.symm.trans h110
                  have h104 : act.tmps.getD 104 undef = .bool false := H 1 8 104 (by kernel_rfl) rfl
                  have g104 := Array.getD_eq_getD_getElem?.symm.trans h104
                  have k104 := Inv.some_bool g104
                  clear H O
                  obtain ⟨r0, r1, r2, rf⟩ := Blk.three (HGR.out.below hC HGR.out.lt)
                  obtain ⟨a0, a1, a2, af⟩ := Blk.three (HACT.out.below hC HACT.out.lt)
                  go_simp
                  exact hK _ _ (Below.refl _ _) (fun _ => rfl)
                · intro act wa hC hd H O K hK
                  clear hd
                  obtain hC := hC
                  have h109 : act.tmps.getD 109 undef = .pointer (some ⟨w5.heap.size, 0, none⟩) := H 1 13 109 (by kernel_rfl) rfl
                  have g109 := Array.getD_eq_getD_getElem?.symm.trans h109
                  have h111 : act.tmps.getD 111 undef = .string s := H 1 15 111 (by kernel_rfl) rfl
                  have g111 := Array.getD_eq_getD_getElem?.symm.trans h111
                  have h104 : act.tmps.getD 104 undef = .bool false := H 1 8 104 (by kernel_rfl) rfl
                  have g104 := Array.getD_eq_getD_getElem?.symm.trans h104
                  have k104 := Inv.some_bool g104
                  clear H O
                  obtain ⟨r0, r1, r2, rf⟩ := Blk.three (HGR.out.below hC HGR.out.lt)
                  obtain ⟨a0, a1, a2, af⟩ := Blk.three (HACT.out.below hC HACT.out.lt)
                  go_simp
                  refine (RAt_at wa w5.heap.size UX (([] : List ByteArray)) 0 0 s (RX.out.below hC) ai HAI.out).mono ?_
                  rintro e1 w1 ⟨rfl, rfl⟩
                  exact hK _ _ (Below.refl _ _) (fun _ => rfl)
                · intro act wa hC hd H O K hK
                  clear hd
                  obtain hC := hC
                  have h108 : act.tmps.getD 108 undef = .int .i64 ai := H 1 12 108 (by kernel_rfl) rfl
                  have g108 := Array.getD_eq_getD_getElem?.symm.trans h108
                  have h112 : act.tmps.getD 112 undef = .int .i64 ai := H 1 16 112 (by kernel_rfl) rfl
                  have g112 := Array.getD_eq_getD_getElem?.symm.trans h112
                  have h104 : act.tmps.getD 104 undef = .bool false := H 1 8 104 (by kernel_rfl) rfl
                  have g104 := Array.getD_eq_getD_getElem?.symm.trans h104
                  have k104 := Inv.some_bool g104
                  clear H O
                  obtain ⟨r0, r1, r2, rf⟩ := Blk.three (HGR.out.below hC HGR.out.lt)
                  obtain ⟨a0, a1, a2, af⟩ := Blk.three (HACT.out.below hC HACT.out.lt)
                  go_simp
                  exact hK _ _ (Below.refl _ _) (fun _ => rfl)
                · intro act wa hC hd H O K hK
                  clear hd
                  obtain hC := hC
                  have h104 : act.tmps.getD 104 undef = .bool false := H 1 8 104 (by kernel_rfl) rfl
                  have g104 := Array.getD_eq_getD_getElem?.symm.trans h104
                  have h113 : act.tmps.getD 113 undef = .bool false := H 1 17 113 (by kernel_rfl) rfl
                  have g113 := Array.getD_eq_getD_getElem?.symm.trans h113
                  clear H O
                  obtain ⟨r0, r1, r2, rf⟩ := Blk.three (HGR.out.below hC HGR.out.lt)
                  obtain ⟨a0, a1, a2, af⟩ := Blk.three (HACT.out.below hC HACT.out.lt)
                  go_simp
                  exact hK _ _ (Below.refl _ _) (fun _ => rfl)
              · intro us w' hC hF
                obtain hC := hC
                have u114 : us 114 = .bool false := hF 18 114 rfl
                clear hF
                simp only [List.foldl]
                go_simp
                have RR := Lib.hid (RREL.out _ hC)
                clear hC RREL
                go_wp2
                go_roundw
                case rel => exact RR.out
                case measure => simp [intOf]; have := HK.out; omega
            · have n21 : (d == 2) = false := by simp [hq2]
              have n22 : decide (d = 2) = false := by simp [hq2]
              have DX := D4; have AX := A4; have BX := B4; have RX := R4; have XX := X4; have AUX := AU4
              have HNX := Lib.hid (show now ≤ k + 1 by omega)
              have HACT := Lib.hid (Blk.new wr 52 #[.int .i64 d, .string s, .slice Ab lb cb])
              obtain ⟨nk, hnk⟩ : ∃ nk, (ks).length = nk := ⟨_, rfl⟩
              have hnk8 : nk ≤ 8 := by have := DX.out.ok.2.1; omega
              have HNK := Lib.hid hnk
              obtain ⟨ai, hai⟩ : ∃ ai, Dm.atD (ks) s = ai := ⟨_, rfl⟩
              have HAI := Lib.hid hai
              obtain ⟨wsX, ⟨A1, c1, A2, c2, q1, q2, q3, q4⟩, q5⟩ := id RX.out
              obtain ⟨A1', c1', hv, -, -, -, hr1, -⟩ := own_form q2
              injection hv with e1 _ e2
              subst e1 e2
              rw [hnk] at q1
              have HGR := Lib.hid q1; have R1 := Lib.hid hr1
              have RREL := Lib.hid (show ∀ w', Below (wr.alloc (.cells #[.int .i64 d, .string s, .slice Ab lb cb] 52)).heap.size (wr.alloc (.cells #[.int .i64 d, .string s, .slice Ab lb cb] 52)) w' → DoesRel w g ys (.pointer (some ⟨gr, 0, none⟩)) (.int .i64 ((k : Int) + 1)) w' from fun w' hb => ⟨k + 1, gr, S, U, (ks), e, now, by go_num, rfl, HK.out, DX.out.below hb, RX.out.below hb, HNX.out, XX.out, AX.out, AUX.out, BX.out.trans (hb.mono BX.out.size)⟩)
              clear hnk hai q1 q2 q3 q4 q5 hr1
              go_wp2
              refine Inv.region_below (fun i v w' => match i with
                  | 0 => v = .pointer (some ⟨g, 0, none⟩)
                  | 1 => ∃ Ak ck, v = .slice Ak nk ck ∧ Rd w' w'.heap.size Ak ((ks).map Value.string)
                  | 2 => v = .pointer (some ⟨gr, 0, none⟩)
                  | 3 => v = .pointer (some ⟨gr, 0, none⟩)
                  | 4 => v = .pointer (some ⟨gr, 0, none⟩)
                  | 5 => v = .slice A1 nk c1
                  | 6 => v = .bool true
                  | 7 => v = .bool false
                  | 8 => v = .bool false
                  | 9 => v = .pointer (some ⟨g, 0, none⟩)
                  | 10 => v = .pointer (some ⟨wr.heap.size, 1, none⟩)
                  | 11 => v = .string s
                  | 12 => v = .int .i64 ai
                  | 13 => v = .pointer (some ⟨gr, 0, none⟩)
                  | 14 => v = .pointer (some ⟨wr.heap.size, 1, none⟩)
                  | 15 => v = .string s
                  | 16 => v = .int .i64 ai
                  | 17 => v = .bool false
                  | 18 => v = .bool false
                  | _ => True)
                (fun w' => Below (wr.alloc (.cells #[.int .i64 d, .string s, .slice Ab lb cb] 52)).heap.size (wr.alloc (.cells #[.int .i64 d, .string s, .slice Ab lb cb] 52)) w') 116 [96, 97, 98, 99, 100, 101, 102, 103, 104, 105, 106, 107, 108, 109, 110, 111, 112, 113, 114] (by kernel_rfl) rfl (by kernel_rfl) (by kernel_rfl) ?_ ?_ ?_ ?_
              · intro v v' hC hb
                obtain hC := hC
                exact hC.trans (hb.mono hC.size)
              · exact (Below.refl _ _).drew
              · refine ⟨⟨fun _ _ _ h _ => h, ?_⟩, ⟨fun v w w' ⟨Ak, ck, h1, h2⟩ hb => ⟨Ak, ck, h1, (h2.below hb).more hb.size⟩, ?_⟩, ⟨fun _ _ _ h _ => h, ?_⟩, ⟨fun _ _ _ h _ => h, ?_⟩, ⟨fun _ _ _ h _ => h, ?_⟩, ⟨fun _ _ _ h _ => h, ?_⟩, ⟨fun _ _ _ h _ => h, ?_⟩, ⟨fun _ _ _ h _ => h, ?_⟩, ⟨fun _ _ _ h _ => h, ?_⟩, ⟨fun _ _ _ h _ => h, ?_⟩, ⟨fun _ _ _ h _ => h, ?_⟩, ⟨fun _ _ _ h _ => h, ?_⟩, ⟨fun _ _ _ h _ => h, ?_⟩, ⟨fun _ _ _ h _ => h, ?_⟩, ⟨fun _ _ _ h _ => h, ?_⟩, ⟨fun _ _ _ h _ => h, ?_⟩, ⟨fun _ _ _ h _ => h, ?_⟩, ⟨fun _ _ _ h _ => h, ?_⟩, ⟨fun _ _ _ h _ => h, ?_⟩, trivial⟩
                · intro act wa hC hd H O K hK
                  clear hd
                  obtain hC := hC
                  have h3 := O 3 (by kernel_rfl)
                  have g3 := Array.getD_eq_getD_getElem?.symm.trans h3
                  clear H O
                  obtain ⟨r0, r1, r2, rf⟩ := Blk.three (HGR.out.below hC HGR.out.lt)
                  obtain ⟨a0, a1, a2, af⟩ := Blk.three (HACT.out.below hC HACT.out.lt)
                  go_simp
                  exact hK _ _ (Below.refl _ _) (fun _ => rfl)
                · intro act wa hC hd H O K hK
                  clear hd
                  obtain hC := hC
                  have h96 : act.tmps.getD 96 undef = .pointer (some ⟨g, 0, none⟩) := H 1 0 96 (by kernel_rfl) rfl
                  have g96 := Array.getD_eq_getD_getElem?.symm.trans h96
                  clear H O
                  obtain ⟨r0, r1, r2, rf⟩ := Blk.three (HGR.out.below hC HGR.out.lt)
                  obtain ⟨a0, a1, a2, af⟩ := Blk.three (HACT.out.below hC HACT.out.lt)
                  go_simp
                  refine (DKeys_at wa g S (ks) e (DX.out.below hC) nk HNK.out).mono ?_
                  rintro e1 w1 ⟨Ak, ck, rfl, hrk, -, -, -, hb⟩
                  exact hK _ _ hb (fun _ => ⟨Ak, ck, rfl, hrk⟩)
                · intro act wa hC hd H O K hK
                  clear hd
                  obtain hC := hC
                  have h4 := O 4 (by kernel_rfl)
                  have g4 := Array.getD_eq_getD_getElem?.symm.trans h4
                  clear H O
                  obtain ⟨r0, r1, r2, rf⟩ := Blk.three (HGR.out.below hC HGR.out.lt)
                  obtain ⟨a0, a1, a2, af⟩ := Blk.three (HACT.out.below hC HACT.out.lt)
                  go_simp
                  exact hK _ _ (Below.refl _ _) (fun _ => rfl)
                · intro act wa hC hd H O K hK
                  clear hd
                  obtain hC := hC
                  have h98 : act.tmps.getD 98 undef = .pointer (some ⟨gr, 0, none⟩) := H 1 2 98 (by kernel_rfl) rfl
                  have g98 := Array.getD_eq_getD_getElem?.symm.trans h98
                  clear H O
                  obtain ⟨r0, r1, r2, rf⟩ := Blk.three (HGR.out.below hC HGR.out.lt)
                  obtain ⟨a0, a1, a2, af⟩ := Blk.three (HACT.out.below hC HACT.out.lt)
                  go_simp
                  exact hK _ _ (Below.refl _ _) (fun _ => rfl)
                · intro act wa hC hd H O K hK
                  clear hd
                  obtain hC := hC
                  have h99 : act.tmps.getD 99 undef = .pointer (some ⟨gr, 0, none⟩) := H 1 3 99 (by kernel_rfl) rfl
                  have g99 := Array.getD_eq_getD_getElem?.symm.trans h99
                  clear H O
                  obtain ⟨r0, r1, r2, rf⟩ := Blk.three (HGR.out.below hC HGR.out.lt)
                  obtain ⟨a0, a1, a2, af⟩ := Blk.three (HACT.out.below hC HACT.out.lt)
                  go_simp
                  exact hK _ _ (Below.refl _ _) (fun _ => rfl)
                · intro act wa hC hd H O K hK
                  clear hd
                  obtain hC := hC
                  have h100 : act.tmps.getD 100 undef = .pointer (some ⟨gr, 0, none⟩) := H 1 4 100 (by kernel_rfl) rfl
                  have g100 := Array.getD_eq_getD_getElem?.symm.trans h100
                  clear H O
                  obtain ⟨r0, r1, r2, rf⟩ := Blk.three (HGR.out.below hC HGR.out.lt)
                  obtain ⟨a0, a1, a2, af⟩ := Blk.three (HACT.out.below hC HACT.out.lt)
                  go_simp
                  exact hK _ _ (Below.refl _ _) (fun _ => rfl)
                · intro act wa hC hd H O K hK
                  clear hd
                  obtain hC := hC
                  have h97 : ∃ Ak ck, act.tmps.getD 97 undef = .slice Ak nk ck ∧ Rd wa wa.heap.size Ak ((ks).map Value.string) := H 1 1 97 (by kernel_rfl) rfl
                  obtain ⟨Ak, ck, h97, hrk⟩ := h97
                  have h101 : act.tmps.getD 101 undef = .slice A1 nk c1 := H 1 5 101 (by kernel_rfl) rfl
                  have g101 := Array.getD_eq_getD_getElem?.symm.trans h101
                  clear H O
                  obtain ⟨r0, r1, r2, rf⟩ := Blk.three (HGR.out.below hC HGR.out.lt)
                  obtain ⟨a0, a1, a2, af⟩ := Blk.three (HACT.out.below hC HACT.out.lt)
                  have g97 := Array.getD_eq_getD_getElem?.symm.trans h97
                  go_simp
                  refine (SSame_true wa Ak A1 ck c1 nk (ks) _ _ hrk (R1.out.below hC) HNK.out (by omega)).mono ?_
                  rintro e1 w1 ⟨rfl, q, hq⟩
                  have hb : Below wa.heap.size wa w1 := by rw [hq]; exact below_drewN (Below.refl _ _) q
                  exact hK _ _ hb (fun _ => rfl)
                · intro act wa hC hd H O K hK
                  clear hd
                  obtain hC := hC
                  have h102 : act.tmps.getD 102 undef = .bool true := H 1 6 102 (by kernel_rfl) rfl
                  have g102 := Array.getD_eq_getD_getElem?.symm.trans h102
                  clear H O
                  obtain ⟨r0, r1, r2, rf⟩ := Blk.three (HGR.out.below hC HGR.out.lt)
                  obtain ⟨a0, a1, a2, af⟩ := Blk.three (HACT.out.below hC HACT.out.lt)
                  go_simp
                  exact hK _ _ (Below.refl _ _) (fun _ => rfl)
                · intro act wa hC hd H O K hK
                  clear hd
                  obtain hC := hC
                  have h103 : act.tmps.getD 103 undef = .bool false := H 1 7 103 (by kernel_rfl) rfl
                  have g103 := Array.getD_eq_getD_getElem?.symm.trans h103
                  clear H O
                  obtain ⟨r0, r1, r2, rf⟩ := Blk.three (HGR.out.below hC HGR.out.lt)
                  obtain ⟨a0, a1, a2, af⟩ := Blk.three (HACT.out.below hC HACT.out.lt)
                  go_simp
                  exact hK _ _ (Below.refl _ _) (fun _ => rfl)
                · intro act wa hC hd H O K hK
                  clear hd
                  obtain hC := hC
                  have h3 := O 3 (by kernel_rfl)
                  have g3 := Array.getD_eq_getD_getElem?.symm.trans h3
                  have h104 : act.tmps.getD 104 undef = .bool false := H 1 8 104 (by kernel_rfl) rfl
                  have g104 := Array.getD_eq_getD_getElem?.symm.trans h104
                  have k104 := Inv.some_bool g104
                  clear H O
                  obtain ⟨r0, r1, r2, rf⟩ := Blk.three (HGR.out.below hC HGR.out.lt)
                  obtain ⟨a0, a1, a2, af⟩ := Blk.three (HACT.out.below hC HACT.out.lt)
                  go_simp
                  exact hK _ _ (Below.refl _ _) (fun _ => rfl)
                · intro act wa hC hd H O K hK
                  clear hd
                  obtain hC := hC
                  have h6 := O 6 (by kernel_rfl)
                  have g6 := Array.getD_eq_getD_getElem?.symm.trans h6
                  have h104 : act.tmps.getD 104 undef = .bool false := H 1 8 104 (by kernel_rfl) rfl
                  have g104 := Array.getD_eq_getD_getElem?.symm.trans h104
                  have k104 := Inv.some_bool g104
                  clear H O
                  obtain ⟨r0, r1, r2, rf⟩ := Blk.three (HGR.out.below hC HGR.out.lt)
                  obtain ⟨a0, a1, a2, af⟩ := Blk.three (HACT.out.below hC HACT.out.lt)
                  go_simp
                  exact hK _ _ (Below.refl _ _) (fun _ => rfl)
                · intro act wa hC hd H O K hK
                  clear hd
                  obtain hC := hC
                  have h106 : act.tmps.getD 106 undef = .pointer (some ⟨wr.heap.size, 1, none⟩) := H 1 10 106 (by kernel_rfl) rfl
                  have g106 := Array.getD_eq_getD_getElem?.symm.trans h106
                  have h104 : act.tmps.getD 104 undef = .bool false := H 1 8 104 (by kernel_rfl) rfl
                  have g104 := Array.getD_eq_getD_getElem?.symm.trans h104
                  have k104 := Inv.some_bool g104
                  clear H O
                  obtain ⟨r0, r1, r2, rf⟩ := Blk.three (HGR.out.below hC HGR.out.lt)
                  obtain ⟨a0, a1, a2, af⟩ := Blk.three (HACT.out.below hC HACT.out.lt)
                  go_simp
                  exact hK _ _ (Below.refl _ _) (fun _ => rfl)
                · intro act wa hC hd H O K hK
                  clear hd
                  obtain hC := hC
                  have h105 : act.tmps.getD 105 undef = .pointer (some ⟨g, 0, none⟩) := H 1 9 105 (by kernel_rfl) rfl
                  have g105 := Array.getD_eq_getD_getElem?.symm.trans h105
                  have h107 : act.tmps.getD 107 undef = .string s := H 1 11 107 (by kernel_rfl) rfl
                  have g107 := Array.getD_eq_getD_getElem?.symm.trans h107
                  have h104 : act.tmps.getD 104 undef = .bool false := H 1 8 104 (by kernel_rfl) rfl
                  have g104 := Array.getD_eq_getD_getElem?.symm.trans h104
                  have k104 := Inv.some_bool g104
                  clear H O
                  obtain ⟨r0, r1, r2, rf⟩ := Blk.three (HGR.out.below hC HGR.out.lt)
                  obtain ⟨a0, a1, a2, af⟩ := Blk.three (HACT.out.below hC HACT.out.lt)
                  go_simp
                  refine (DAt_at wa g S (ks) e s HSM.out (DX.out.below hC) ai HAI.out).mono ?_
                  rintro e1 w1 ⟨rfl, rfl⟩
                  exact hK _ _ (Below.refl _ _) (fun _ => rfl)
                · intro act wa hC hd H O K hK
                  clear hd
                  obtain hC := hC
                  have h4 := O 4 (by kernel_rfl)
                  have g4 := Array.getD_eq_getD_getElem?.symm.trans h4
                  have h104 : act.tmps.getD 104 undef = .bool false := H 1 8 104 (by kernel_rfl) rfl
                  have g104 := Array.getD_eq_getD_getElem?.symm.trans h104
                  have k104 := Inv.some_bool g104
                  clear H O
                  obtain ⟨r0, r1, r2, rf⟩ := Blk.three (HGR.out.below hC HGR.out.lt)
                  obtain ⟨a0, a1, a2, af⟩ := Blk.three (HACT.out.below hC HACT.out.lt)
                  go_simp
                  exact hK _ _ (Below.refl _ _) (fun _ => rfl)
                · intro act wa hC hd H O K hK
                  clear hd
                  obtain hC := hC
                  have h6 := O 6 (by kernel_rfl)
                  have g6 := Array.getD_eq_getD_getElem?.symm.trans h6
                  have h104 : act.tmps.getD 104 undef = .bool false := H 1 8 104 (by kernel_rfl) rfl
                  have g104 := Array.getD_eq_getD_getElem?.symm.trans h104
                  have k104 := Inv.some_bool g104
                  clear H O
                  obtain ⟨r0, r1, r2, rf⟩ := Blk.three (HGR.out.below hC HGR.out.lt)
                  obtain ⟨a0, a1, a2, af⟩ := Blk.three (HACT.out.below hC HACT.out.lt)
                  go_simp
                  exact hK _ _ (Below.refl _ _) (fun _ => rfl)
                · intro act wa hC hd H O K hK
                  clear hd
                  obtain hC := hC
                  have h110 : act.tmps.getD 110 undef = .pointer (some ⟨wr.heap.size, 1, none⟩) := H 1 14 110 (by kernel_rfl) rfl
                  have g110 := Array.getD_eq_getD_getElem?.symm.trans h110
                  have h104 : act.tmps.getD 104 undef = .bool false := H 1 8 104 (by kernel_rfl) rfl
                  have g104 := Array.getD_eq_getD_getElem?.symm.trans h104
                  have k104 := Inv.some_bool g104
                  clear H O
                  obtain ⟨r0, r1, r2, rf⟩ := Blk.three (HGR.out.below hC HGR.out.lt)
                  obtain ⟨a0, a1, a2, af⟩ := Blk.three (HACT.out.below hC HACT.out.lt)
                  go_simp
                  exact hK _ _ (Below.refl _ _) (fun _ => rfl)
                · intro act wa hC hd H O K hK
                  clear hd
                  obtain hC := hC
                  have h109 : act.tmps.getD 109 undef = .pointer (some ⟨gr, 0, none⟩) := H 1 13 109 (by kernel_rfl) rfl
                  have g109 := Array.getD_eq_getD_getElem?.symm.trans h109
                  have h111 : act.tmps.getD 111 undef = .string s := H 1 15 111 (by kernel_rfl) rfl
                  have g111 := Array.getD_eq_getD_getElem?.symm.trans h111
                  have h104 : act.tmps.getD 104 undef = .bool false := H 1 8 104 (by kernel_rfl) rfl
                  have g104 := Array.getD_eq_getD_getElem?.symm.trans h104
                  have k104 := Inv.some_bool g104
                  clear H O
                  obtain ⟨r0, r1, r2, rf⟩ := Blk.three (HGR.out.below hC HGR.out.lt)
                  obtain ⟨a0, a1, a2, af⟩ := Blk.three (HACT.out.below hC HACT.out.lt)
                  go_simp
                  refine (RAt_at wa gr U (ks) e now s (RX.out.below hC) ai HAI.out).mono ?_
                  rintro e1 w1 ⟨rfl, rfl⟩
                  exact hK _ _ (Below.refl _ _) (fun _ => rfl)
                · intro act wa hC hd H O K hK
                  clear hd
                  obtain hC := hC
                  have h108 : act.tmps.getD 108 undef = .int .i64 ai := H 1 12 108 (by kernel_rfl) rfl
                  have g108 := Array.getD_eq_getD_getElem?.symm.trans h108
                  have h112 : act.tmps.getD 112 undef = .int .i64 ai := H 1 16 112 (by kernel_rfl) rfl
                  have g112 := Array.getD_eq_getD_getElem?.symm.trans h112
                  have h104 : act.tmps.getD 104 undef = .bool false := H 1 8 104 (by kernel_rfl) rfl
                  have g104 := Array.getD_eq_getD_getElem?.symm.trans h104
                  have k104 := Inv.some_bool g104
                  clear H O
                  obtain ⟨r0, r1, r2, rf⟩ := Blk.three (HGR.out.below hC HGR.out.lt)
                  obtain ⟨a0, a1, a2, af⟩ := Blk.three (HACT.out.below hC HACT.out.lt)
                  go_simp
                  exact hK _ _ (Below.refl _ _) (fun _ => rfl)
                · intro act wa hC hd H O K hK
                  clear hd
                  obtain hC := hC
                  have h104 : act.tmps.getD 104 undef = .bool false := H 1 8 104 (by kernel_rfl) rfl
                  have g104 := Array.getD_eq_getD_getElem?.symm.trans h104
                  have h113 : act.tmps.getD 113 undef = .bool false := H 1 17 113 (by kernel_rfl) rfl
                  have g113 := Array.getD_eq_getD_getElem?.symm.trans h113
                  clear H O
                  obtain ⟨r0, r1, r2, rf⟩ := Blk.three (HGR.out.below hC HGR.out.lt)
                  obtain ⟨a0, a1, a2, af⟩ := Blk.three (HACT.out.below hC HACT.out.lt)
                  go_simp
                  exact hK _ _ (Below.refl _ _) (fun _ => rfl)
              · intro us w' hC hF
                obtain hC := hC
                have u114 : us 114 = .bool false := hF 18 114 rfl
                clear hF
                simp only [List.foldl]
                go_simp
                have RR := Lib.hid (RREL.out _ hC)
                clear hC RREL
                go_wp2
                go_roundw
                case rel => exact RR.out
                case measure => simp [intOf]; have := HK.out; omega
      · have hge : (ys.length : Int) ≤ (k : Int) := by omega
        have BX := Lib.hid hbel
        clear hd hrd hap hS hU hbel hlt
        go_wp2
        go_ret
        exact ⟨rfl, BX.out⟩
  · have HP := Lib.hid (show TrueP5 w (.returned (.bool true)) w2 from ⟨rfl, B2.out⟩)
    clear HFI
    go_wp2
    go_ret
    exact HP.out
end Go.Proofs.Ytignfhdblakcfaa
