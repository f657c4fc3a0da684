/- law 5's DictFew: the walk. -/
import Derived.Test.YtignfhdblakcfaaAw5
import Derived.Test.YtignfhdblakcfaaAc5
namespace Go.Proofs.Ytignfhdblakcfaa
open Go.ChangeShapes Go.WideShapes Go.ChangeAt Go.RowKit Go.Maps
set_option linter.unusedVariables false
set_option linter.unusedSimpArgs false

theorem atD_some {ks : List ByteArray} {k : ByteArray} {i : Nat} (h : Dm.plc ks k = some i) : Dm.atD ks k = (i : Int) := by unfold Dm.atD; rw [h]
theorem plc_come {ks : List ByteArray} {e : Nat} {k : ByteArray} (h : Dm.Ok ks e) (hp : Dm.plc ks k = none) : ∃ i, Dm.plc (Dm.comeD ks e k).1 k = some i := by
  obtain ⟨h1, h2, h3, h4, h5⟩ := h
  unfold Dm.comeD
  split
  · exact ⟨ks.length, by rw [Dm.plc_push h1 hp, if_pos rfl]⟩
  · obtain ⟨old, ho⟩ : ∃ old, ks[e]? = some old := ⟨_, List.getElem?_eq_getElem (by omega)⟩
    exact ⟨e, by rw [Dm.plc_set h1 hp ho, if_pos rfl]⟩
theorem put_known {ks : List ByteArray} {e : Nat} {k : ByteArray} (h : Dm.Ok ks e) (hd : (Dm.putD ks e k).2.1 = 0) : ∃ i, Dm.plc (Dm.putD ks e k).2.2.1 k = some i := by
  unfold Dm.putD at hd ⊢
  split
  · next h64 => rw [if_pos h64] at hd; cases hd
  · cases hp : Dm.plc ks k with
    | some i => exact ⟨i, hp⟩
    | none => exact plc_come h hp
theorem take_known {ks : List ByteArray} {e : Nat} {b : List Nat} (h : Dm.Ok ks e) (hd : (Dm.takeD ks e b).2.2.1 = 0) : ∃ i, Dm.plc (Dm.takeD ks e b).2.2.2.1 (Dm.takeD ks e b).1 = some i := by
  unfold Dm.takeD at hd ⊢
  by_cases h1 : (Vm.take b).2.2 ≠ 0
  · rw [if_pos h1] at hd; exact absurd hd h1
  · rw [if_neg h1] at hd ⊢
    by_cases h2 : ks.length < (Vm.take b).1
    · rw [if_pos h2] at hd; cases hd
    · rw [if_neg h2] at hd ⊢
      by_cases h3 : 0 < (Vm.take b).1
      · rw [if_pos h3]
        have hl : (Vm.take b).1 - 1 < ks.length := by omega
        exact ⟨(Vm.take b).1 - 1, by rw [List.getElem?_eq_getElem hl]; exact Dm.plc_at h.1 (List.getElem?_eq_getElem hl)⟩
      · rw [if_neg h3] at hd ⊢
        by_cases h4 : (Dm.newD ks (b.drop (Vm.take b).2.1)).2.2 ≠ 0
        · rw [if_pos h4] at hd; exact absurd hd h4
        · rw [if_neg h4]
          exact plc_come h (Dm.newD_ok (by omega)).1
theorem putD_size {ks : List ByteArray} {e : Nat} (h : Dm.Ok ks e) {i : Nat} {x : ByteArray} (hi : ks[i]? = some x) : x.size ≤ 64 := h.2.2.2.1 x (List.mem_of_getElem? hi)
def FewRel (w : World) (g : Nat) (ys : List ActD) (s25 : Value) (wr : World) : Prop :=
  ∃ (k : Nat) (S : Nat → Prop) (ks : List ByteArray) (e : Nat), s25 = .int .i64 (k : Int) ∧ k ≤ ys.length ∧ DictM wr g S ks e ∧ (∀ j, S j → w.heap.size ≤ j) ∧ Below w.heap.size w wr
set_option maxRecDepth 100000 in
set_option maxHeartbeats 12000000 in
theorem DictFew_walk (w : World) (A : Option Addr) (len cap : Nat) (ys : List ActD) (hn : ys.length = len) (hlc : len ≤ cap) (hcm : cap ≤ maxLen) (hr : Acts5 w w.heap.size A ys) :
    Calls Try.prog 8 #[.slice A len cap] w (TrueP5 w) := by
  subst hn
  have HLC := Lib.hid hlc; have HCM := Lib.hid hcm; have HR := Lib.hid hr
  unfold maxLen at hcm
  clear hr
  go_enter Try.func8, Try.ntmps8
  go_wp2_with fail
  refine (awake5_any w).mono ?_
  rintro en w1 ⟨rfl, hb1⟩
  have B1 := Lib.hid hb1; clear hb1
  go_wp2_with fail
  refine (large5_any w1 A ys.length cap ys (Acts5.step HR.out B1.out) rfl HLC.out HCM.out).mono ?_
  rintro en w2 ⟨⟨lb, rfl, hfine⟩, hb2⟩
  have B2 := Lib.hid (B1.out.trans (hb2.mono B1.out.size)); have HFI := Lib.hid hfine
  clear hb2 hfine
  cases lb
  · obtain ⟨h60, hsh⟩ := HFI.out rfl
    have HSH := Lib.hid hsh; clear hsh HFI
    go_wp2_with fail
    refine (DNew_any w2).mono ?_
    rintro en w3 ⟨g, S3, rfl, hd, hS, hb⟩
    have START := Lib.hid (show FewRel w g ys (.int .i64 0) w3 from ⟨0, S3, [], 0, rfl, by omega, hd, fun j hj => Nat.le_trans B2.out.size (hS j hj), B2.out.trans (hb.mono B2.out.size)⟩)
    have HG := Lib.hid (Nat.le_trans B2.out.size (hS g hd.self))
    clear hd hS hb
    go_wp2
    go_loopw [25] (fun s25 wr => FewRel w g ys s25 wr) (fun s25 _ => ys.length - (intOf s25).toNat)
    case atStart => exact START.out
    case round =>
      clear START
      obtain ⟨k, S, ks, e, rfl, hk, hd, hS, hbel⟩ := hrel
      by_cases hlt : k < ys.length
      · obtain ⟨ga, o, d, s, bs, Ab, cb, rfl, hga, hp, d0, d1, d2, hrb, hbc, hbm, hbn, hb256, hsm, hd0, hd1⟩ := (Acts5.below HR.out hbel).row hlt
        have hgw : ga < wr.heap.size := World.block_lt_of_cell? _ _ d0
        have hlt2 : (k : Int) < (ys.length : Int) := by omega
        obtain ⟨hs200, hb200⟩ := HSH.out k _ hp
        obtain ⟨lb, hlb⟩ : ∃ lb, bs.length = lb := ⟨_, rfl⟩
        rw [hlb] at d2 hbc
        simp only [hlb] at hs200 hb200
        have HLB := Lib.hid hlb; have HSM := Lib.hid hsm; have H256 := Lib.hid hb256; have HBM := Lib.hid hbm
        have hal : Below wr.heap.size wr (wr.alloc (.cells #[.int .i64 d, .string s, .slice Ab lb cb] 52)) := (Below.refl _ _).alloc (Nat.le_refl _) _
        have D4 := Lib.hid (hd.below hal); have A4 := Lib.hid hS; have B4 := Lib.hid (hbel.trans (hal.mono hbel.size))
        have RB := Lib.hid ((hrb.below (hal.mono (by exact hbel.size))).more B4.out.size)
        have HK := Lib.hid hlt
        have hlt0 := hd.lt
        have c0 : (wr.alloc (.cells #[.int .i64 d, .string s, .slice Ab lb cb] 52)).cell? ⟨wr.heap.size, 0, none⟩ = some (.int .i64 d) := by simp [World.cell?_alloc_new]
        have c1 : (wr.alloc (.cells #[.int .i64 d, .string s, .slice Ab lb cb] 52)).cell? ⟨wr.heap.size, 1, none⟩ = some (.string s) := by simp [World.cell?_alloc_new]
        have c2 : (wr.alloc (.cells #[.int .i64 d, .string s, .slice Ab lb cb] 52)).cell? ⟨wr.heap.size, 2, none⟩ = some (.slice Ab lb cb) := by simp [World.cell?_alloc_new]
        clear hd hS hbel hal hp hlb hsm hb256 hrb hbm hbn hgw hga c0 c1 c2
        have HLT := Lib.hid hlt0
        by_cases hq0 : d = 0
        · subst hq0
          obtain ⟨⟨pb, pd, pk, pe⟩, hpd⟩ : ∃ r, Dm.putD ks e s = r := ⟨_, rfl⟩
          have hkn := fun h => put_known (k := s) D4.out.ok h
          rw [hpd] at hkn
          have HKN := Lib.hid hkn
          have HPD := Lib.hid hpd
          clear hpd hkn
          go_wp2_with fail
          refine (DPut_at _ g S ks e s HSM.out D4.out pb pd pb.length pk pe HPD.out rfl).mono ?_
          rintro en wx ⟨v, SX, rfl, hm, hf, hd, hT⟩
          obtain ⟨Av, cv, rfl, -⟩ := id hm
          have DX := Lib.hid hd; have AX := Lib.hid (hT.1.above B4.out.size A4.out); have BX := Lib.hid (B4.out.trans (hT.2.to_below B4.out.size A4.out))
          obtain ⟨e0, e1, e2, -⟩ := Blk.three (hT.2.blk (Blk.new wr 52 #[.int .i64 0, .string s, .slice Ab lb cb]) (fun h => by have := HLT.out _ h; omega))
          have TS := HSM
          clear hm hf hd hT
          by_cases hp0 : pd = 0
          · subst hp0
            obtain ⟨nk, hnk⟩ : ∃ nk, (pk).length = nk := ⟨_, rfl⟩
            have HNK := Lib.hid hnk
            have hok := DX.out.ok
            have hn8 : (nk : Int) ≤ 8 := by have := hok.2.1; omega
            have HOK := Lib.hid hok
            clear hok hnk
            go_wp2_with fail
            refine (DKeys_at wx g SX (pk) pe DX.out nk HNK.out).mono ?_
            rintro en wk ⟨Ak, ck, rfl, hrk, hnc, hckm, -, hb⟩
            have DK := Lib.hid (DX.out.below hb); have BK := Lib.hid (BX.out.trans (hb.mono BX.out.size)); have RK := Lib.hid hrk; have HCK := Lib.hid hckm
            clear hb hrk hckm
            obtain ⟨ik, hik⟩ := HKN.out (by trivial)
            go_wp2_with fail
            refine (DAt_at wk g SX (pk) pe s TS.out DK.out (ik : Int) (atD_some hik)).mono ?_
            rintro en w' ⟨rfl, rfl⟩
            clear hik
            have R := Lib.hid (show FewRel w g ys (.int .i64 ((k : Int) + 1)) wk from ⟨k + 1, SX, (pk), pe, by go_num, HK.out, DK.out, AX.out, BK.out⟩)
            go_wp2
            go_loop [77] (fun s77 => ∃ j : Nat, s77 = .int .i64 (j : Int) ∧ j ≤ nk) (fun s77 => nk - (intOf s77).toNat)
            case atStart => exact ⟨0, rfl, Nat.zero_le _⟩
            case round =>
              obtain ⟨j, rfl, hj⟩ := hrel
              by_cases hjl : j < nk
              · have hjI : (j : Int) < (nk : Int) := by omega
                obtain ⟨kj, hkj⟩ : ∃ kj, (pk)[j]? = some kj := ⟨_, List.getElem?_eq_getElem (by have := HNK.out; omega)⟩
                obtain ⟨gk, ok, rfl, hgk, hck⟩ := RK.out (by intro h0; have h1 := congrArg List.length h0; rw [List.length_map, HNK.out] at h1; simp only [List.length_nil] at h1; omega)
                have q0 := hck j (.string kj) (by rw [List.getElem?_map, hkj]; rfl)
                have hkz := putD_size HOK.out hkj
                have hkzI : ¬ (64 : Int) < (kj.size : Int) := by omega
                have cD := Lib.hid (DAt_at wk g SX (pk) pe kj (by unfold maxLen; omega) DK.out (j : Int) (atD_some (Dm.plc_at HOK.out.1 hkj)))
                clear hck hkj hkz
                go_wp2_with fail
                refine cD.out.mono ?_
                rintro en w' ⟨rfl, rfl⟩
                go_wp2
                go_round
                case rel => exact ⟨j + 1, by go_num, by omega⟩
                case measure => simp [intOf]; omega
              · obtain rfl : j = nk := by omega
                clear hjl
                go_wp2
                go_roundw
                case rel => exact R.out
                case measure => simp [intOf]; have := HK.out; omega
          · have nb1 : ((pd : Int) == 0) = false := by simp; omega
            have nb2 : decide (pd = 0) = false := by simp; omega
            obtain ⟨nk, hnk⟩ : ∃ nk, (pk).length = nk := ⟨_, rfl⟩
            have HNK := Lib.hid hnk
            have hok := DX.out.ok
            have hn8 : (nk : Int) ≤ 8 := by have := hok.2.1; omega
            have HOK := Lib.hid hok
            clear hok hnk
            go_wp2_with fail
            refine (DKeys_at wx g SX (pk) pe DX.out nk HNK.out).mono ?_
            rintro en wk ⟨Ak, ck, rfl, hrk, hnc, hckm, -, hb⟩
            have DK := Lib.hid (DX.out.below hb); have BK := Lib.hid (BX.out.trans (hb.mono BX.out.size)); have RK := Lib.hid hrk; have HCK := Lib.hid hckm
            clear hb hrk hckm
            have R := Lib.hid (show FewRel w g ys (.int .i64 ((k : Int) + 1)) wk from ⟨k + 1, SX, (pk), pe, by go_num, HK.out, DK.out, AX.out, BK.out⟩)
            go_wp2
            go_loop [77] (fun s77 => ∃ j : Nat, s77 = .int .i64 (j : Int) ∧ j ≤ nk) (fun s77 => nk - (intOf s77).toNat)
            case atStart => exact ⟨0, rfl, Nat.zero_le _⟩
            case round =>
              obtain ⟨j, rfl, hj⟩ := hrel
              by_cases hjl : j < nk
              · have hjI : (j : Int) < (nk : Int) := by omega
                obtain ⟨kj, hkj⟩ : ∃ kj, (pk)[j]? = some kj := ⟨_, List.getElem?_eq_getElem (by have := HNK.out; omega)⟩
                obtain ⟨gk, ok, rfl, hgk, hck⟩ := RK.out (by intro h0; have h1 := congrArg List.length h0; rw [List.length_map, HNK.out] at h1; simp only [List.length_nil] at h1; omega)
                have q0 := hck j (.string kj) (by rw [List.getElem?_map, hkj]; rfl)
                have hkz := putD_size HOK.out hkj
                have hkzI : ¬ (64 : Int) < (kj.size : Int) := by omega
                have cD := Lib.hid (DAt_at wk g SX (pk) pe kj (by unfold maxLen; omega) DK.out (j : Int) (atD_some (Dm.plc_at HOK.out.1 hkj)))
                clear hck hkj hkz
                go_wp2_with fail
                refine cD.out.mono ?_
                rintro en w' ⟨rfl, rfl⟩
                go_wp2
                go_round
                case rel => exact ⟨j + 1, by go_num, by omega⟩
                case measure => simp [intOf]; omega
              · obtain rfl : j = nk := by omega
                clear hjl
                go_wp2
                go_roundw
                case rel => exact R.out
                case measure => simp [intOf]; have := HK.out; omega
        · have n01 : (d == 0) = false := by simp [hq0]
          have n02 : decide (d = 0) = false := by simp [hq0]
          by_cases hq1 : d = 1
          · subst hq1
            obtain ⟨⟨tk, tm, td, pk, pe⟩, hpd⟩ : ∃ r, Dm.takeD ks e bs = r := ⟨_, rfl⟩
            have hkn := fun h => take_known (b := bs) D4.out.ok h
            rw [hpd] at hkn
            have HKN := Lib.hid hkn
            have HPD := Lib.hid hpd
            clear hpd hkn
            go_wp2_with fail
            refine (DTake_at _ g S ks e Ab lb cb bs D4.out RB.out H256.out HLB.out (by omega) (by omega) HBM.out tk tm td pk pe HPD.out).mono ?_
            rintro en wx ⟨SX, rfl, hd, hT⟩
            have DX := Lib.hid hd; have AX := Lib.hid (hT.1.above B4.out.size A4.out); have BX := Lib.hid (B4.out.trans (hT.2.to_below B4.out.size A4.out))
            obtain ⟨e0, e1, e2, -⟩ := Blk.three (hT.2.blk (Blk.new wr 52 #[.int .i64 1, .string s, .slice Ab lb cb]) (fun h => by have := HLT.out _ h; omega))
            clear hd hT
            by_cases hp0 : td = 0
            · subst hp0
              obtain ⟨it, hit⟩ := HKN.out (by trivial)
              have hts := putD_size DX.out.ok (Dm.plc_some hit)
              have TS : Hid (tk.size ≤ maxLen) := Lib.hid (by unfold maxLen; omega)
              clear hts
              have HIT := Lib.hid hit
              clear hit
              obtain ⟨nk, hnk⟩ : ∃ nk, (pk).length = nk := ⟨_, rfl⟩
              have HNK := Lib.hid hnk
              have hok := DX.out.ok
              have hn8 : (nk : Int) ≤ 8 := by have := hok.2.1; omega
              have HOK := Lib.hid hok
              clear hok hnk
              go_wp2_with fail
              refine (DKeys_at wx g SX (pk) pe DX.out nk HNK.out).mono ?_
              rintro en wk ⟨Ak, ck, rfl, hrk, hnc, hckm, -, hb⟩
              have DK := Lib.hid (DX.out.below hb); have BK := Lib.hid (BX.out.trans (hb.mono BX.out.size)); have RK := Lib.hid hrk; have HCK := Lib.hid hckm
              clear hb hrk hckm
              obtain ⟨ik, hik⟩ := (⟨it, HIT.out⟩ : ∃ i, Dm.plc pk tk = some i)
              go_wp2_with fail
              refine (DAt_at wk g SX (pk) pe tk TS.out DK.out (ik : Int) (atD_some hik)).mono ?_
              rintro en w' ⟨rfl, rfl⟩
              clear hik
              have R := Lib.hid (show FewRel w g ys (.int .i64 ((k : Int) + 1)) wk from ⟨k + 1, SX, (pk), pe, by go_num, HK.out, DK.out, AX.out, BK.out⟩)
              go_wp2
              go_loop [77] (fun s77 => ∃ j : Nat, s77 = .int .i64 (j : Int) ∧ j ≤ nk) (fun s77 => nk - (intOf s77).toNat)
              case atStart => exact ⟨0, rfl, Nat.zero_le _⟩
              case round =>
                obtain ⟨j, rfl, hj⟩ := hrel
                by_cases hjl : j < nk
                · have hjI : (j : Int) < (nk : Int) := by omega
                  obtain ⟨kj, hkj⟩ : ∃ kj, (pk)[j]? = some kj := ⟨_, List.getElem?_eq_getElem (by have := HNK.out; omega)⟩
                  obtain ⟨gk, ok, rfl, hgk, hck⟩ := RK.out (by intro h0; have h1 := congrArg List.length h0; rw [List.length_map, HNK.out] at h1; simp only [List.length_nil] at h1; omega)
                  have q0 := hck j (.string kj) (by rw [List.getElem?_map, hkj]; rfl)
                  have hkz := putD_size HOK.out hkj
                  have hkzI : ¬ (64 : Int) < (kj.size : Int) := by omega
                  have cD := Lib.hid (DAt_at wk g SX (pk) pe kj (by unfold maxLen; omega) DK.out (j : Int) (atD_some (Dm.plc_at HOK.out.1 hkj)))
                  clear hck hkj hkz
                  go_wp2_with fail
                  refine cD.out.mono ?_
                  rintro en w' ⟨rfl, rfl⟩
                  go_wp2
                  go_round
                  case rel => exact ⟨j + 1, by go_num, by omega⟩
                  case measure => simp [intOf]; omega
                · obtain rfl : j = nk := by omega
                  clear hjl
                  go_wp2
                  go_roundw
                  case rel => exact R.out
                  case measure => simp [intOf]; have := HK.out; omega
            · have nb1 : ((td : Int) == 0) = false := by simp; omega
              have nb2 : decide (td = 0) = false := by simp; omega
              obtain ⟨nk, hnk⟩ : ∃ nk, (pk).length = nk := ⟨_, rfl⟩
              have HNK := Lib.hid hnk
              have hok := DX.out.ok
              have hn8 : (nk : Int) ≤ 8 := by have := hok.2.1; omega
              have HOK := Lib.hid hok
              clear hok hnk
              go_wp2_with fail
              refine (DKeys_at wx g SX (pk) pe DX.out nk HNK.out).mono ?_
              rintro en wk ⟨Ak, ck, rfl, hrk, hnc, hckm, -, hb⟩
              have DK := Lib.hid (DX.out.below hb); have BK := Lib.hid (BX.out.trans (hb.mono BX.out.size)); have RK := Lib.hid hrk; have HCK := Lib.hid hckm
              clear hb hrk hckm
              have R := Lib.hid (show FewRel w g ys (.int .i64 ((k : Int) + 1)) wk from ⟨k + 1, SX, (pk), pe, by go_num, HK.out, DK.out, AX.out, BK.out⟩)
              go_wp2
              go_loop [77] (fun s77 => ∃ j : Nat, s77 = .int .i64 (j : Int) ∧ j ≤ nk) (fun s77 => nk - (intOf s77).toNat)
              case atStart => exact ⟨0, rfl, Nat.zero_le _⟩
              case round =>
                obtain ⟨j, rfl, hj⟩ := hrel
                by_cases hjl : j < nk
                · have hjI : (j : Int) < (nk : Int) := by omega
                  obtain ⟨kj, hkj⟩ : ∃ kj, (pk)[j]? = some kj := ⟨_, List.getElem?_eq_getElem (by have := HNK.out; omega)⟩
                  obtain ⟨gk, ok, rfl, hgk, hck⟩ := RK.out (by intro h0; have h1 := congrArg List.length h0; rw [List.length_map, HNK.out] at h1; simp only [List.length_nil] at h1; omega)
                  have q0 := hck j (.string kj) (by rw [List.getElem?_map, hkj]; rfl)
                  have hkz := putD_size HOK.out hkj
                  have hkzI : ¬ (64 : Int) < (kj.size : Int) := by omega
                  have cD := Lib.hid (DAt_at wk g SX (pk) pe kj (by unfold maxLen; omega) DK.out (j : Int) (atD_some (Dm.plc_at HOK.out.1 hkj)))
                  clear hck hkj hkz
                  go_wp2_with fail
                  refine cD.out.mono ?_
                  rintro en w' ⟨rfl, rfl⟩
                  go_wp2
                  go_round
                  case rel => exact ⟨j + 1, by go_num, by omega⟩
                  case measure => simp [intOf]; omega
                · obtain rfl : j = nk := by omega
                  clear hjl
                  go_wp2
                  go_roundw
                  case rel => exact R.out
                  case measure => simp [intOf]; have := HK.out; omega
          · have n11 : (d == 1) = false := by simp [hq1]
            have n12 : decide (d = 1) = false := by simp [hq1]
            by_cases hq2 : d = 2
            · subst hq2
              go_wp2_with fail
              refine (DReset_any _ g S ks e D4.out).mono ?_
              rintro en wx ⟨rfl, SX, hd, hT⟩
              have DX := Lib.hid hd; have AX := Lib.hid (hT.1.above B4.out.size A4.out); have BX := Lib.hid (B4.out.trans (hT.2.to_below B4.out.size A4.out))
              clear hd hT
              obtain ⟨nk, hnk⟩ : ∃ nk, (([] : List ByteArray)).length = nk := ⟨_, rfl⟩
              have HNK := Lib.hid hnk
              have hok := DX.out.ok
              have hn8 : (nk : Int) ≤ 8 := by have := hok.2.1; omega
              have HOK := Lib.hid hok
              clear hok hnk
              go_wp2_with fail
              refine (DKeys_at wx g SX (([] : List ByteArray)) 0 DX.out nk HNK.out).mono ?_
              rintro en wk ⟨Ak, ck, rfl, hrk, hnc, hckm, -, hb⟩
              have DK := Lib.hid (DX.out.below hb); have BK := Lib.hid (BX.out.trans (hb.mono BX.out.size)); have RK := Lib.hid hrk; have HCK := Lib.hid hckm
              clear hb hrk hckm
              have R := Lib.hid (show FewRel w g ys (.int .i64 ((k : Int) + 1)) wk from ⟨k + 1, SX, (([] : List ByteArray)), 0, by go_num, HK.out, DK.out, AX.out, BK.out⟩)
              go_wp2
              go_loop [77] (fun s77 => ∃ j : Nat, s77 = .int .i64 (j : Int) ∧ j ≤ nk) (fun s77 => nk - (intOf s77).toNat)
              case atStart => exact ⟨0, rfl, Nat.zero_le _⟩
              case round =>
                obtain ⟨j, rfl, hj⟩ := hrel
                by_cases hjl : j < nk
                · have hjI : (j : Int) < (nk : Int) := by omega
                  obtain ⟨kj, hkj⟩ : ∃ kj, (([] : List ByteArray))[j]? = some kj := ⟨_, List.getElem?_eq_getElem (by have := HNK.out; omega)⟩
                  obtain ⟨gk, ok, rfl, hgk, hck⟩ := RK.out (by intro h0; have h1 := congrArg List.length h0; rw [List.length_map, HNK.out] at h1; simp only [List.length_nil] at h1; omega)
                  have q0 := hck j (.string kj) (by rw [List.getElem?_map, hkj]; rfl)
                  have hkz := putD_size HOK.out hkj
                  have hkzI : ¬ (64 : Int) < (kj.size : Int) := by omega
                  have cD := Lib.hid (DAt_at wk g SX (([] : List ByteArray)) 0 kj (by unfold maxLen; omega) DK.out (j : Int) (atD_some (Dm.plc_at HOK.out.1 hkj)))
                  clear hck hkj hkz
                  go_wp2_with fail
                  refine cD.out.mono ?_
                  rintro en w' ⟨rfl, rfl⟩
                  go_wp2
                  go_round
                  case rel => exact ⟨j + 1, by go_num, by omega⟩
                  case measure => simp [intOf]; omega
                · obtain rfl : j = nk := by omega
                  clear hjl
                  go_wp2
                  go_roundw
                  case rel => exact R.out
                  case measure => simp [intOf]; have := HK.out; omega
            · have n21 : (d == 2) = false := by simp [hq2]
              have n22 : decide (d = 2) = false := by simp [hq2]
              have DX := D4; have AX := A4; have BX := B4
              obtain ⟨nk, hnk⟩ : ∃ nk, (ks).length = nk := ⟨_, rfl⟩
              have HNK := Lib.hid hnk
              have hok := DX.out.ok
              have hn8 : (nk : Int) ≤ 8 := by have := hok.2.1; omega
              have HOK := Lib.hid hok
              clear hok hnk
              go_wp2_with fail
              refine (DKeys_at _ g S (ks) e DX.out nk HNK.out).mono ?_
              rintro en wk ⟨Ak, ck, rfl, hrk, hnc, hckm, -, hb⟩
              have DK := Lib.hid (DX.out.below hb); have BK := Lib.hid (BX.out.trans (hb.mono BX.out.size)); have RK := Lib.hid hrk; have HCK := Lib.hid hckm
              clear hb hrk hckm
              have R := Lib.hid (show FewRel w g ys (.int .i64 ((k : Int) + 1)) wk from ⟨k + 1, S, (ks), e, by go_num, HK.out, DK.out, AX.out, BK.out⟩)
              go_wp2
              go_loop [77] (fun s77 => ∃ j : Nat, s77 = .int .i64 (j : Int) ∧ j ≤ nk) (fun s77 => nk - (intOf s77).toNat)
              case atStart => exact ⟨0, rfl, Nat.zero_le _⟩
              case round =>
                obtain ⟨j, rfl, hj⟩ := hrel
                by_cases hjl : j < nk
                · have hjI : (j : Int) < (nk : Int) := by omega
                  obtain ⟨kj, hkj⟩ : ∃ kj, (ks)[j]? = some kj := ⟨_, List.getElem?_eq_getElem (by have := HNK.out; omega)⟩
                  obtain ⟨gk, ok, rfl, hgk, hck⟩ := RK.out (by intro h0; have h1 := congrArg List.length h0; rw [List.length_map, HNK.out] at h1; simp only [List.length_nil] at h1; omega)
                  have q0 := hck j (.string kj) (by rw [List.getElem?_map, hkj]; rfl)
                  have hkz := putD_size HOK.out hkj
                  have hkzI : ¬ (64 : Int) < (kj.size : Int) := by omega
                  have cD := Lib.hid (DAt_at wk g S (ks) e kj (by unfold maxLen; omega) DK.out (j : Int) (atD_some (Dm.plc_at HOK.out.1 hkj)))
                  clear hck hkj hkz
                  go_wp2_with fail
                  refine cD.out.mono ?_
                  rintro en w' ⟨rfl, rfl⟩
                  go_wp2
                  go_round
                  case rel => exact ⟨j + 1, by go_num, by omega⟩
                  case measure => simp [intOf]; omega
                · obtain rfl : j = nk := by omega
                  clear hjl
                  go_wp2
                  go_roundw
                  case rel => exact R.out
                  case measure => simp [intOf]; have := HK.out; omega
      · have hge : (ys.length : Int) ≤ (k : Int) := by omega
        have BX := Lib.hid hbel
        clear hd hS hbel hlt
        go_wp2
        go_ret
        exact ⟨rfl, BX.out⟩
  · have HP := Lib.hid (show TrueP5 w (.returned (.bool true)) w2 from ⟨rfl, B2.out⟩)
    clear HFI
    go_wp2
    go_ret
    exact HP.out
end Go.Proofs.Ytignfhdblakcfaa
