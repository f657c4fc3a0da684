/- law 8: DiskSure, the walk. -/
import Derived.Test.YtahichieakdbnaaEi
namespace Go.Proofs.Ytahichieakdbnaa
open Go.ChangeShapes Go.WideShapes Go.ChangeAt Go.RowKit Go.Maps Go.Deep
set_option linter.unusedVariables false
set_option linter.unusedSimpArgs false

theorem readP_in {room : Nat} {d : Pd} (hok : OkP room d) {i : Nat} (hi : i < 64) {f : Fl} (hf : d.1[i]? = some f) : readP d (i : Int) = (f.1, 0) := by
  unfold readP
  rw [if_pos (by unfold inF; omega), Int.toNat_natCast, hf]
  rfl
theorem sureF_in {fs : List Fl} {i : Nat} (hi : i < 64) {f : Fl} (hf : fs[i]? = some f) : sureF fs (i : Int) = f.2 := by
  unfold sureF
  rw [if_pos (by omega), Int.toNat_natCast, hf]
  rfl
theorem below_set9 {B : Nat} {w0 w : World} (h : Below B w0 w) {g : Nat} (hg : B ≤ g) (i : Nat) (u : Value) : Below B w0 (w.setCell ⟨g, i, none⟩ u) := by
  refine ⟨h.os, h.tape, h.output, by simpa [World.setCell] using h.size, fun j hj => (Below.heap_setCell w ⟨g, i, none⟩ u j (by show j ≠ g; omega)).trans (h.block j hj)⟩
set_option maxRecDepth 100000 in
set_option maxHeartbeats 12000000 in
theorem DiskSure_walk (w : World) (A : Option Addr) (len cap : Nat) (ys : List DAct) (hn : ys.length = len) (hlc : len ≤ cap) (hcm : cap ≤ maxLen) (hr : Acts8 w w.heap.size A ys)
    (A2 : Option Addr) (len2 cap2 : Nat) (ks : List Int) (hn2 : ks.length = len2) (hlc2 : len2 ≤ cap2) (hcm2 : cap2 ≤ maxLen) (hr2 : Rd w w.heap.size A2 (i64i ks)) :
    Calls Try.prog 4 #[.slice A len cap, .slice A2 len2 cap2] w (TrueD w) := by
  have HN := Lib.hid hn; have HLC := Lib.hid hlc; have HCM := Lib.hid hcm; have HR := Lib.hid hr
  have HN2 := Lib.hid hn2; have HR2 := Lib.hid hr2
  have hcm' : cap ≤ 9223372036854775807 := hcm
  have hcm2' : cap2 ≤ 9223372036854775807 := hcm2
  clear hn hr hcm hn2 hr2 hcm2
  go_enter Try.func4, Try.ntmps4
  go_wp2_with fail
  refine (awake8_any w).mono ?_
  rintro en w1 ⟨rfl, hb1⟩
  have B1 := Lib.hid hb1; clear hb1
  go_wp2_with fail
  refine (large8_any w1 A len cap ys (Acts8.step HR.out B1.out) HN.out HLC.out HCM.out).mono ?_
  rintro en w2 ⟨⟨lb, rfl, hfine⟩, hb2⟩
  have B2 := Lib.hid (B1.out.trans (hb2.mono B1.out.size)); have HFI := Lib.hid hfine
  clear hb2 hfine
  cases lb with
  | true =>
    have HP := Lib.hid (show TrueD w (.returned (.bool true)) w2 from ⟨rfl, B2.out⟩)
    go_wp2
    go_ret
    exact HP.out
  | false =>
    obtain ⟨h60, hsh⟩ := HFI.out rfl
    have HSH := Lib.hid hsh
    have hl60 : len ≤ 60 := by rw [← HN.out]; exact h60
    clear hsh HFI h60
    by_cases hk60 : 60 < len2
    · have hkI : (60 : Int) < (len2 : Int) := by omega
      have HP := Lib.hid (show TrueD w (.returned (.bool true)) w2 from ⟨rfl, B2.out⟩)
      go_wp2
      go_ret
      exact HP.out
    have hkI : ¬ (60 : Int) < (len2 : Int) := by omega
    go_wp2_with fail
    refine (DNew_any w2 5000 (by decide)).mono ?_
    rintro en w4 ⟨rfl, hd, hb⟩
    obtain ⟨g, hg⟩ : ∃ g, g = w2.heap.size := ⟨_, rfl⟩
    rw [← hg] at hd ⊢
    have START := Lib.hid (show LR w g 5000 len (.int .i64 0) w4 from ⟨0, vs0, _, rfl, Nat.zero_le _, hd, ok_new (by decide), fun j hj => Nat.le_trans B2.out.size (by rw [hg] at hj; exact DS_new w2 j hj), B2.out.trans (hb.mono B2.out.size)⟩)
    have HG : Hid (w.heap.size ≤ g) := Lib.hid (by rw [hg]; exact B2.out.size)
    clear hd hb hg
    go_wp2
    go_loopw [32] (fun s32 wr => LR w g 5000 len s32 wr) (fun s32 _ => len - (intOf s32).toNat)
    case atStart => exact START.out
    case round =>
      clear START
      obtain ⟨k, vs, d, rfl, hk, hd, hok, hS, hbel⟩ := hrel
      have HB := Lib.hid hbel; have D0 := Lib.hid hd; have OK := Lib.hid hok; have AS := Lib.hid hS
      by_cases hlt : k < len
      · obtain ⟨ga, o, a, Ab, cb, Ak, ck, rfl, hga, hp, ⟨d0, d1, d2, d3, d4⟩, hrb, hbc, hbn, hb256, hrk, hn64⟩ := Acts8.row (Acts8.below HR.out hbel) (k := k) (by rw [HN.out]; exact hlt)
        have hgw : ga < wr.heap.size := World.block_lt_of_cell? _ _ d0
        have hltI : (k : Int) < (len : Int) := by omega
        have hl3 := HSH.out k _ hp
        obtain ⟨nb, hnb⟩ : ∃ q, a.bs.length = q := ⟨_, rfl⟩
        obtain ⟨nk, hnk⟩ : ∃ q, a.ks.length = q := ⟨_, rfl⟩
        rw [hnb] at d3 hbc
        rw [hnk] at d4
        have hnk60 : nk ≤ 60 := by rw [← hnk]; exact hl3.2
        have HDO := fun W (hW : Below wr.heap.size wr W) => Lib.hid (do8_any W g 5000 vs d a Ab Ak cb ck nb nk w.heap.size (DskM.below D0.out hW) OK.out hnb hnk (hrb.below (hW.mono HB.out.size)) (Nat.le_trans HB.out.size hW.size) hbc hbn (hrk.below (hW.mono HB.out.size)) hnk60 (Rd.ne_of hrk HG.out))
        have OKN := Lib.hid (OK.out.act (a := a) ⟨hb256, hn64, by omega⟩)
        have HLT := Lib.hid hlt
        have hb := (Below.refl wr.heap.size wr).alloc (Nat.le_refl _) (.cells #[.int .i64 a.k, .int .i64 a.x, .int .i64 a.n, .slice Ab nb cb, .slice Ak nk ck] 35)
        have HBA := Lib.hid hb
        clear hb hd hok hS hbel hrb hrk hbn hnb hnk hl3 hp hk hlt
        go_wp2_with fail
        refine (HDO _ HBA.out).out.mono ?_
        intro en w5 hres
        obtain ⟨rfl, vs5, hd5, hT⟩ := hres.below HBA.out
        have R := Lib.hid (show LR w g 5000 len (.int .i64 ((k : Int) + 1)) w5 from ⟨k + 1, vs5, _, by go_num, HLT.out, hd5, OKN.out, hT.1.above HB.out.size AS.out, HB.out.trans (hT.2.to_below HB.out.size AS.out)⟩)
        clear hres hd5 hT HDO
        go_wp2
        go_roundw
        case rel => exact R.out
        case measure => simp [intOf]; have := HLT.out; omega
      · obtain rfl : k = len := by omega
        have hb5 : Below wr.heap.size wr ((wr.alloc (.cells (Array.replicate 64 (Value.slice none 0 0)) 47)).alloc (.cells (Array.replicate 64 (Value.int .i64 0)) 48)) := ((Below.refl wr.heap.size wr).alloc (Nat.le_refl _) _).alloc (by rw [← size_alloc9]; omega) _
        have hSR := SR.new (w := w) hd hbel.size d.1
        clear hd hok hS hbel
        go_wp2_with fail
        obtain ⟨w5, hw5⟩ : ∃ w5, w5 = ((wr.alloc (.cells (Array.replicate 64 (Value.slice none 0 0)) 47)).alloc (.cells (Array.replicate 64 (Value.int .i64 0)) 48)) := ⟨_, rfl⟩
        obtain ⟨gb, hgb⟩ : ∃ gb, gb = wr.heap.size := ⟨_, rfl⟩
        change Code.wp _ _ _ _ ((wr.alloc (.cells (Array.replicate 64 (Value.slice none 0 0)) 47)).alloc (.cells (Array.replicate 64 (Value.int .i64 0)) 48))
        rw [← hw5] at hb5 hSR ⊢
        have D5 := Lib.hid (DskM.below D0.out hb5); have B5 := Lib.hid (HB.out.trans (hb5.mono HB.out.size)); have SR5 := Lib.hid hSR
        rw [← hgb] at SR5 ⊢
        clear hb5 hSR hw5 hgb D0 HB
        go_loopw [40] (fun s40 wr => ∃ i : Nat, s40 = .int .i64 (i : Int) ∧ i ≤ 64 ∧ Hid (DM wr g 5000 vs d) ∧ Hid (SR w wr g gb (gb + 1) vs d.1 i) ∧ Hid (Below w.heap.size w wr)) (fun s40 _ => 64 - (intOf s40).toNat)
        case atStart => exact ⟨0, rfl, by omega, D5, SR5, B5⟩
        case round =>
          clear SR5 D5 B5
          obtain ⟨i, rfl, hi64, D5, SR5, B5⟩ := hrel
          by_cases hlt : i < 64
          · have hiI : (i : Int) < 64 := by omega
            obtain ⟨f, hf⟩ : ∃ f, d.1[i]? = some f := ⟨_, List.getElem?_eq_getElem (by rw [OK.out.2.2.1]; exact hlt)⟩
            have hrp := readP_in OK.out hlt hf
            have hsf := sureF_in hlt hf
            obtain ⟨m, hm⟩ : ∃ m, f.1.length = m := ⟨_, rfl⟩
            obtain ⟨s, hs⟩ : ∃ s, f.2 = s := ⟨_, rfl⟩
            have HF := Lib.hid hf; have HM := Lib.hid hm; have HS := Lib.hid hs; have HLT := Lib.hid hlt
            have HRP := Lib.hid hrp; have HSF := Lib.hid hsf
            obtain ⟨bv0, hbl0, hgbB0, hgbne⟩ : ∃ bv : List Value, bv.length = 64 ∧ Blk wr gb 47 bv.toArray ∧ ¬ DS g vs gb := by
              obtain ⟨bv, ss, h1, h2, h3, h4, h5, h6, h7, h8, h9, h10⟩ := SR5.out
              exact ⟨bv, h1, h3, h6⟩
            obtain ⟨ss0, hsl0, hgsB0, hgsne⟩ : ∃ ss : List Nat, ss.length = 64 ∧ Blk wr (gb + 1) 48 (i64n ss).toArray ∧ ¬ DS g vs (gb + 1) := by
              obtain ⟨bv, ss, h1, h2, h3, h4, h5, h6, h7, h8, h9, h10⟩ := SR5.out
              exact ⟨ss, h2, h4, h7⟩
            have GB := Lib.hid hgbB0; have GS := Lib.hid hgsB0; have NGB := Lib.hid hgbne; have NGS := Lib.hid hgsne
            clear hf hm hs hrp hsf hgbB0 hgsB0 hgbne hgsne hlt
            go_wp2_with fail
            refine (DRead_any wr g 5000 vs d (i : Int) D5.out OK.out).mono ?_
            rintro en w6 ⟨v, rfl, hm6, hf6, hb6⟩
            rw [HRP.out] at hm6 ⊢
            simp only at hm6
            rw [HM.out] at hm6
            obtain ⟨AB, CB, rfl, -⟩ := id hm6
            have gb6 := GB.out.below hb6 GB.out.lt
            have gs6 := GS.out.below hb6 GS.out.lt
            obtain ⟨u, hu⟩ : ∃ u, bv0[i]? = some u := ⟨_, List.getElem?_eq_getElem (by have := HLT.out; omega)⟩
            have c6 := gb6.cell i
            rw [List.getElem?_toArray, hu] at c6
            have z6 := gb6.frozen i
            have l6 := gb6.lt
            have gsS := Lib.hid (gs6.far (p := ⟨gb, i, none⟩) (by show gb + 1 ≠ gb; omega) (.slice AB m CB))
            have D6 : Hid (DM (w6.setCell ⟨gb, i, none⟩ (.slice AB m CB)) g 5000 vs d) := Lib.hid ((DskM.below D5.out hb6).only (S := fun j => j = gb) (Only.set (S := fun j => j = gb) (Only.refl _ w6) rfl _ _) (fun j hj e => NGB.out (e ▸ hj)))
            have M6 := Lib.hid hm6; have F6 := Lib.hid hf6; have BB6 := Lib.hid hb6
            clear hm6 hf6 hb6 gb6 gs6 hu
            go_wp2_with fail
            have DS7 := Lib.hid (DSure_any (w6.setCell ⟨gb, i, none⟩ (.slice AB m CB)) g 5000 vs _ _ _ _ (i : Int) D6.out)
            refine (DS7.out).mono ?_
            rintro en w7 ⟨rfl, q, hq⟩
            have hb7 : Below (w6.setCell ⟨gb, i, none⟩ (.slice AB m CB)).heap.size (w6.setCell ⟨gb, i, none⟩ (.slice AB m CB)) w7 := by rw [hq]; exact below_drewN (Below.refl _ _) q
            rw [HSF.out, HS.out]
            have gs7 := gsS.out.below hb7 gsS.out.lt
            have c7 := gs7.cell i
            rw [List.getElem?_toArray] at c7
            obtain ⟨u7, hu7⟩ : ∃ u, (i64n ss0)[i]? = some u := ⟨_, List.getElem?_eq_getElem (by rw [i64n_length]; have := HLT.out; omega)⟩
            rw [hu7] at c7
            have z7 := gs7.frozen i
            have l7 := gs7.lt
            have hsr := SR.lay SR5.out D5.out HF.out HLT.out BB6.out (by rw [HM.out]; exact M6.out) F6.out hb7
            rw [HS.out] at hsr
            have R2 := Lib.hid hsr
            have R1 : Hid (DM (w7.setCell ⟨gb + 1, i, none⟩ (.int .i64 (s : Int))) g 5000 vs d) := Lib.hid ((DskM.below D6.out hb7).only (S := fun j => j = gb + 1) (Only.set (S := fun j => j = gb + 1) (Only.refl _ w7) rfl _ _) (fun j hj e => NGS.out (e ▸ hj)))
            have R3 : Hid (Below w.heap.size w (w7.setCell ⟨gb + 1, i, none⟩ (.int .i64 (s : Int)))) := Lib.hid (by
              have hgbw : w.heap.size ≤ gb := by
                obtain ⟨bv, ss, h1, h2, h3, h4, h5, h6, h7, h8, h9, h10⟩ := SR5.out
                exact h8
              have q1 := B5.out.trans (BB6.out.mono B5.out.size)
              have q2 := below_set9 q1 hgbw i (.slice AB m CB)
              have q3 := q2.trans (hb7.mono q2.size)
              exact below_set9 q3 (by omega) i _)
            clear hq hb7 gs7 hu7 hsr DS7
            go_wp2
            go_roundw
            case rel => exact ⟨i + 1, by go_num, by have := HLT.out; omega, R1, R2, R3⟩
            case measure => simp [intOf]; have := HLT.out; omega
          · obtain rfl : i = 64 := by omega
            go_wp2_with fail
            generalize wr = w50 at *
            refine (DCrash_any w50 g 5000 vs d A2 len2 cap2 w.heap.size ks D5.out OK.out (HR2.out.below B5.out) B5.out.size HN2.out (by omega) (Rd.ne_of HR2.out HG.out)).mono ?_
            rintro en w8 ⟨rfl, vs8, hd8, hO8, hS8⟩
            have D8 := Lib.hid hd8; have SR8 := Lib.hid (SR5.out.only hO8 hS8)
            have B8 : Hid (Below w.heap.size w w8) := Lib.hid (B5.out.trans (hO8.to_below B5.out.size (fun j hj => by have := HG.out; omega)))
            have OK8 := Lib.hid (OK.out.crash ks)
            clear hd8 hO8 hS8
            go_wp2
            go_loopw [60] (fun s60 wr => ∃ i : Nat, s60 = .int .i64 (i : Int) ∧ i ≤ 64 ∧ Hid (DM wr g 5000 vs8 (crashP ks d)) ∧ Hid (SR w wr g gb (gb + 1) vs8 d.1 64) ∧ Hid (Below w.heap.size w wr)) (fun s60 _ => 64 - (intOf s60).toNat)
            case atStart => exact ⟨0, rfl, by omega, D8, SR8, B8⟩
            case round =>
              clear SR8 D8 B8 D5 SR5 B5
              obtain ⟨i, rfl, hi64, D5, SR5, B5⟩ := hrel
              by_cases hlt : i < 64
              · have hiI : (i : Int) < 64 := by omega
                obtain ⟨f, hf⟩ : ∃ f, d.1[i]? = some f := ⟨_, List.getElem?_eq_getElem (by rw [OK.out.2.2.1]; exact hlt)⟩
                have hfs := (OK.out.2.2.2.1 f (List.mem_of_getElem? hf)).1
                have hc := crashU_all (ks := ks) hf hlt
                obtain ⟨n, hn⟩ : ∃ n, f.2 + min (moreK ks i) (f.1.length - f.2) = n := ⟨_, rfl⟩
                have hc1 : crash1 ks i f = (f.1.take n, n) := by unfold crash1; rw [hn]
                rw [hc1] at hc
                have hrp := readP_in OK8.out hlt (f := (f.1.take n, n)) hc
                have hsf := sureF_in (fs := (crashP ks d).1) hlt (f := (f.1.take n, n)) hc
                have hnl : n ≤ f.1.length := by omega
                have hns : f.2 ≤ n := by omega
                have htl : (f.1.take n).length = n := by rw [List.length_take, Nat.min_eq_left hnl]
                have hL := Nat.le_trans (totF_mem hf) OK.out.2.1
                obtain ⟨bv, ss, h1, h2, h3, h4, h5, h6, h7, h8, h9, h10⟩ := SR5.out
                obtain ⟨hss, v, hv, hmv⟩ := h10 i f hlt hf
                have hmv1 := hmv.1
                obtain ⟨m, hm⟩ : ∃ m, f.1.length = m := ⟨_, rfl⟩
                obtain ⟨s, hs⟩ : ∃ s, f.2 = s := ⟨_, rfl⟩
                rw [hm] at hmv1 hnl hL
                rw [hs] at hss hns
                obtain ⟨AV, CV, rfl, hrv, hv1, hv2, hv3, hv4, hv5⟩ := hmv1
                obtain ⟨AP, hAP, hAR, _⟩ := slice_h (P := Try.prog) 32 5 Try.underlying32 one8d AV m CV n (n : Int) rfl (by omega)
                have e1 : ¬ (n : Int) < (s : Int) := by omega
                have e2 : ¬ (m : Int) < (n : Int) := by omega
                have e3 : ((n : Int) != (n : Int)) = false := by simp
                have HRP := Lib.hid hrp; have HSF := Lib.hid hsf; have HTL := Lib.hid htl; have HLT := Lib.hid hlt
                have HGB := Lib.hid h3; have HGS := Lib.hid h4; have HV := Lib.hid hv; have HSS := Lib.hid hss
                have HRV := Lib.hid hrv; have HV1 := Lib.hid hv1; have HAR := Lib.hid hAR
                have hn52 : n ≤ 5000 := by omega
                clear hf hfs hc hn hc1 hrp hsf htl hL h1 h2 h3 h4 h5 h6 h7 h8 h9 h10 hss hv hmv hm hs hrv hv1 hv2 hv3 hv4 hv5 hAR hlt
                go_wp2_with fail
                refine (DRead_any wr g 5000 vs8 (crashP ks d) (i : Int) D5.out OK8.out).mono ?_
                rintro en w6 ⟨vB, rfl, hm6, hf6, hb6⟩
                rw [HRP.out] at hm6 ⊢
                simp only at hm6
                rw [HTL.out] at hm6
                obtain ⟨AB, CB, rfl, -⟩ := id hm6
                have gb6 := HGB.out.below hb6 HGB.out.lt
                have gs6 := HGS.out.below hb6 HGS.out.lt
                have cb6 := gb6.cell i
                rw [List.getElem?_toArray, HV.out] at cb6
                have cs6 := gs6.cell i
                rw [List.getElem?_toArray, show (i64n ss)[i]? = some (.int .i64 (s : Int)) from by simp [i64n, HSS.out]] at cs6
                have lb6 := gb6.lt
                have ls6 := gs6.lt
                have M6 := Lib.hid hm6
                have D6 := Lib.hid (DskM.below D5.out hb6); have SR6 := Lib.hid (SR5.out.below hb6); have B6 := Lib.hid (B5.out.trans (hb6.mono B5.out.size))
                have RV6 := Lib.hid (HAR.out w6 _ _ (by rw [show (u8s f.1).length = m from by simp [u8s, HV1.out]]; omega) ((HRV.out.below hb6).more hb6.size))
                clear hm6 hf6 hb6 gb6 gs6
                go_wp2_with fail
                refine (same_at w6 AB AP CB CV (f.1.take n) (f.1.take n) _ _ n n true M6.out.rd_ofD (by have h := RV6.out; simpa [u8s, List.map_take] using h) (by rw [HTL.out]; unfold maxLen; omega) HTL.out HTL.out (by simp)).mono ?_
                rintro en w7 ⟨rfl, q, hq⟩
                have hb : Below w6.heap.size w6 w7 := by rw [hq]; exact below_drewN (Below.refl _ _) q
                have D7 := Lib.hid (DskM.below D6.out hb); have SR7 := Lib.hid (SR6.out.below hb); have B7 := Lib.hid (B6.out.trans (hb.mono B6.out.size))
                clear hb hq
                go_wp2_with fail
                refine (DSure_any w7 g 5000 vs8 _ _ _ _ (i : Int) D7.out).mono ?_
                rintro en w9 ⟨rfl, q, hq⟩
                rw [HSF.out]
                have hb : Below w7.heap.size w7 w9 := by rw [hq]; exact below_drewN (Below.refl _ _) q
                have D9 := Lib.hid (DskM.below D7.out hb); have SR9 := Lib.hid (SR7.out.below hb); have B9 := Lib.hid (B7.out.trans (hb.mono B7.out.size))
                clear hb hq cb6 cs6 lb6 ls6
                go_wp2
                go_roundw
                case rel => exact ⟨i + 1, by go_num, by have := HLT.out; omega, D9, SR9, B9⟩
                case measure => simp [intOf]; have := HLT.out; omega
              · go_wp2_with fail
                refine (DDown_any wr g 5000 vs8 _ _ _ _ D5.out).mono ?_
                rintro en w9 ⟨rfl, q, hq⟩
                have HP := Lib.hid (show TrueD w (.returned (.bool true)) w9 from ⟨rfl, by rw [hq]; exact below_drewN B5.out q⟩)
                clear hq
                go_wp2
                go_ret
                exact HP.out
end Go.Proofs.Ytahichieakdbnaa
