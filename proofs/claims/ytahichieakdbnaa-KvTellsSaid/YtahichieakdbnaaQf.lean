/- ref16: Apply. (written by gen_rap.py) -/
import Derived.Test.YtahichieakdbnaaQe
import Derived.BigQuiet
namespace Go.Proofs.Ytahichieakdbnaa
open Go.ChangeShapes Go.WideShapes Go.ChangeAt Go.RowKit Go.Maps
set_option linter.unusedVariables false
set_option linter.unusedSimpArgs false

set_option maxHeartbeats 4000000 in
set_option maxRecDepth 100000 in
theorem RApply_any (w : World) (r : Nat) (vK vV : Value) (st : St) (ws : List Wr) (A : Option Addr) (len cap M : Nat) (h : RS w r vK vV st) (hs : Km.Srt st) (hr : WrR w w.heap.size A ws) (hap : ∀ g' o', A = some ⟨g', o', none⟩ → ws ≠ [] → ¬ g' = r) (hn : ws.length = len) (hM : LeM M st) (hz : ∀ x ∈ ws, x.1.size ≤ M ∧ x.2.1.size ≤ M) (hM2 : M ≤ 100000) (hl : st.length + len ≤ 1000000) :
    Calls Try.prog 77 #[.pointer (some ⟨r, 0, none⟩), .slice A len cap] w (RApPost w r (Km.appl st ws)) := by
  obtain ⟨i0, hi, hz0, hz1, hz2⟩ := info_parts infoStrK
  have H0 := Lib.hid h; have HR := Lib.hid hr; have HAP := Lib.hid hap; have HN := Lib.hid hn; have HZ := Lib.hid hz; have HS := Lib.hid hs; have HM := Lib.hid hM
  have hl64 : len ≤ 1000000 := by omega
  obtain ⟨n0, hn0⟩ : ∃ q, st.length = q := ⟨_, rfl⟩
  have HN0 := Lib.hid hn0
  rw [hn0] at hl
  clear h hr hap hn hz hs hM hn0
  go_enter Try.func77, Try.ntmps77
  go_wp2
  go_loopw [4] (fun s4 wr => ∃ (k : Nat) (vK vV : Value), s4 = .int .i64 (k : Int) ∧ k ≤ len ∧ RS wr r vK vV (Km.appl st (ws.take k)) ∧ Only (fun j => j = r) w wr) (fun s4 _ => len - (intOf s4).toNat)
  case atStart => exact ⟨0, vK, vV, rfl, Nat.zero_le _, by simpa [Km.appl] using H0.out, Only.refl _ _⟩
  case round =>
    obtain ⟨k, vK, vV, rfl, hk, hS, hO⟩ := hrel
    obtain ⟨w0, hw0⟩ : ∃ x, x = wr := ⟨_, rfl⟩
    subst hw0
    have HO := Lib.hid hO
    by_cases hlt : k < len
    · have hltI : (k : Int) < (len : Int) := by omega
      obtain ⟨q, o, ⟨key, val, gone⟩, rfl, hq, hx, y0, y1, y2⟩ := WrR.row (WrR.only HR.out (Nat.le_refl _) hO HAP.out) (k := k) (by rw [HN.out]; exact hlt)
      have hqw : q < w0.heap.size := Nat.lt_of_lt_of_le hq hO.size
      have hqr : ¬ q = r := HAP.out q o rfl (by intro e; rw [e] at hx; simp at hx)
      obtain ⟨hz1', hz2'⟩ := HZ.out _ (List.mem_of_getElem? hx)
      simp only at hz1' hz2' y0 y1 y2
      obtain ⟨tt, htt⟩ : ∃ q, Km.appl st (ws.take k) = q := ⟨_, rfl⟩
      have HT1 : Hid (Km.appl st (ws.take (k + 1)) = Km.wr1 tt key.data.toList val.data.toList gone) := Lib.hid (by
        rw [List.take_add_one, hx, Option.toList_some, appl_wr1, htt])
      have HTS : Hid (Km.Srt tt) := Lib.hid (by rw [← htt]; exact HS.out.appl _)
      have HTM : Hid (LeM M tt) := Lib.hid (by rw [← htt]; exact HM.out.appl (fun x hx => HZ.out x (List.mem_of_mem_take hx)))
      obtain ⟨ns, hns⟩ : ∃ q, tt.length = q := ⟨_, rfl⟩
      have hnk : ns ≤ n0 + k := by
        rw [← hns, ← htt, ← HN0.out]
        refine Nat.le_trans (appl_len _ _) ?_
        have := List.length_take_le k ws
        omega
      rw [htt] at hS
      have HNS := Lib.hid hns
      obtain ⟨h1, h2, h3, h4⟩ := hS
      obtain ⟨AK, cK, rfl⟩ := own_sl h2
      obtain ⟨AV, cV, rfl⟩ := own_sl h3
      rw [hns] at h1 h2 h3
      have HK := Lib.hid h1; have H2 := Lib.hid h2; have H3 := Lib.hid h3
      have hrl := h1.lt
      have HAS := Lib.hid (AP.start h1)
      obtain ⟨kl, hkl⟩ : ∃ q, key.data.toList = q := ⟨_, rfl⟩
      obtain ⟨vl, hvl⟩ : ∃ q, val.data.toList = q := ⟨_, rfl⟩
      rw [hkl, hvl] at HT1
      have HKL : Hid (Km.ba kl = key) := Lib.hid (by rw [← hkl, Km.ba_data])
      have HVL : Hid (Km.ba vl = val) := Lib.hid (by rw [← hvl, Km.ba_data])
      have hkll : kl.length ≤ 100000 := by rw [← hkl, Array.length_toList]; exact Nat.le_trans hz1' hM2
      have Y0 := Lib.hid y0; have Y1 := Lib.hid y1; have Y2 := Lib.hid y2
      clear hO hx htt hns h1 h2 h3 h4 hkl hvl y0 y1 y2 hz1' hz2'
      go_wp2
      go_loopw [5, 6, 7] (fun s5 s6 s7 wq => ∃ j : Nat, s7 = .int .i64 (j : Int) ∧ j ≤ ns ∧ AP w0 wq r (.slice AK ns cK) (.slice AV ns cV) s5 s6 j j ((tt.take j).map (·.1)) ((tt.take j).map (·.2)) ∧ Hid (∀ q ∈ tt.take j, q.1 < kl)) (fun _ _ s7 _ => ns - (intOf s7).toNat)
      case atStart => exact ⟨0, rfl, Nat.zero_le _, by simpa using HAS.out, Lib.hid (by simp)⟩
      case round =>
        clear HAS
        obtain ⟨j, rfl, hj, hap, hpre⟩ := hrel
        obtain ⟨A5, c5, rfl⟩ := own_sl hap.2.2.1.1
        obtain ⟨A6, c6, rfl⟩ := own_sl hap.2.2.1.2.1
        have HA := Lib.hid hap
        have hwz := hap.size
        have a0 := hap.1.cell 0
        have a1 := hap.1.cell 1
        have al := hap.1.lt
        simp at a0 a1
        by_cases hjl : j < ns
        · have hjI : (j : Int) < (ns : Int) := by omega
          have HJL := Lib.hid hjl
          obtain ⟨⟨k1, v1⟩, hp⟩ : ∃ p, tt[j]? = some p := ⟨_, List.getElem?_eq_getElem (by rw [HNS.out]; exact hjl)⟩
          have hmem := HTM.out _ (List.mem_of_getElem? hp)
          simp only at hmem
          obtain ⟨qk, rfl, z0, hqk⟩ := strs_cell H2.out (k := j) (x := k1) (by rw [List.getElem?_map, hp]; rfl) hjl
          obtain ⟨qv, rfl, z1, hqv⟩ := strs_cell H3.out (k := j) (x := v1) (by rw [List.getElem?_map, hp]; rfl) hjl
          have hAB := Lib.hid (fun W => Above_any W kl k1 (by omega) (by omega))
          have hkl1 : k1.length ≤ 100000 := by omega
          obtain ⟨kb, hkb⟩ : ∃ kb, Km.ba k1 = kb := ⟨_, rfl⟩
          obtain ⟨vb, hvb⟩ : ∃ kb, Km.ba v1 = kb := ⟨_, rfl⟩
          rw [hkb] at z0 hAB
          rw [hvb] at z1
          rw [HKL.out] at hAB
          have HKB := Lib.hid hkb; have HVB := Lib.hid hvb; have HP := Lib.hid hp; have HPRE := hpre
          have Z0 := Lib.hid z0; have Z1 := Lib.hid z1
          have hkr : ¬ qk = r := own_ne_blk H2.out HK.out (by decide) qk rfl
          have hvr : ¬ qv = r := own_ne_blk H3.out HK.out (by decide) qv rfl
          obtain ⟨d, hd⟩ : ∃ d, decide (k1 < kl) = d := ⟨_, rfl⟩
          have HD := Lib.hid hd
          clear hmem hkb hvb hap hpre hd hp
          cases d with
          | true =>
            go_wp2
            refine Inv.region_below (fun i v w' => match i with
                | 0 => v = .int .i64 (j : Int)
                | 1 => v = .pointer (some ⟨r, 0, none⟩)
                | 2 => v = .pointer (some ⟨r, 0, none⟩)
                | 3 => v = .pointer (some ⟨r, 0, none⟩)
                | 4 => v = .slice (some ⟨qk, 0, none⟩) ns cK
                | 5 => v = .int .i64 (ns : Int)
                | 6 => v = .bool true
                | 7 => v = .bool true
                | 8 => v = .slice (some ⟨q, o, none⟩) len cap
                | 9 => v = .int .i64 (k : Int)
                | 10 => v = .pointer (some ⟨q, o + k * 3, none⟩)
                | 11 => v = .pointer (some ⟨q, o + k * 3, none⟩)
                | 12 => v = .string key
                | 13 => v = .pointer (some ⟨r, 0, none⟩)
                | 14 => v = .pointer (some ⟨r, 0, none⟩)
                | 15 => v = .pointer (some ⟨r, 0, none⟩)
                | 16 => v = .slice (some ⟨qk, 0, none⟩) ns cK
                | 17 => v = .int .i64 (j : Int)
                | 18 => v = .pointer (some ⟨qk, j, none⟩)
                | 19 => v = .string kb
                | 20 => v = .bool true
                | 21 => v = .bool true
                | _ => True)
              (fun w' => AP w0 w' r (.slice (some ⟨qk, 0, none⟩) ns cK) (.slice (some ⟨qv, 0, none⟩) ns cV) (.slice A5 j c5) (.slice A6 j c6) j j ((tt.take j).map (·.1)) ((tt.take j).map (·.2)) ∧ True) 128 [16, 17, 18, 19, 20, 21, 22, 23, 24, 25, 26, 27, 28, 29, 30, 31, 32, 33, 34, 35, 36, 37] (by kernel_rfl) rfl (by kernel_rfl) (by kernel_rfl) ?_ ?_ ?_ ?_
            · intro v v' hC hb
              obtain ⟨hC, -⟩ := hC
              exact ⟨hC.below hb, trivial⟩
            · exact ⟨HA.out, trivial⟩
            · refine ⟨⟨fun _ _ _ h _ => h, ?_⟩, ⟨fun _ _ _ h _ => h, ?_⟩, ⟨fun _ _ _ h _ => h, ?_⟩, ⟨fun _ _ _ h _ => h, ?_⟩, ⟨fun _ _ _ h _ => h, ?_⟩, ⟨fun _ _ _ h _ => h, ?_⟩, ⟨fun _ _ _ h _ => h, ?_⟩, ⟨fun _ _ _ h _ => h, ?_⟩, ⟨fun _ _ _ h _ => h, ?_⟩, ⟨fun _ _ _ h _ => h, ?_⟩, ⟨fun _ _ _ h _ => h, ?_⟩, ⟨fun _ _ _ h _ => h, ?_⟩, ⟨fun _ _ _ h _ => h, ?_⟩, ⟨fun _ _ _ h _ => h, ?_⟩, ⟨fun _ _ _ h _ => h, ?_⟩, ⟨fun _ _ _ h _ => h, ?_⟩, ⟨fun _ _ _ h _ => h, ?_⟩, ⟨fun _ _ _ h _ => h, ?_⟩, ⟨fun _ _ _ h _ => h, ?_⟩, ⟨fun _ _ _ h _ => h, ?_⟩, ⟨fun _ _ _ h _ => h, ?_⟩, ⟨fun _ _ _ h _ => h, ?_⟩, trivial⟩
              · intro act wa hC hd H O K hK
                clear hd
                obtain ⟨hC, -⟩ := hC
                have h7 := O 7 (by kernel_rfl)
                have g7 := Array.getD_eq_getD_getElem?.symm.trans h7
                clear H O
                have a0 := hC.1.cell 0
                have al := hC.1.lt
                have z0 := (hC.2.1.cellK (i := j) hqk hkr).trans Z0.out
                have u0 := (hC.2.1.cellK (i := o + k * 3) hqw hqr).trans Y0.out
                have hqk2 := Nat.lt_of_lt_of_le hqk hC.size
                have hqr3 := Nat.lt_of_lt_of_le hqw hC.size
                simp at a0
                go_simp
                exact hK _ _ (Below.refl _ _) (fun _ => rfl)
              · intro act wa hC hd H O K hK
                clear hd
                obtain ⟨hC, -⟩ := hC
                have h0 := O 0 (by kernel_rfl)
                have g0 := Array.getD_eq_getD_getElem?.symm.trans h0
                clear H O
                have a0 := hC.1.cell 0
                have al := hC.1.lt
                have z0 := (hC.2.1.cellK (i := j) hqk hkr).trans Z0.out
                have u0 := (hC.2.1.cellK (i := o + k * 3) hqw hqr).trans Y0.out
                have hqk2 := Nat.lt_of_lt_of_le hqk hC.size
                have hqr3 := Nat.lt_of_lt_of_le hqw hC.size
                simp at a0
                go_simp
                exact hK _ _ (Below.refl _ _) (fun _ => rfl)
              · intro act wa hC hd H O K hK
                clear hd
                obtain ⟨hC, -⟩ := hC
                have h17 : act.tmps.getD 17 undef = .pointer (some ⟨r, 0, none⟩) := H 1 1 17 (by kernel_rfl) rfl
                have g17 := Array.getD_eq_getD_getElem?.symm.trans h17
                clear H O
                have a0 := hC.1.cell 0
                have al := hC.1.lt
                have z0 := (hC.2.1.cellK (i := j) hqk hkr).trans Z0.out
                have u0 := (hC.2.1.cellK (i := o + k * 3) hqw hqr).trans Y0.out
                have hqk2 := Nat.lt_of_lt_of_le hqk hC.size
                have hqr3 := Nat.lt_of_lt_of_le hqw hC.size
                simp at a0
                go_simp
                exact hK _ _ (Below.refl _ _) (fun _ => rfl)
              · intro act wa hC hd H O K hK
                clear hd
                obtain ⟨hC, -⟩ := hC
                have h18 : act.tmps.getD 18 undef = .pointer (some ⟨r, 0, none⟩) := H 1 2 18 (by kernel_rfl) rfl
                have g18 := Array.getD_eq_getD_getElem?.symm.trans h18
                clear H O
                have a0 := hC.1.cell 0
                have al := hC.1.lt
                have z0 := (hC.2.1.cellK (i := j) hqk hkr).trans Z0.out
                have u0 := (hC.2.1.cellK (i := o + k * 3) hqw hqr).trans Y0.out
                have hqk2 := Nat.lt_of_lt_of_le hqk hC.size
                have hqr3 := Nat.lt_of_lt_of_le hqw hC.size
                simp at a0
                go_simp
                exact hK _ _ (Below.refl _ _) (fun _ => rfl)
              · intro act wa hC hd H O K hK
                clear hd
                obtain ⟨hC, -⟩ := hC
                have h19 : act.tmps.getD 19 undef = .pointer (some ⟨r, 0, none⟩) := H 1 3 19 (by kernel_rfl) rfl
                have g19 := Array.getD_eq_getD_getElem?.symm.trans h19
                clear H O
                have a0 := hC.1.cell 0
                have al := hC.1.lt
                have z0 := (hC.2.1.cellK (i := j) hqk hkr).trans Z0.out
                have u0 := (hC.2.1.cellK (i := o + k * 3) hqw hqr).trans Y0.out
                have hqk2 := Nat.lt_of_lt_of_le hqk hC.size
                have hqr3 := Nat.lt_of_lt_of_le hqw hC.size
                simp at a0
                go_simp
                exact hK _ _ (Below.refl _ _) (fun _ => rfl)
              · intro act wa hC hd H O K hK
                clear hd
                obtain ⟨hC, -⟩ := hC
                have h20 : act.tmps.getD 20 undef = .slice (some ⟨qk, 0, none⟩) ns cK := H 1 4 20 (by kernel_rfl) rfl
                have g20 := Array.getD_eq_getD_getElem?.symm.trans h20
                clear H O
                have a0 := hC.1.cell 0
                have al := hC.1.lt
                have z0 := (hC.2.1.cellK (i := j) hqk hkr).trans Z0.out
                have u0 := (hC.2.1.cellK (i := o + k * 3) hqw hqr).trans Y0.out
                have hqk2 := Nat.lt_of_lt_of_le hqk hC.size
                have hqr3 := Nat.lt_of_lt_of_le hqw hC.size
                simp at a0
                go_simp
                exact hK _ _ (Below.refl _ _) (fun _ => rfl)
              · intro act wa hC hd H O K hK
                clear hd
                obtain ⟨hC, -⟩ := hC
                have h16 : act.tmps.getD 16 undef = .int .i64 (j : Int) := H 1 0 16 (by kernel_rfl) rfl
                have g16 := Array.getD_eq_getD_getElem?.symm.trans h16
                have h21 : act.tmps.getD 21 undef = .int .i64 (ns : Int) := H 1 5 21 (by kernel_rfl) rfl
                have g21 := Array.getD_eq_getD_getElem?.symm.trans h21
                clear H O
                have a0 := hC.1.cell 0
                have al := hC.1.lt
                have z0 := (hC.2.1.cellK (i := j) hqk hkr).trans Z0.out
                have u0 := (hC.2.1.cellK (i := o + k * 3) hqw hqr).trans Y0.out
                have hqk2 := Nat.lt_of_lt_of_le hqk hC.size
                have hqr3 := Nat.lt_of_lt_of_le hqw hC.size
                simp at a0
                go_simp
                exact hK _ _ (Below.refl _ _) (fun _ => rfl)
              · intro act wa hC hd H O K hK
                clear hd
                obtain ⟨hC, -⟩ := hC
                have h22 : act.tmps.getD 22 undef = .bool true := H 1 6 22 (by kernel_rfl) rfl
                have g22 := Array.getD_eq_getD_getElem?.symm.trans h22
                clear H O
                have a0 := hC.1.cell 0
                have al := hC.1.lt
                have z0 := (hC.2.1.cellK (i := j) hqk hkr).trans Z0.out
                have u0 := (hC.2.1.cellK (i := o + k * 3) hqw hqr).trans Y0.out
                have hqk2 := Nat.lt_of_lt_of_le hqk hC.size
                have hqr3 := Nat.lt_of_lt_of_le hqw hC.size
                simp at a0
                go_simp
                exact hK _ _ (Below.refl _ _) (fun _ => rfl)
              · intro act wa hC hd H O K hK
                clear hd
                obtain ⟨hC, -⟩ := hC
                have h1 := O 1 (by kernel_rfl)
                have g1 := Array.getD_eq_getD_getElem?.symm.trans h1
                have h23 : act.tmps.getD 23 undef = .bool true := H 1 7 23 (by kernel_rfl) rfl
                have g23 := Array.getD_eq_getD_getElem?.symm.trans h23
                have k23 := Inv.some_bool g23
                clear H O
                have a0 := hC.1.cell 0
                have al := hC.1.lt
                have z0 := (hC.2.1.cellK (i := j) hqk hkr).trans Z0.out
                have u0 := (hC.2.1.cellK (i := o + k * 3) hqw hqr).trans Y0.out
                have hqk2 := Nat.lt_of_lt_of_le hqk hC.size
                have hqr3 := Nat.lt_of_lt_of_le hqw hC.size
                simp at a0
                go_simp
                exact hK _ _ (Below.refl _ _) (fun _ => rfl)
              · intro act wa hC hd H O K hK
                clear hd
                obtain ⟨hC, -⟩ := hC
                have h4 := O 4 (by kernel_rfl)
                have g4 := Array.getD_eq_getD_getElem?.symm.trans h4
                have h23 : act.tmps.getD 23 undef = .bool true := H 1 7 23 (by kernel_rfl) rfl
                have g23 := Array.getD_eq_getD_getElem?.symm.trans h23
                have k23 := Inv.some_bool g23
                clear H O
                have a0 := hC.1.cell 0
                have al := hC.1.lt
                have z0 := (hC.2.1.cellK (i := j) hqk hkr).trans Z0.out
                have u0 := (hC.2.1.cellK (i := o + k * 3) hqw hqr).trans Y0.out
                have hqk2 := Nat.lt_of_lt_of_le hqk hC.size
                have hqr3 := Nat.lt_of_lt_of_le hqw hC.size
                simp at a0
                go_simp
                exact hK _ _ (Below.refl _ _) (fun _ => rfl)
              · intro act wa hC hd H O K hK
                clear hd
                obtain ⟨hC, -⟩ := hC
                have h24 : act.tmps.getD 24 undef = .slice (some ⟨q, o, none⟩) len cap := H 1 8 24 (by kernel_rfl) rfl
                have g24 := Array.getD_eq_getD_getElem?.symm.trans h24
                have h25 : act.tmps.getD 25 undef = .int .i64 (k : Int) := H 1 9 25 (by kernel_rfl) rfl
                have g25 := Array.getD_eq_getD_getElem?.symm.trans h25
                have h23 : act.tmps.getD 23 undef = .bool true := H 1 7 23 (by kernel_rfl) rfl
                have g23 := Array.getD_eq_getD_getElem?.symm.trans h23
                have k23 := Inv.some_bool g23
                clear H O
                have a0 := hC.1.cell 0
                have al := hC.1.lt
                have z0 := (hC.2.1.cellK (i := j) hqk hkr).trans Z0.out
                have u0 := (hC.2.1.cellK (i := o + k * 3) hqw hqr).trans Y0.out
                have hqk2 := Nat.lt_of_lt_of_le hqk hC.size
                have hqr3 := Nat.lt_of_lt_of_le hqw hC.size
                simp at a0
                go_simp
                exact hK _ _ (Below.refl _ _) (fun _ => rfl)
              · intro act wa hC hd H O K hK
                clear hd
                obtain ⟨hC, -⟩ := hC
                have h26 : act.tmps.getD 26 undef = .pointer (some ⟨q, o + k * 3, none⟩) := H 1 10 26 (by kernel_rfl) rfl
                have g26 := Array.getD_eq_getD_getElem?.symm.trans h26
                have h23 : act.tmps.getD 23 undef = .bool true := H 1 7 23 (by kernel_rfl) rfl
                have g23 := Array.getD_eq_getD_getElem?.symm.trans h23
                have k23 := Inv.some_bool g23
                clear H O
                have a0 := hC.1.cell 0
                have al := hC.1.lt
                have z0 := (hC.2.1.cellK (i := j) hqk hkr).trans Z0.out
                have u0 := (hC.2.1.cellK (i := o + k * 3) hqw hqr).trans Y0.out
                have hqk2 := Nat.lt_of_lt_of_le hqk hC.size
                have hqr3 := Nat.lt_of_lt_of_le hqw hC.size
                simp at a0
                go_simp
                exact hK _ _ (Below.refl _ _) (fun _ => rfl)
              · intro act wa hC hd H O K hK
                clear hd
                obtain ⟨hC, -⟩ := hC
                have h27 : act.tmps.getD 27 undef = .pointer (some ⟨q, o + k * 3, none⟩) := H 1 11 27 (by kernel_rfl) rfl
                have g27 := Array.getD_eq_getD_getElem?.symm.trans h27
                have h23 : act.tmps.getD 23 undef = .bool true := H 1 7 23 (by kernel_rfl) rfl
                have g23 := Array.getD_eq_getD_getElem?.symm.trans h23
                have k23 := Inv.some_bool g23
                clear H O
                have a0 := hC.1.cell 0
                have al := hC.1.lt
                have z0 := (hC.2.1.cellK (i := j) hqk hkr).trans Z0.out
                have u0 := (hC.2.1.cellK (i := o + k * 3) hqw hqr).trans Y0.out
                have hqk2 := Nat.lt_of_lt_of_le hqk hC.size
                have hqr3 := Nat.lt_of_lt_of_le hqw hC.size
                simp at a0
                go_simp
                exact hK _ _ (Below.refl _ _) (fun _ => rfl)
              · intro act wa hC hd H O K hK
                clear hd
                obtain ⟨hC, -⟩ := hC
                have h0 := O 0 (by kernel_rfl)
                have g0 := Array.getD_eq_getD_getElem?.symm.trans h0
                have h23 : act.tmps.getD 23 undef = .bool true := H 1 7 23 (by kernel_rfl) rfl
                have g23 := Array.getD_eq_getD_getElem?.symm.trans h23
                have k23 := Inv.some_bool g23
                clear H O
                have a0 := hC.1.cell 0
                have al := hC.1.lt
                have z0 := (hC.2.1.cellK (i := j) hqk hkr).trans Z0.out
                have u0 := (hC.2.1.cellK (i := o + k * 3) hqw hqr).trans Y0.out
                have hqk2 := Nat.lt_of_lt_of_le hqk hC.size
                have hqr3 := Nat.lt_of_lt_of_le hqw hC.size
                simp at a0
                go_simp
                exact hK _ _ (Below.refl _ _) (fun _ => rfl)
              · intro act wa hC hd H O K hK
                clear hd
                obtain ⟨hC, -⟩ := hC
                have h29 : act.tmps.getD 29 undef = .pointer (some ⟨r, 0, none⟩) := H 1 13 29 (by kernel_rfl) rfl
                have g29 := Array.getD_eq_getD_getElem?.symm.trans h29
                have h23 : act.tmps.getD 23 undef = .bool true := H 1 7 23 (by kernel_rfl) rfl
                have g23 := Array.getD_eq_getD_getElem?.symm.trans h23
                have k23 := Inv.some_bool g23
                clear H O
                have a0 := hC.1.cell 0
                have al := hC.1.lt
                have z0 := (hC.2.1.cellK (i := j) hqk hkr).trans Z0.out
                have u0 := (hC.2.1.cellK (i := o + k * 3) hqw hqr).trans Y0.out
                have hqk2 := Nat.lt_of_lt_of_le hqk hC.size
                have hqr3 := Nat.lt_of_lt_of_le hqw hC.size
                simp at a0
                go_simp
                exact hK _ _ (Below.refl _ _) (fun _ => rfl)
              · intro act wa hC hd H O K hK
                clear hd
                obtain ⟨hC, -⟩ := hC
                have h30 : act.tmps.getD 30 undef = .pointer (some ⟨r, 0, none⟩) := H 1 14 30 (by kernel_rfl) rfl
                have g30 := Array.getD_eq_getD_getElem?.symm.trans h30
                have h23 : act.tmps.getD 23 undef = .bool true := H 1 7 23 (by kernel_rfl) rfl
                have g23 := Array.getD_eq_getD_getElem?.symm.trans h23
                have k23 := Inv.some_bool g23
                clear H O
                have a0 := hC.1.cell 0
                have al := hC.1.lt
                have z0 := (hC.2.1.cellK (i := j) hqk hkr).trans Z0.out
                have u0 := (hC.2.1.cellK (i := o + k * 3) hqw hqr).trans Y0.out
                have hqk2 := Nat.lt_of_lt_of_le hqk hC.size
                have hqr3 := Nat.lt_of_lt_of_le hqw hC.size
                simp at a0
                go_simp
                exact hK _ _ (Below.refl _ _) (fun _ => rfl)
              · intro act wa hC hd H O K hK
                clear hd
                obtain ⟨hC, -⟩ := hC
                have h31 : act.tmps.getD 31 undef = .pointer (some ⟨r, 0, none⟩) := H 1 15 31 (by kernel_rfl) rfl
                have g31 := Array.getD_eq_getD_getElem?.symm.trans h31
                have h23 : act.tmps.getD 23 undef = .bool true := H 1 7 23 (by kernel_rfl) rfl
                have g23 := Array.getD_eq_getD_getElem?.symm.trans h23
                have k23 := Inv.some_bool g23
                clear H O
                have a0 := hC.1.cell 0
                have al := hC.1.lt
                have z0 := (hC.2.1.cellK (i := j) hqk hkr).trans Z0.out
                have u0 := (hC.2.1.cellK (i := o + k * 3) hqw hqr).trans Y0.out
                have hqk2 := Nat.lt_of_lt_of_le hqk hC.size
                have hqr3 := Nat.lt_of_lt_of_le hqw hC.size
                simp at a0
                go_simp
                exact hK _ _ (Below.refl _ _) (fun _ => rfl)
              · intro act wa hC hd H O K hK
                clear hd
                obtain ⟨hC, -⟩ := hC
                have h7 := O 7 (by kernel_rfl)
                have g7 := Array.getD_eq_getD_getElem?.symm.trans h7
                have h23 : act.tmps.getD 23 undef = .bool true := H 1 7 23 (by kernel_rfl) rfl
                have g23 := Array.getD_eq_getD_getElem?.symm.trans h23
                have k23 := Inv.some_bool g23
                clear H O
                have a0 := hC.1.cell 0
                have al := hC.1.lt
                have z0 := (hC.2.1.cellK (i := j) hqk hkr).trans Z0.out
                have u0 := (hC.2.1.cellK (i := o + k * 3) hqw hqr).trans Y0.out
                have hqk2 := Nat.lt_of_lt_of_le hqk hC.size
                have hqr3 := Nat.lt_of_lt_of_le hqw hC.size
                simp at a0
                go_simp
                exact hK _ _ (Below.refl _ _) (fun _ => rfl)
              · intro act wa hC hd H O K hK
                clear hd
                obtain ⟨hC, -⟩ := hC
                have h32 : act.tmps.getD 32 undef = .slice (some ⟨qk, 0, none⟩) ns cK := H 1 16 32 (by kernel_rfl) rfl
                have g32 := Array.getD_eq_getD_getElem?.symm.trans h32
                have h33 : act.tmps.getD 33 undef = .int .i64 (j : Int) := H 1 17 33 (by kernel_rfl) rfl
                have g33 := Array.getD_eq_getD_getElem?.symm.trans h33
                have h23 : act.tmps.getD 23 undef = .bool true := H 1 7 23 (by kernel_rfl) rfl
                have g23 := Array.getD_eq_getD_getElem?.symm.trans h23
                have k23 := Inv.some_bool g23
                clear H O
                have a0 := hC.1.cell 0
                have al := hC.1.lt
                have z0 := (hC.2.1.cellK (i := j) hqk hkr).trans Z0.out
                have u0 := (hC.2.1.cellK (i := o + k * 3) hqw hqr).trans Y0.out
                have hqk2 := Nat.lt_of_lt_of_le hqk hC.size
                have hqr3 := Nat.lt_of_lt_of_le hqw hC.size
                simp at a0
                go_simp
                exact hK _ _ (Below.refl _ _) (fun _ => rfl)
              · intro act wa hC hd H O K hK
                clear hd
                obtain ⟨hC, -⟩ := hC
                have h34 : act.tmps.getD 34 undef = .pointer (some ⟨qk, j, none⟩) := H 1 18 34 (by kernel_rfl) rfl
                have g34 := Array.getD_eq_getD_getElem?.symm.trans h34
                have h23 : act.tmps.getD 23 undef = .bool true := H 1 7 23 (by kernel_rfl) rfl
                have g23 := Array.getD_eq_getD_getElem?.symm.trans h23
                have k23 := Inv.some_bool g23
                clear H O
                have a0 := hC.1.cell 0
                have al := hC.1.lt
                have z0 := (hC.2.1.cellK (i := j) hqk hkr).trans Z0.out
                have u0 := (hC.2.1.cellK (i := o + k * 3) hqw hqr).trans Y0.out
                have hqk2 := Nat.lt_of_lt_of_le hqk hC.size
                have hqr3 := Nat.lt_of_lt_of_le hqw hC.size
                simp at a0
                go_simp
                exact hK _ _ (Below.refl _ _) (fun _ => rfl)
              · intro act wa hC hd H O K hK
                clear hd
                obtain ⟨hC, -⟩ := hC
                have h28 : act.tmps.getD 28 undef = .string key := H 1 12 28 (by kernel_rfl) rfl
                have g28 := Array.getD_eq_getD_getElem?.symm.trans h28
                have h35 : act.tmps.getD 35 undef = .string kb := H 1 19 35 (by kernel_rfl) rfl
                have g35 := Array.getD_eq_getD_getElem?.symm.trans h35
                have h23 : act.tmps.getD 23 undef = .bool true := H 1 7 23 (by kernel_rfl) rfl
                have g23 := Array.getD_eq_getD_getElem?.symm.trans h23
                have k23 := Inv.some_bool g23
                clear H O
                have a0 := hC.1.cell 0
                have al := hC.1.lt
                have z0 := (hC.2.1.cellK (i := j) hqk hkr).trans Z0.out
                have u0 := (hC.2.1.cellK (i := o + k * 3) hqw hqr).trans Y0.out
                have hqk2 := Nat.lt_of_lt_of_le hqk hC.size
                have hqr3 := Nat.lt_of_lt_of_le hqw hC.size
                simp at a0
                go_simp
                refine (hAB.out wa).mono ?_
                rintro e1 w1 ⟨rfl, qn, rfl⟩
                rw [HD.out]
                exact hK _ _ (below_drewN (Below.refl _ _) _) (fun _ => rfl)
              · intro act wa hC hd H O K hK
                clear hd
                obtain ⟨hC, -⟩ := hC
                have h23 : act.tmps.getD 23 undef = .bool true := H 1 7 23 (by kernel_rfl) rfl
                have g23 := Array.getD_eq_getD_getElem?.symm.trans h23
                have h36 : act.tmps.getD 36 undef = .bool true := H 1 20 36 (by kernel_rfl) rfl
                have g36 := Array.getD_eq_getD_getElem?.symm.trans h36
                clear H O
                have a0 := hC.1.cell 0
                have al := hC.1.lt
                have z0 := (hC.2.1.cellK (i := j) hqk hkr).trans Z0.out
                have u0 := (hC.2.1.cellK (i := o + k * 3) hqw hqr).trans Y0.out
                have hqk2 := Nat.lt_of_lt_of_le hqk hC.size
                have hqr3 := Nat.lt_of_lt_of_le hqw hC.size
                simp at a0
                go_simp
                exact hK _ _ (Below.refl _ _) (fun _ => rfl)
            · intro us w' hC hF
              obtain ⟨hC, -⟩ := hC
              have u37 : us 37 = .bool true := hF 21 37 rfl
              clear hF
              simp only [List.foldl]
              go_simp
              have HA2 := Lib.hid hC
              have Z1F : ∀ x, Only (fun j => j = r) w0 x → x.cell? ⟨qv, j, none⟩ = some (.string vb) := fun x hO => (hO.cellK hqv hvr).trans Z1.out
              have X1F : ∀ x, Only (fun j => j = r) w0 x → x.cell? ⟨qk, j, none⟩ = some (.string kb) := fun x hO => (hO.cellK hqk hkr).trans Z0.out
              have a0' := hC.1.cell 0
              have al' := hC.1.lt
              have x1' := X1F w' hC.2.1
              simp at a0'
              clear hC a0 a1
              try rw [u37]
              go_wp2_with (at_builtin; go_must (first
                | (refine wpList_app_at rfl (.tmp 38) (.tmp 46) 70 rfl w0.heap.size 9 i0 (.string ⟨#[]⟩) 1 16 Try.underlying70 hi hz0 hz1 hz2 rfl (by decide) (.slice A5 j c5) j (((tt.take j).map (·.1)).map encStr) rfl (HA2.out.below ((Below.refl _ w').alloc (Nat.le_refl _) (.cells #[.string kb] 9))).2.2.1.1 (some ⟨w'.heap.size, 0, none⟩) 1 1 [.string kb] rfl rfl (.inr ⟨_, rfl, fun p u hu => by rw [addkK, (Blk.new w' 9 #[.string kb]).cell p]; simpa using hu⟩) (by intro u hu; simp at hu; subst hu; rfl) (by unfold maxLen; omega) (by omega) (by have := HA2.out.size; simp; omega) ?_; intro v7 w7 ho hg hat; obtain ⟨A7, c7, rfl⟩ := own_sl ho; have HA7 : Hid (AP w0 w7 r (.slice (some ⟨qk, 0, none⟩) ns cK) (.slice (some ⟨qv, 0, none⟩) ns cV) (.slice A7 (j + 1) c7) (.slice A6 j c6) (j + 1) j (((tt.take j).map (·.1)) ++ [k1]) ((tt.take j).map (·.2))) := Lib.hid ((HA2.out.below ((Below.refl _ w').alloc (Nat.le_refl _) (.cells #[.string kb] 9))).growK (by rw [List.map_append, List.map_singleton, Km.encStr_ba, HKB.out]; exact ho) hg hat); clear ho hg hat; have a0w7 := HA7.out.1.cell 0; have a1w7 := HA7.out.1.cell 1; have alw7 := HA7.out.1.lt; have eZ1Fw7 := Z1F w7 HA7.out.2.1; have eX1Fw7 := X1F w7 HA7.out.2.1; simp at a0w7 a1w7)
                | (refine wpList_app_at rfl (.tmp 48) (.tmp 56) 70 rfl w0.heap.size 9 i0 (.string ⟨#[]⟩) 1 16 Try.underlying70 hi hz0 hz1 hz2 rfl (by decide) (.slice A6 j c6) j (((tt.take j).map (·.2)).map encStr) rfl (HA7.out.below ((Below.refl _ w7).alloc (Nat.le_refl _) (.cells #[.string vb] 9))).2.2.1.2.1 (some ⟨w7.heap.size, 0, none⟩) 1 1 [.string vb] rfl rfl (.inr ⟨_, rfl, fun p u hu => by rw [addkK, (Blk.new w7 9 #[.string vb]).cell p]; simpa using hu⟩) (by intro u hu; simp at hu; subst hu; rfl) (by unfold maxLen; omega) (by omega) (by have := HA7.out.size; simp; omega) ?_; intro v9 w9 ho hg hat; obtain ⟨A9, c9, rfl⟩ := own_sl ho; have HA9 : Hid (AP w0 w9 r (.slice (some ⟨qk, 0, none⟩) ns cK) (.slice (some ⟨qv, 0, none⟩) ns cV) (.slice A7 (j + 1) c7) (.slice A9 (j + 1) c9) (j + 1) (j + 1) (((tt.take j).map (·.1)) ++ [k1]) (((tt.take j).map (·.2)) ++ [v1])) := Lib.hid ((HA7.out.below ((Below.refl _ w7).alloc (Nat.le_refl _) (.cells #[.string vb] 9))).growV (by rw [List.map_append, List.map_singleton, Km.encStr_ba, HVB.out]; exact ho) hg hat); clear ho hg hat; have a0w9 := HA9.out.1.cell 0; have a1w9 := HA9.out.1.cell 1; have alw9 := HA9.out.1.lt; have eZ1Fw9 := Z1F w9 HA9.out.2.1; have eX1Fw9 := X1F w9 HA9.out.2.1; simp at a0w9 a1w9)))
              have R := Lib.hid (show AP w0 w9 r (.slice (some ⟨qk, 0, none⟩) ns cK) (.slice (some ⟨qv, 0, none⟩) ns cV) (.slice A7 (j + 1) c7) (.slice A9 (j + 1) c9) (j + 1) (j + 1) ((tt.take (j + 1)).map (·.1)) ((tt.take (j + 1)).map (·.2)) from by
                rw [List.take_add_one, HP.out, Option.toList_some, List.map_append, List.map_append]
                exact HA9.out)
              have RP : Hid (∀ q ∈ tt.take (j + 1), q.1 < kl) := Lib.hid (lt_take HPRE.out HP.out (of_decide_eq_true HD.out))
              go_roundw
              case rel => exact ⟨j + 1, by go_num, HJL.out, R.out, RP⟩
              case measure => simp [intOf]; have := HJL.out; omega
          | false =>
            go_wp2
            refine Inv.region_below (fun i v w' => match i with
                | 0 => v = .int .i64 (j : Int)
                | 1 => v = .pointer (some ⟨r, 0, none⟩)
                | 2 => v = .pointer (some ⟨r, 0, none⟩)
                | 3 => v = .pointer (some ⟨r, 0, none⟩)
                | 4 => v = .slice (some ⟨qk, 0, none⟩) ns cK
                | 5 => v = .int .i64 (ns : Int)
                | 6 => v = .bool true
                | 7 => v = .bool true
                | 8 => v = .slice (some ⟨q, o, none⟩) len cap
                | 9 => v = .int .i64 (k : Int)
                | 10 => v = .pointer (some ⟨q, o + k * 3, none⟩)
                | 11 => v = .pointer (some ⟨q, o + k * 3, none⟩)
                | 12 => v = .string key
                | 13 => v = .pointer (some ⟨r, 0, none⟩)
                | 14 => v = .pointer (some ⟨r, 0, none⟩)
                | 15 => v = .pointer (some ⟨r, 0, none⟩)
                | 16 => v = .slice (some ⟨qk, 0, none⟩) ns cK
                | 17 => v = .int .i64 (j : Int)
                | 18 => v = .pointer (some ⟨qk, j, none⟩)
                | 19 => v = .string kb
                | 20 => v = .bool false
                | 21 => v = .bool false
                | _ => True)
              (fun w' => AP w0 w' r (.slice (some ⟨qk, 0, none⟩) ns cK) (.slice (some ⟨qv, 0, none⟩) ns cV) (.slice A5 j c5) (.slice A6 j c6) j j ((tt.take j).map (·.1)) ((tt.take j).map (·.2)) ∧ True) 128 [16, 17, 18, 19, 20, 21, 22, 23, 24, 25, 26, 27, 28, 29, 30, 31, 32, 33, 34, 35, 36, 37] (by kernel_rfl) rfl (by kernel_rfl) (by kernel_rfl) ?_ ?_ ?_ ?_
            · intro v v' hC hb
              obtain ⟨hC, -⟩ := hC
              exact ⟨hC.below hb, trivial⟩
            · exact ⟨HA.out, trivial⟩
            · refine ⟨⟨fun _ _ _ h _ => h, ?_⟩, ⟨fun _ _ _ h _ => h, ?_⟩, ⟨fun _ _ _ h _ => h, ?_⟩, ⟨fun _ _ _ h _ => h, ?_⟩, ⟨fun _ _ _ h _ => h, ?_⟩, ⟨fun _ _ _ h _ => h, ?_⟩, ⟨fun _ _ _ h _ => h, ?_⟩, ⟨fun _ _ _ h _ => h, ?_⟩, ⟨fun _ _ _ h _ => h, ?_⟩, ⟨fun _ _ _ h _ => h, ?_⟩, ⟨fun _ _ _ h _ => h, ?_⟩, ⟨fun _ _ _ h _ => h, ?_⟩, ⟨fun _ _ _ h _ => h, ?_⟩, ⟨fun _ _ _ h _ => h, ?_⟩, ⟨fun _ _ _ h _ => h, ?_⟩, ⟨fun _ _ _ h _ => h, ?_⟩, ⟨fun _ _ _ h _ => h, ?_⟩, ⟨fun _ _ _ h _ => h, ?_⟩, ⟨fun _ _ _ h _ => h, ?_⟩, ⟨fun _ _ _ h _ => h, ?_⟩, ⟨fun _ _ _ h _ => h, ?_⟩, ⟨fun _ _ _ h _ => h, ?_⟩, trivial⟩
              · intro act wa hC hd H O K hK
                clear hd
                obtain ⟨hC, -⟩ := hC
                have h7 := O 7 (by kernel_rfl)
                have g7 := Array.getD_eq_getD_getElem?.symm.trans h7
                clear H O
                have a0 := hC.1.cell 0
                have al := hC.1.lt
                have z0 := (hC.2.1.cellK (i := j) hqk hkr).trans Z0.out
                have u0 := (hC.2.1.cellK (i := o + k * 3) hqw hqr).trans Y0.out
                have hqk2 := Nat.lt_of_lt_of_le hqk hC.size
                have hqr3 := Nat.lt_of_lt_of_le hqw hC.size
                simp at a0
                go_simp
                exact hK _ _ (Below.refl _ _) (fun _ => rfl)
              · intro act wa hC hd H O K hK
                clear hd
                obtain ⟨hC, -⟩ := hC
                have h0 := O 0 (by kernel_rfl)
                have g0 := Array.getD_eq_getD_getElem?.symm.trans h0
                clear H O
                have a0 := hC.1.cell 0
                have al := hC.1.lt
                have z0 := (hC.2.1.cellK (i := j) hqk hkr).trans Z0.out
                have u0 := (hC.2.1.cellK (i := o + k * 3) hqw hqr).trans Y0.out
                have hqk2 := Nat.lt_of_lt_of_le hqk hC.size
                have hqr3 := Nat.lt_of_lt_of_le hqw hC.size
                simp at a0
                go_simp
                exact hK _ _ (Below.refl _ _) (fun _ => rfl)
              · intro act wa hC hd H O K hK
                clear hd
                obtain ⟨hC, -⟩ := hC
                have h17 : act.tmps.getD 17 undef = .pointer (some ⟨r, 0, none⟩) := H 1 1 17 (by kernel_rfl) rfl
                have g17 := Array.getD_eq_getD_getElem?.symm.trans h17
                clear H O
                have a0 := hC.1.cell 0
                have al := hC.1.lt
                have z0 := (hC.2.1.cellK (i := j) hqk hkr).trans Z0.out
                have u0 := (hC.2.1.cellK (i := o + k * 3) hqw hqr).trans Y0.out
                have hqk2 := Nat.lt_of_lt_of_le hqk hC.size
                have hqr3 := Nat.lt_of_lt_of_le hqw hC.size
                simp at a0
                go_simp
                exact hK _ _ (Below.refl _ _) (fun _ => rfl)
              · intro act wa hC hd H O K hK
                clear hd
                obtain ⟨hC, -⟩ := hC
                have h18 : act.tmps.getD 18 undef = .pointer (some ⟨r, 0, none⟩) := H 1 2 18 (by kernel_rfl) rfl
                have g18 := Array.getD_eq_getD_getElem?.symm.trans h18
                clear H O
                have a0 := hC.1.cell 0
                have al := hC.1.lt
                have z0 := (hC.2.1.cellK (i := j) hqk hkr).trans Z0.out
                have u0 := (hC.2.1.cellK (i := o + k * 3) hqw hqr).trans Y0.out
                have hqk2 := Nat.lt_of_lt_of_le hqk hC.size
                have hqr3 := Nat.lt_of_lt_of_le hqw hC.size
                simp at a0
                go_simp
                exact hK _ _ (Below.refl _ _) (fun _ => rfl)
              · intro act wa hC hd H O K hK
                clear hd
                obtain ⟨hC, -⟩ := hC
                have h19 : act.tmps.getD 19 undef = .pointer (some ⟨r, 0, none⟩) := H 1 3 19 (by kernel_rfl) rfl
                have g19 := Array.getD_eq_getD_getElem?.symm.trans h19
                clear H O
                have a0 := hC.1.cell 0
                have al := hC.1.lt
                have z0 := (hC.2.1.cellK (i := j) hqk hkr).trans Z0.out
                have u0 := (hC.2.1.cellK (i := o + k * 3) hqw hqr).trans Y0.out
                have hqk2 := Nat.lt_of_lt_of_le hqk hC.size
                have hqr3 := Nat.lt_of_lt_of_le hqw hC.size
                simp at a0
                go_simp
                exact hK _ _ (Below.refl _ _) (fun _ => rfl)
              · intro act wa hC hd H O K hK
                clear hd
                obtain ⟨hC, -⟩ := hC
                have h20 : act.tmps.getD 20 undef = .slice (some ⟨qk, 0, none⟩) ns cK := H 1 4 20 (by kernel_rfl) rfl
                have g20 := Array.getD_eq_getD_getElem?.symm.trans h20
                clear H O
                have a0 := hC.1.cell 0
                have al := hC.1.lt
                have z0 := (hC.2.1.cellK (i := j) hqk hkr).trans Z0.out
                have u0 := (hC.2.1.cellK (i := o + k * 3) hqw hqr).trans Y0.out
                have hqk2 := Nat.lt_of_lt_of_le hqk hC.size
                have hqr3 := Nat.lt_of_lt_of_le hqw hC.size
                simp at a0
                go_simp
                exact hK _ _ (Below.refl _ _) (fun _ => rfl)
              · intro act wa hC hd H O K hK
                clear hd
                obtain ⟨hC, -⟩ := hC
                have h16 : act.tmps.getD 16 undef = .int .i64 (j : Int) := H 1 0 16 (by kernel_rfl) rfl
                have g16 := Array.getD_eq_getD_getElem?.symm.trans h16
                have h21 : act.tmps.getD 21 undef = .int .i64 (ns : Int) := H 1 5 21 (by kernel_rfl) rfl
                have g21 := Array.getD_eq_getD_getElem?.symm.trans h21
                clear H O
                have a0 := hC.1.cell 0
                have al := hC.1.lt
                have z0 := (hC.2.1.cellK (i := j) hqk hkr).trans Z0.out
                have u0 := (hC.2.1.cellK (i := o + k * 3) hqw hqr).trans Y0.out
                have hqk2 := Nat.lt_of_lt_of_le hqk hC.size
                have hqr3 := Nat.lt_of_lt_of_le hqw hC.size
                simp at a0
                go_simp
                exact hK _ _ (Below.refl _ _) (fun _ => rfl)
              · intro act wa hC hd H O K hK
                clear hd
                obtain ⟨hC, -⟩ := hC
                have h22 : act.tmps.getD 22 undef = .bool true := H 1 6 22 (by kernel_rfl) rfl
                have g22 := Array.getD_eq_getD_getElem?.symm.trans h22
                clear H O
                have a0 := hC.1.cell 0
                have al := hC.1.lt
                have z0 := (hC.2.1.cellK (i := j) hqk hkr).trans Z0.out
                have u0 := (hC.2.1.cellK (i := o + k * 3) hqw hqr).trans Y0.out
                have hqk2 := Nat.lt_of_lt_of_le hqk hC.size
                have hqr3 := Nat.lt_of_lt_of_le hqw hC.size
                simp at a0
                go_simp
                exact hK _ _ (Below.refl _ _) (fun _ => rfl)
              · intro act wa hC hd H O K hK
                clear hd
                obtain ⟨hC, -⟩ := hC
                have h1 := O 1 (by kernel_rfl)
                have g1 := Array.getD_eq_getD_getElem?.symm.trans h1
                have h23 : act.tmps.getD 23 undef = .bool true := H 1 7 23 (by kernel_rfl) rfl
                have g23 := Array.getD_eq_getD_getElem?.symm.trans h23
                have k23 := Inv.some_bool g23
                clear H O
                have a0 := hC.1.cell 0
                have al := hC.1.lt
                have z0 := (hC.2.1.cellK (i := j) hqk hkr).trans Z0.out
                have u0 := (hC.2.1.cellK (i := o + k * 3) hqw hqr).trans Y0.out
                have hqk2 := Nat.lt_of_lt_of_le hqk hC.size
                have hqr3 := Nat.lt_of_lt_of_le hqw hC.size
                simp at a0
                go_simp
                exact hK _ _ (Below.refl _ _) (fun _ => rfl)
              · intro act wa hC hd H O K hK
                clear hd
                obtain ⟨hC, -⟩ := hC
                have h4 := O 4 (by kernel_rfl)
                have g4 := Array.getD_eq_getD_getElem?.symm.trans h4
                have h23 : act.tmps.getD 23 undef = .bool true := H 1 7 23 (by kernel_rfl) rfl
                have g23 := Array.getD_eq_getD_getElem?.symm.trans h23
                have k23 := Inv.some_bool g23
                clear H O
                have a0 := hC.1.cell 0
                have al := hC.1.lt
                have z0 := (hC.2.1.cellK (i := j) hqk hkr).trans Z0.out
                have u0 := (hC.2.1.cellK (i := o + k * 3) hqw hqr).trans Y0.out
                have hqk2 := Nat.lt_of_lt_of_le hqk hC.size
                have hqr3 := Nat.lt_of_lt_of_le hqw hC.size
                simp at a0
                go_simp
                exact hK _ _ (Below.refl _ _) (fun _ => rfl)
              · intro act wa hC hd H O K hK
                clear hd
                obtain ⟨hC, -⟩ := hC
                have h24 : act.tmps.getD 24 undef = .slice (some ⟨q, o, none⟩) len cap := H 1 8 24 (by kernel_rfl) rfl
                have g24 := Array.getD_eq_getD_getElem?.symm.trans h24
                have h25 : act.tmps.getD 25 undef = .int .i64 (k : Int) := H 1 9 25 (by kernel_rfl) rfl
                have g25 := Array.getD_eq_getD_getElem?.symm.trans h25
                have h23 : act.tmps.getD 23 undef = .bool true := H 1 7 23 (by kernel_rfl) rfl
                have g23 := Array.getD_eq_getD_getElem?.symm.trans h23
                have k23 := Inv.some_bool g23
                clear H O
                have a0 := hC.1.cell 0
                have al := hC.1.lt
                have z0 := (hC.2.1.cellK (i := j) hqk hkr).trans Z0.out
                have u0 := (hC.2.1.cellK (i := o + k * 3) hqw hqr).trans Y0.out
                have hqk2 := Nat.lt_of_lt_of_le hqk hC.size
                have hqr3 := Nat.lt_of_lt_of_le hqw hC.size
                simp at a0
                go_simp
                exact hK _ _ (Below.refl _ _) (fun _ => rfl)
              · intro act wa hC hd H O K hK
                clear hd
                obtain ⟨hC, -⟩ := hC
                have h26 : act.tmps.getD 26 undef = .pointer (some ⟨q, o + k * 3, none⟩) := H 1 10 26 (by kernel_rfl) rfl
                have g26 := Array.getD_eq_getD_getElem?.symm.trans h26
                have h23 : act.tmps.getD 23 undef = .bool true := H 1 7 23 (by kernel_rfl) rfl
                have g23 := Array.getD_eq_getD_getElem?.symm.trans h23
                have k23 := Inv.some_bool g23
                clear H O
                have a0 := hC.1.cell 0
                have al := hC.1.lt
                have z0 := (hC.2.1.cellK (i := j) hqk hkr).trans Z0.out
                have u0 := (hC.2.1.cellK (i := o + k * 3) hqw hqr).trans Y0.out
                have hqk2 := Nat.lt_of_lt_of_le hqk hC.size
                have hqr3 := Nat.lt_of_lt_of_le hqw hC.size
                simp at a0
                go_simp
                exact hK _ _ (Below.refl _ _) (fun _ => rfl)
              · intro act wa hC hd H O K hK
                clear hd
                obtain ⟨hC, -⟩ := hC
                have h27 : act.tmps.getD 27 undef = .pointer (some ⟨q, o + k * 3, none⟩) := H 1 11 27 (by kernel_rfl) rfl
                have g27 := Array.getD_eq_getD_getElem?.symm.trans h27
                have h23 : act.tmps.getD 23 undef = .bool true := H 1 7 23 (by kernel_rfl) rfl
                have g23 := Array.getD_eq_getD_getElem?.symm.trans h23
                have k23 := Inv.some_bool g23
                clear H O
                have a0 := hC.1.cell 0
                have al := hC.1.lt
                have z0 := (hC.2.1.cellK (i := j) hqk hkr).trans Z0.out
                have u0 := (hC.2.1.cellK (i := o + k * 3) hqw hqr).trans Y0.out
                have hqk2 := Nat.lt_of_lt_of_le hqk hC.size
                have hqr3 := Nat.lt_of_lt_of_le hqw hC.size
                simp at a0
                go_simp
                exact hK _ _ (Below.refl _ _) (fun _ => rfl)
              · intro act wa hC hd H O K hK
                clear hd
                obtain ⟨hC, -⟩ := hC
                have h0 := O 0 (by kernel_rfl)
                have g0 := Array.getD_eq_getD_getElem?.symm.trans h0
                have h23 : act.tmps.getD 23 undef = .bool true := H 1 7 23 (by kernel_rfl) rfl
                have g23 := Array.getD_eq_getD_getElem?.symm.trans h23
                have k23 := Inv.some_bool g23
                clear H O
                have a0 := hC.1.cell 0
                have al := hC.1.lt
                have z0 := (hC.2.1.cellK (i := j) hqk hkr).trans Z0.out
                have u0 := (hC.2.1.cellK (i := o + k * 3) hqw hqr).trans Y0.out
                have hqk2 := Nat.lt_of_lt_of_le hqk hC.size
                have hqr3 := Nat.lt_of_lt_of_le hqw hC.size
                simp at a0
                go_simp
                exact hK _ _ (Below.refl _ _) (fun _ => rfl)
              · intro act wa hC hd H O K hK
                clear hd
                obtain ⟨hC, -⟩ := hC
                have h29 : act.tmps.getD 29 undef = .pointer (some ⟨r, 0, none⟩) := H 1 13 29 (by kernel_rfl) rfl
                have g29 := Array.getD_eq_getD_getElem?.symm.trans h29
                have h23 : act.tmps.getD 23 undef = .bool true := H 1 7 23 (by kernel_rfl) rfl
                have g23 := Array.getD_eq_getD_getElem?.symm.trans h23
                have k23 := Inv.some_bool g23
                clear H O
                have a0 := hC.1.cell 0
                have al := hC.1.lt
                have z0 := (hC.2.1.cellK (i := j) hqk hkr).trans Z0.out
                have u0 := (hC.2.1.cellK (i := o + k * 3) hqw hqr).trans Y0.out
                have hqk2 := Nat.lt_of_lt_of_le hqk hC.size
                have hqr3 := Nat.lt_of_lt_of_le hqw hC.size
                simp at a0
                go_simp
                exact hK _ _ (Below.refl _ _) (fun _ => rfl)
              · intro act wa hC hd H O K hK
                clear hd
                obtain ⟨hC, -⟩ := hC
                have h30 : act.tmps.getD 30 undef = .pointer (some ⟨r, 0, none⟩) := H 1 14 30 (by kernel_rfl) rfl
                have g30 := Array.getD_eq_getD_getElem?.symm.trans h30
                have h23 : act.tmps.getD 23 undef = .bool true := H 1 7 23 (by kernel_rfl) rfl
                have g23 := Array.getD_eq_getD_getElem?.symm.trans h23
                have k23 := Inv.some_bool g23
                clear H O
                have a0 := hC.1.cell 0
                have al := hC.1.lt
                have z0 := (hC.2.1.cellK (i := j) hqk hkr).trans Z0.out
                have u0 := (hC.2.1.cellK (i := o + k * 3) hqw hqr).trans Y0.out
                have hqk2 := Nat.lt_of_lt_of_le hqk hC.size
                have hqr3 := Nat.lt_of_lt_of_le hqw hC.size
                simp at a0
                go_simp
                exact hK _ _ (Below.refl _ _) (fun _ => rfl)
              · intro act wa hC hd H O K hK
                clear hd
                obtain ⟨hC, -⟩ := hC
                have h31 : act.tmps.getD 31 undef = .pointer (some ⟨r, 0, none⟩) := H 1 15 31 (by kernel_rfl) rfl
                have g31 := Array.getD_eq_getD_getElem?.symm.trans h31
                have h23 : act.tmps.getD 23 undef = .bool true := H 1 7 23 (by kernel_rfl) rfl
                have g23 := Array.getD_eq_getD_getElem?.symm.trans h23
                have k23 := Inv.some_bool g23
                clear H O
                have a0 := hC.1.cell 0
                have al := hC.1.lt
                have z0 := (hC.2.1.cellK (i := j) hqk hkr).trans Z0.out
                have u0 := (hC.2.1.cellK (i := o + k * 3) hqw hqr).trans Y0.out
                have hqk2 := Nat.lt_of_lt_of_le hqk hC.size
                have hqr3 := Nat.lt_of_lt_of_le hqw hC.size
                simp at a0
                go_simp
                exact hK _ _ (Below.refl _ _) (fun _ => rfl)
              · intro act wa hC hd H O K hK
                clear hd
                obtain ⟨hC, -⟩ := hC
                have h7 := O 7 (by kernel_rfl)
                have g7 := Array.getD_eq_getD_getElem?.symm.trans h7
                have h23 : act.tmps.getD 23 undef = .bool true := H 1 7 23 (by kernel_rfl) rfl
                have g23 := Array.getD_eq_getD_getElem?.symm.trans h23
                have k23 := Inv.some_bool g23
                clear H O
                have a0 := hC.1.cell 0
                have al := hC.1.lt
                have z0 := (hC.2.1.cellK (i := j) hqk hkr).trans Z0.out
                have u0 := (hC.2.1.cellK (i := o + k * 3) hqw hqr).trans Y0.out
                have hqk2 := Nat.lt_of_lt_of_le hqk hC.size
                have hqr3 := Nat.lt_of_lt_of_le hqw hC.size
                simp at a0
                go_simp
                exact hK _ _ (Below.refl _ _) (fun _ => rfl)
              · intro act wa hC hd H O K hK
                clear hd
                obtain ⟨hC, -⟩ := hC
                have h32 : act.tmps.getD 32 undef = .slice (some ⟨qk, 0, none⟩) ns cK := H 1 16 32 (by kernel_rfl) rfl
                have g32 := Array.getD_eq_getD_getElem?.symm.trans h32
                have h33 : act.tmps.getD 33 undef = .int .i64 (j : Int) := H 1 17 33 (by kernel_rfl) rfl
                have g33 := Array.getD_eq_getD_getElem?.symm.trans h33
                have h23 : act.tmps.getD 23 undef = .bool true := H 1 7 23 (by kernel_rfl) rfl
                have g23 := Array.getD_eq_getD_getElem?.symm.trans h23
                have k23 := Inv.some_bool g23
                clear H O
                have a0 := hC.1.cell 0
                have al := hC.1.lt
                have z0 := (hC.2.1.cellK (i := j) hqk hkr).trans Z0.out
                have u0 := (hC.2.1.cellK (i := o + k * 3) hqw hqr).trans Y0.out
                have hqk2 := Nat.lt_of_lt_of_le hqk hC.size
                have hqr3 := Nat.lt_of_lt_of_le hqw hC.size
                simp at a0
                go_simp
                exact hK _ _ (Below.refl _ _) (fun _ => rfl)
              · intro act wa hC hd H O K hK
                clear hd
                obtain ⟨hC, -⟩ := hC
                have h34 : act.tmps.getD 34 undef = .pointer (some ⟨qk, j, none⟩) := H 1 18 34 (by kernel_rfl) rfl
                have g34 := Array.getD_eq_getD_getElem?.symm.trans h34
                have h23 : act.tmps.getD 23 undef = .bool true := H 1 7 23 (by kernel_rfl) rfl
                have g23 := Array.getD_eq_getD_getElem?.symm.trans h23
                have k23 := Inv.some_bool g23
                clear H O
                have a0 := hC.1.cell 0
                have al := hC.1.lt
                have z0 := (hC.2.1.cellK (i := j) hqk hkr).trans Z0.out
                have u0 := (hC.2.1.cellK (i := o + k * 3) hqw hqr).trans Y0.out
                have hqk2 := Nat.lt_of_lt_of_le hqk hC.size
                have hqr3 := Nat.lt_of_lt_of_le hqw hC.size
                simp at a0
                go_simp
                exact hK _ _ (Below.refl _ _) (fun _ => rfl)
              · intro act wa hC hd H O K hK
                clear hd
                obtain ⟨hC, -⟩ := hC
                have h28 : act.tmps.getD 28 undef = .string key := H 1 12 28 (by kernel_rfl) rfl
                have g28 := Array.getD_eq_getD_getElem?.symm.trans h28
                have h35 : act.tmps.getD 35 undef = .string kb := H 1 19 35 (by kernel_rfl) rfl
                have g35 := Array.getD_eq_getD_getElem?.symm.trans h35
                have h23 : act.tmps.getD 23 undef = .bool true := H 1 7 23 (by kernel_rfl) rfl
                have g23 := Array.getD_eq_getD_getElem?.symm.trans h23
                have k23 := Inv.some_bool g23
                clear H O
                have a0 := hC.1.cell 0
                have al := hC.1.lt
                have z0 := (hC.2.1.cellK (i := j) hqk hkr).trans Z0.out
                have u0 := (hC.2.1.cellK (i := o + k * 3) hqw hqr).trans Y0.out
                have hqk2 := Nat.lt_of_lt_of_le hqk hC.size
                have hqr3 := Nat.lt_of_lt_of_le hqw hC.size
                simp at a0
                go_simp
                refine (hAB.out wa).mono ?_
                rintro e1 w1 ⟨rfl, qn, rfl⟩
                rw [HD.out]
                exact hK _ _ (below_drewN (Below.refl _ _) _) (fun _ => rfl)
              · intro act wa hC hd H O K hK
                clear hd
                obtain ⟨hC, -⟩ := hC
                have h23 : act.tmps.getD 23 undef = .bool true := H 1 7 23 (by kernel_rfl) rfl
                have g23 := Array.getD_eq_getD_getElem?.symm.trans h23
                have h36 : act.tmps.getD 36 undef = .bool false := H 1 20 36 (by kernel_rfl) rfl
                have g36 := Array.getD_eq_getD_getElem?.symm.trans h36
                clear H O
                have a0 := hC.1.cell 0
                have al := hC.1.lt
                have z0 := (hC.2.1.cellK (i := j) hqk hkr).trans Z0.out
                have u0 := (hC.2.1.cellK (i := o + k * 3) hqw hqr).trans Y0.out
                have hqk2 := Nat.lt_of_lt_of_le hqk hC.size
                have hqr3 := Nat.lt_of_lt_of_le hqw hC.size
                simp at a0
                go_simp
                exact hK _ _ (Below.refl _ _) (fun _ => rfl)
            · intro us w' hC hF
              obtain ⟨hC, -⟩ := hC
              have u37 : us 37 = .bool false := hF 21 37 rfl
              clear hF
              simp only [List.foldl]
              go_simp
              have HGE : Hid (¬ k1 < kl) := Lib.hid (of_decide_eq_false HD.out)
              by_cases hkk : k1 = kl
              · have HKK := Lib.hid hkk
                obtain rfl : key = kb := by rw [← HKB.out, ← HKL.out, hkk]
                clear hkk
                cases gone with
                | true =>
                  have HA2 := Lib.hid hC
                  have U0F : ∀ x, Only (fun j => j = r) w0 x → x.cell? ⟨q, o + k * 3, none⟩ = some (.string key) := fun x hO => (hO.cellK hqw hqr).trans Y0.out
                  have U1F : ∀ x, Only (fun j => j = r) w0 x → x.cell? ⟨q, o + k * 3 + 1, none⟩ = some (.string val) := fun x hO => (hO.cellK hqw hqr).trans Y1.out
                  have X1F : ∀ x, Only (fun j => j = r) w0 x → x.cell? ⟨qk, j, none⟩ = some (.string key) := fun x hO => (hO.cellK hqk hkr).trans Z0.out
                  have u2 := (hC.2.1.cellK (i := o + k * 3 + 2) hqw hqr).trans Y2.out
                  have u0 := U0F _ hC.2.1
                  have u1 := U1F _ hC.2.1
                  obtain ⟨SK, q1, q2, q3⟩ := slice_strs ((j : Int) + 1) (by omega) H2.out (k := (j + 1)) (by omega)
                  obtain ⟨SV, p1, p2, p3⟩ := slice_strs ((j : Int) + 1) (by omega) H3.out (k := (j + 1)) (by omega)
                  obtain ⟨m2, hm2⟩ : ∃ m, ns - (j + 1) = m := ⟨_, rfl⟩
                  obtain ⟨cK2, hcK2⟩ : ∃ m, cK - (j + 1) = m := ⟨_, rfl⟩
                  obtain ⟨cV2, hcV2⟩ : ∃ m, cV - (j + 1) = m := ⟨_, rfl⟩
                  rw [hm2, hcK2] at q1 q2
                  rw [hm2, hcV2] at p1 p2
                  rw [hm2] at q3 p3
                  have hm3 : m2 ≤ ns := by omega
                  have Q2 := Lib.hid q2; have Q3 := Lib.hid q3; have P2 := Lib.hid p2; have P3 := Lib.hid p3; have HM2 := Lib.hid hm2
                  have b0 := hC.1.cell 0
                  have b1 := hC.1.cell 1
                  have bl := hC.1.lt
                  simp at b0 b1
                  have ux := X1F _ hC.2.1
                  clear q2 q3 p2 p3 hm2 hcK2 hcV2 hC a0 a1
                  try rw [u37]
                  go_wp2
                  go_quiet (fail)
                  have HA13 := Lib.hid (HA2.out.below (below_drewN (Below.refl _ w') nq))
                  go_wp2_with (first
                    | (refine wpList_app_at rfl (.tmp 107) (.tmp 113) 70 rfl w0.heap.size 9 i0 (.string ⟨#[]⟩) 1 16 Try.underlying70 hi hz0 hz1 hz2 rfl (by decide) (.slice A5 j c5) j (((tt.take j).map (·.1)).map encStr) rfl HA13.out.2.2.1.1 SK m2 cK2 (((tt.map (·.1)).drop (j + 1)).map encStr) rfl (by rw [List.length_map, Q3.out]; omega) (Q2.out _ 0 (HA13.out.old HK.out H2.out)) (enc_one _) (by unfold maxLen; omega) (by omega) HA13.out.size ?_; intro v15 w15 ho hg hat; obtain ⟨A15, c15, rfl⟩ := own_sl ho; have HA15 : Hid (AP w0 w15 r (.slice (some ⟨qk, 0, none⟩) ns cK) (.slice (some ⟨qv, 0, none⟩) ns cV) (.slice A15 (j + m2) c15) (.slice A6 j c6) (j + m2) j (((tt.take j).map (·.1)) ++ ((tt.map (·.1)).drop (j + 1))) ((tt.take j).map (·.2))) := Lib.hid (HA13.out.growK (by rw [List.map_append]; exact ho) hg hat); clear ho hg hat; have k15 := HA15.out.1.cell 0; have f15 := HA15.out.1.frozen 0; have l15 := HA15.out.1.lt; have HA15s := Lib.hid (HA15.out.setK (.slice A15 (j + m2) c15)); have ks15 := HA15s.out.1.cell 1; simp at k15 ks15)
                    | (refine wpList_app_at rfl (.tmp 118) (.tmp 124) 70 rfl w0.heap.size 9 i0 (.string ⟨#[]⟩) 1 16 Try.underlying70 hi hz0 hz1 hz2 rfl (by decide) (.slice A6 j c6) j (((tt.take j).map (·.2)).map encStr) rfl HA15s.out.2.2.1.2.1 SV m2 cV2 (((tt.map (·.2)).drop (j + 1)).map encStr) rfl (by rw [List.length_map, P3.out]; omega) (P2.out _ 0 (HA15s.out.old HK.out H3.out)) (enc_one _) (by unfold maxLen; omega) (by omega) HA15s.out.size ?_; intro v16 w16 ho hg hat; obtain ⟨A16, c16, rfl⟩ := own_sl ho; have HA16 : Hid (AP w0 w16 r (.slice A15 (j + m2) c15) (.slice (some ⟨qv, 0, none⟩) ns cV) (.slice A15 (j + m2) c15) (.slice A16 (j + m2) c16) (j + m2) (j + m2) (((tt.take j).map (·.1)) ++ ((tt.map (·.1)).drop (j + 1))) (((tt.take j).map (·.2)) ++ ((tt.map (·.2)).drop (j + 1)))) := Lib.hid (HA15s.out.growV (by rw [List.map_append]; exact ho) hg hat); clear ho hg hat; have k16 := HA16.out.1.cell 1; have f16 := HA16.out.1.frozen 1; have l16 := HA16.out.1.lt; have HA16s := Lib.hid (HA16.out.setV (.slice A16 (j + m2) c16)); simp at k16))
                  have R := Lib.hid (show RS (w16.setCell ⟨r, 1, none⟩ (.slice A16 (j + m2) c16)) r (.slice A15 (j + m2) c15) (.slice A16 (j + m2) c16) (Km.appl st (ws.take (k + 1))) from by
                    rw [HT1.out, show Km.wr1 tt kl vl true = tt.take j ++ Km.mid kl vl true ++ tt.drop (j + 1) from by
                      have h1 := Km.wr1_at vl true HTS.out HP.out HPRE.out HGE.out
                      rw [if_pos HKK.out] at h1
                      exact h1]
                    refine HA16s.out.rs ?_ ?_ ?_ ?_
                    · rw [List.length_append, List.length_append, List.length_take, List.length_drop, HNS.out, HM2.out, Nat.min_eq_left hj]; simp [Km.mid]
                    · rw [List.length_append, List.length_append, List.length_take, List.length_drop, HNS.out, HM2.out, Nat.min_eq_left hj]; simp [Km.mid]
                    · simp [Km.mid, List.map_append, List.map_take, List.map_drop]
                    · simp [Km.mid, List.map_append, List.map_take, List.map_drop])
                  have RO := Lib.hid (HO.out.trans HA16s.out.2.1 (Sub.refl _ _))
                  go_roundw
                  case rel => exact ⟨k + 1, _, _, by go_num, hlt, R.out, RO.out⟩
                  case measure => simp [intOf]; omega
                | false =>
                  have HA2 := Lib.hid hC
                  have U0F : ∀ x, Only (fun j => j = r) w0 x → x.cell? ⟨q, o + k * 3, none⟩ = some (.string key) := fun x hO => (hO.cellK hqw hqr).trans Y0.out
                  have U1F : ∀ x, Only (fun j => j = r) w0 x → x.cell? ⟨q, o + k * 3 + 1, none⟩ = some (.string val) := fun x hO => (hO.cellK hqw hqr).trans Y1.out
                  have X1F : ∀ x, Only (fun j => j = r) w0 x → x.cell? ⟨qk, j, none⟩ = some (.string key) := fun x hO => (hO.cellK hqk hkr).trans Z0.out
                  have u2 := (hC.2.1.cellK (i := o + k * 3 + 2) hqw hqr).trans Y2.out
                  have u0 := U0F _ hC.2.1
                  have u1 := U1F _ hC.2.1
                  obtain ⟨SK, q1, q2, q3⟩ := slice_strs ((j : Int) + 1) (by omega) H2.out (k := (j + 1)) (by omega)
                  obtain ⟨SV, p1, p2, p3⟩ := slice_strs ((j : Int) + 1) (by omega) H3.out (k := (j + 1)) (by omega)
                  obtain ⟨m2, hm2⟩ : ∃ m, ns - (j + 1) = m := ⟨_, rfl⟩
                  obtain ⟨cK2, hcK2⟩ : ∃ m, cK - (j + 1) = m := ⟨_, rfl⟩
                  obtain ⟨cV2, hcV2⟩ : ∃ m, cV - (j + 1) = m := ⟨_, rfl⟩
                  rw [hm2, hcK2] at q1 q2
                  rw [hm2, hcV2] at p1 p2
                  rw [hm2] at q3 p3
                  have hm3 : m2 ≤ ns := by omega
                  have Q2 := Lib.hid q2; have Q3 := Lib.hid q3; have P2 := Lib.hid p2; have P3 := Lib.hid p3; have HM2 := Lib.hid hm2
                  have b0 := hC.1.cell 0
                  have b1 := hC.1.cell 1
                  have bl := hC.1.lt
                  simp at b0 b1
                  have ux := X1F _ hC.2.1
                  clear q2 q3 p2 p3 hm2 hcK2 hcV2 hC a0 a1
                  try rw [u37]
                  go_wp2_with (first
                    | (refine wpList_app_at rfl (.tmp 66) (.tmp 72) 70 rfl w0.heap.size 9 i0 (.string ⟨#[]⟩) 1 16 Try.underlying70 hi hz0 hz1 hz2 rfl (by decide) (.slice A5 j c5) j (((tt.take j).map (·.1)).map encStr) rfl (HA2.out.below ((Below.refl _ w').alloc (Nat.le_refl _) (.cells #[.string key] 9))).2.2.1.1 (some ⟨w'.heap.size, 0, none⟩) 1 1 [.string key] rfl rfl (.inr ⟨_, rfl, fun p u hu => by rw [addkK, (Blk.new w' 9 #[.string key]).cell p]; simpa using hu⟩) (by intro u hu; simp at hu; subst hu; rfl) (by unfold maxLen; omega) (by omega) (by have := HA2.out.size; simp; omega) ?_; intro v11 w11 ho hg hat; obtain ⟨A11, c11, rfl⟩ := own_sl ho; have HA11 : Hid (AP w0 w11 r (.slice (some ⟨qk, 0, none⟩) ns cK) (.slice (some ⟨qv, 0, none⟩) ns cV) (.slice A11 (j + 1) c11) (.slice A6 j c6) (j + 1) j (((tt.take j).map (·.1)) ++ [kl]) ((tt.take j).map (·.2))) := Lib.hid ((HA2.out.below ((Below.refl _ w').alloc (Nat.le_refl _) (.cells #[.string key] 9))).growK (by rw [List.map_append, List.map_singleton, Km.encStr_ba, HKL.out]; exact ho) hg hat); clear ho hg hat; have a0w11 := HA11.out.1.cell 0; have a1w11 := HA11.out.1.cell 1; have alw11 := HA11.out.1.lt; have eU0Fw11 := U0F w11 HA11.out.2.1; have eU1Fw11 := U1F w11 HA11.out.2.1; have eX1Fw11 := X1F w11 HA11.out.2.1; simp at a0w11 a1w11)
                    | (refine wpList_app_at rfl (.tmp 74) (.tmp 80) 70 rfl w0.heap.size 9 i0 (.string ⟨#[]⟩) 1 16 Try.underlying70 hi hz0 hz1 hz2 rfl (by decide) (.slice A6 j c6) j (((tt.take j).map (·.2)).map encStr) rfl (HA11.out.below ((Below.refl _ w11).alloc (Nat.le_refl _) (.cells #[.string val] 9))).2.2.1.2.1 (some ⟨w11.heap.size, 0, none⟩) 1 1 [.string val] rfl rfl (.inr ⟨_, rfl, fun p u hu => by rw [addkK, (Blk.new w11 9 #[.string val]).cell p]; simpa using hu⟩) (by intro u hu; simp at hu; subst hu; rfl) (by unfold maxLen; omega) (by omega) (by have := HA11.out.size; simp; omega) ?_; intro v12 w12 ho hg hat; obtain ⟨A12, c12, rfl⟩ := own_sl ho; have HA12 : Hid (AP w0 w12 r (.slice (some ⟨qk, 0, none⟩) ns cK) (.slice (some ⟨qv, 0, none⟩) ns cV) (.slice A11 (j + 1) c11) (.slice A12 (j + 1) c12) (j + 1) (j + 1) (((tt.take j).map (·.1)) ++ [kl]) (((tt.take j).map (·.2)) ++ [vl])) := Lib.hid ((HA11.out.below ((Below.refl _ w11).alloc (Nat.le_refl _) (.cells #[.string val] 9))).growV (by rw [List.map_append, List.map_singleton, Km.encStr_ba, HVL.out]; exact ho) hg hat); clear ho hg hat; have a0w12 := HA12.out.1.cell 0; have a1w12 := HA12.out.1.cell 1; have alw12 := HA12.out.1.lt; have eU0Fw12 := U0F w12 HA12.out.2.1; have eU1Fw12 := U1F w12 HA12.out.2.1; have eX1Fw12 := X1F w12 HA12.out.2.1; simp at a0w12 a1w12))
                  go_quiet (fail)
                  have HA13 := Lib.hid (HA12.out.below (below_drewN (Below.refl _ w12) nq))
                  go_wp2_with (first
                    | (refine wpList_app_at rfl (.tmp 107) (.tmp 113) 70 rfl w0.heap.size 9 i0 (.string ⟨#[]⟩) 1 16 Try.underlying70 hi hz0 hz1 hz2 rfl (by decide) (.slice A11 (j + 1) c11) (j + 1) ((((tt.take j).map (·.1)) ++ [kl]).map encStr) rfl HA13.out.2.2.1.1 SK m2 cK2 (((tt.map (·.1)).drop (j + 1)).map encStr) rfl (by rw [List.length_map, Q3.out]; omega) (Q2.out _ 0 (HA13.out.old HK.out H2.out)) (enc_one _) (by unfold maxLen; omega) (by omega) HA13.out.size ?_; intro v15 w15 ho hg hat; obtain ⟨A15, c15, rfl⟩ := own_sl ho; have HA15 : Hid (AP w0 w15 r (.slice (some ⟨qk, 0, none⟩) ns cK) (.slice (some ⟨qv, 0, none⟩) ns cV) (.slice A15 ((j + 1) + m2) c15) (.slice A12 (j + 1) c12) ((j + 1) + m2) (j + 1) ((((tt.take j).map (·.1)) ++ [kl]) ++ ((tt.map (·.1)).drop (j + 1))) (((tt.take j).map (·.2)) ++ [vl])) := Lib.hid (HA13.out.growK (by rw [List.map_append]; exact ho) hg hat); clear ho hg hat; have k15 := HA15.out.1.cell 0; have f15 := HA15.out.1.frozen 0; have l15 := HA15.out.1.lt; have HA15s := Lib.hid (HA15.out.setK (.slice A15 ((j + 1) + m2) c15)); have ks15 := HA15s.out.1.cell 1; simp at k15 ks15)
                    | (refine wpList_app_at rfl (.tmp 118) (.tmp 124) 70 rfl w0.heap.size 9 i0 (.string ⟨#[]⟩) 1 16 Try.underlying70 hi hz0 hz1 hz2 rfl (by decide) (.slice A12 (j + 1) c12) (j + 1) ((((tt.take j).map (·.2)) ++ [vl]).map encStr) rfl HA15s.out.2.2.1.2.1 SV m2 cV2 (((tt.map (·.2)).drop (j + 1)).map encStr) rfl (by rw [List.length_map, P3.out]; omega) (P2.out _ 0 (HA15s.out.old HK.out H3.out)) (enc_one _) (by unfold maxLen; omega) (by omega) HA15s.out.size ?_; intro v16 w16 ho hg hat; obtain ⟨A16, c16, rfl⟩ := own_sl ho; have HA16 : Hid (AP w0 w16 r (.slice A15 ((j + 1) + m2) c15) (.slice (some ⟨qv, 0, none⟩) ns cV) (.slice A15 ((j + 1) + m2) c15) (.slice A16 ((j + 1) + m2) c16) ((j + 1) + m2) ((j + 1) + m2) ((((tt.take j).map (·.1)) ++ [kl]) ++ ((tt.map (·.1)).drop (j + 1))) ((((tt.take j).map (·.2)) ++ [vl]) ++ ((tt.map (·.2)).drop (j + 1)))) := Lib.hid (HA15s.out.growV (by rw [List.map_append]; exact ho) hg hat); clear ho hg hat; have k16 := HA16.out.1.cell 1; have f16 := HA16.out.1.frozen 1; have l16 := HA16.out.1.lt; have HA16s := Lib.hid (HA16.out.setV (.slice A16 ((j + 1) + m2) c16)); simp at k16))
                  have R := Lib.hid (show RS (w16.setCell ⟨r, 1, none⟩ (.slice A16 ((j + 1) + m2) c16)) r (.slice A15 ((j + 1) + m2) c15) (.slice A16 ((j + 1) + m2) c16) (Km.appl st (ws.take (k + 1))) from by
                    rw [HT1.out, show Km.wr1 tt kl vl false = tt.take j ++ Km.mid kl vl false ++ tt.drop (j + 1) from by
                      have h1 := Km.wr1_at vl false HTS.out HP.out HPRE.out HGE.out
                      rw [if_pos HKK.out] at h1
                      exact h1]
                    refine HA16s.out.rs ?_ ?_ ?_ ?_
                    · rw [List.length_append, List.length_append, List.length_take, List.length_drop, HNS.out, HM2.out, Nat.min_eq_left hj]; simp [Km.mid]
                    · rw [List.length_append, List.length_append, List.length_take, List.length_drop, HNS.out, HM2.out, Nat.min_eq_left hj]; simp [Km.mid]
                    · simp [Km.mid, List.map_append, List.map_take, List.map_drop]
                    · simp [Km.mid, List.map_append, List.map_take, List.map_drop])
                  have RO := Lib.hid (HO.out.trans HA16s.out.2.1 (Sub.refl _ _))
                  go_roundw
                  case rel => exact ⟨k + 1, _, _, by go_num, hlt, R.out, RO.out⟩
                  case measure => simp [intOf]; omega
              · have HKK := Lib.hid hkk
                have hcmp := (cmpK k1 kl).2
                rw [HKB.out, HKL.out, decide_eq_false hkk] at hcmp
                clear hkk
                cases gone with
                | true =>
                  have HA2 := Lib.hid hC
                  have U0F : ∀ x, Only (fun j => j = r) w0 x → x.cell? ⟨q, o + k * 3, none⟩ = some (.string key) := fun x hO => (hO.cellK hqw hqr).trans Y0.out
                  have U1F : ∀ x, Only (fun j => j = r) w0 x → x.cell? ⟨q, o + k * 3 + 1, none⟩ = some (.string val) := fun x hO => (hO.cellK hqw hqr).trans Y1.out
                  have X1F : ∀ x, Only (fun j => j = r) w0 x → x.cell? ⟨qk, j, none⟩ = some (.string kb) := fun x hO => (hO.cellK hqk hkr).trans Z0.out
                  have u2 := (hC.2.1.cellK (i := o + k * 3 + 2) hqw hqr).trans Y2.out
                  have u0 := U0F _ hC.2.1
                  have u1 := U1F _ hC.2.1
                  obtain ⟨SK, q1, q2, q3⟩ := slice_strs (j : Int) rfl H2.out (k := j) (by omega)
                  obtain ⟨SV, p1, p2, p3⟩ := slice_strs (j : Int) rfl H3.out (k := j) (by omega)
                  obtain ⟨m2, hm2⟩ : ∃ m, ns - j = m := ⟨_, rfl⟩
                  obtain ⟨cK2, hcK2⟩ : ∃ m, cK - j = m := ⟨_, rfl⟩
                  obtain ⟨cV2, hcV2⟩ : ∃ m, cV - j = m := ⟨_, rfl⟩
                  rw [hm2, hcK2] at q1 q2
                  rw [hm2, hcV2] at p1 p2
                  rw [hm2] at q3 p3
                  have hm3 : m2 ≤ ns := by omega
                  have Q2 := Lib.hid q2; have Q3 := Lib.hid q3; have P2 := Lib.hid p2; have P3 := Lib.hid p3; have HM2 := Lib.hid hm2
                  have b0 := hC.1.cell 0
                  have b1 := hC.1.cell 1
                  have bl := hC.1.lt
                  simp at b0 b1
                  have ux := X1F _ hC.2.1
                  clear q2 q3 p2 p3 hm2 hcK2 hcV2 hC a0 a1
                  try rw [u37]
                  go_wp2
                  go_quiet (fail)
                  have HA13 := Lib.hid (HA2.out.below (below_drewN (Below.refl _ w') nq))
                  go_wp2_with (first
                    | (refine wpList_app_at rfl (.tmp 107) (.tmp 113) 70 rfl w0.heap.size 9 i0 (.string ⟨#[]⟩) 1 16 Try.underlying70 hi hz0 hz1 hz2 rfl (by decide) (.slice A5 j c5) j (((tt.take j).map (·.1)).map encStr) rfl HA13.out.2.2.1.1 SK m2 cK2 (((tt.map (·.1)).drop j).map encStr) rfl (by rw [List.length_map, Q3.out]; omega) (Q2.out _ 0 (HA13.out.old HK.out H2.out)) (enc_one _) (by unfold maxLen; omega) (by omega) HA13.out.size ?_; intro v15 w15 ho hg hat; obtain ⟨A15, c15, rfl⟩ := own_sl ho; have HA15 : Hid (AP w0 w15 r (.slice (some ⟨qk, 0, none⟩) ns cK) (.slice (some ⟨qv, 0, none⟩) ns cV) (.slice A15 (j + m2) c15) (.slice A6 j c6) (j + m2) j (((tt.take j).map (·.1)) ++ ((tt.map (·.1)).drop j)) ((tt.take j).map (·.2))) := Lib.hid (HA13.out.growK (by rw [List.map_append]; exact ho) hg hat); clear ho hg hat; have k15 := HA15.out.1.cell 0; have f15 := HA15.out.1.frozen 0; have l15 := HA15.out.1.lt; have HA15s := Lib.hid (HA15.out.setK (.slice A15 (j + m2) c15)); have ks15 := HA15s.out.1.cell 1; simp at k15 ks15)
                    | (refine wpList_app_at rfl (.tmp 118) (.tmp 124) 70 rfl w0.heap.size 9 i0 (.string ⟨#[]⟩) 1 16 Try.underlying70 hi hz0 hz1 hz2 rfl (by decide) (.slice A6 j c6) j (((tt.take j).map (·.2)).map encStr) rfl HA15s.out.2.2.1.2.1 SV m2 cV2 (((tt.map (·.2)).drop j).map encStr) rfl (by rw [List.length_map, P3.out]; omega) (P2.out _ 0 (HA15s.out.old HK.out H3.out)) (enc_one _) (by unfold maxLen; omega) (by omega) HA15s.out.size ?_; intro v16 w16 ho hg hat; obtain ⟨A16, c16, rfl⟩ := own_sl ho; have HA16 : Hid (AP w0 w16 r (.slice A15 (j + m2) c15) (.slice (some ⟨qv, 0, none⟩) ns cV) (.slice A15 (j + m2) c15) (.slice A16 (j + m2) c16) (j + m2) (j + m2) (((tt.take j).map (·.1)) ++ ((tt.map (·.1)).drop j)) (((tt.take j).map (·.2)) ++ ((tt.map (·.2)).drop j))) := Lib.hid (HA15s.out.growV (by rw [List.map_append]; exact ho) hg hat); clear ho hg hat; have k16 := HA16.out.1.cell 1; have f16 := HA16.out.1.frozen 1; have l16 := HA16.out.1.lt; have HA16s := Lib.hid (HA16.out.setV (.slice A16 (j + m2) c16)); simp at k16))
                  have R := Lib.hid (show RS (w16.setCell ⟨r, 1, none⟩ (.slice A16 (j + m2) c16)) r (.slice A15 (j + m2) c15) (.slice A16 (j + m2) c16) (Km.appl st (ws.take (k + 1))) from by
                    rw [HT1.out, show Km.wr1 tt kl vl true = tt.take j ++ Km.mid kl vl true ++ tt.drop j from by
                      have h1 := Km.wr1_at vl true HTS.out HP.out HPRE.out HGE.out
                      rw [if_neg HKK.out] at h1
                      exact h1]
                    refine HA16s.out.rs ?_ ?_ ?_ ?_
                    · rw [List.length_append, List.length_append, List.length_take, List.length_drop, HNS.out, HM2.out, Nat.min_eq_left hj]; simp [Km.mid]
                    · rw [List.length_append, List.length_append, List.length_take, List.length_drop, HNS.out, HM2.out, Nat.min_eq_left hj]; simp [Km.mid]
                    · simp [Km.mid, List.map_append, List.map_take, List.map_drop]
                    · simp [Km.mid, List.map_append, List.map_take, List.map_drop])
                  have RO := Lib.hid (HO.out.trans HA16s.out.2.1 (Sub.refl _ _))
                  go_roundw
                  case rel => exact ⟨k + 1, _, _, by go_num, hlt, R.out, RO.out⟩
                  case measure => simp [intOf]; omega
                | false =>
                  have HA2 := Lib.hid hC
                  have U0F : ∀ x, Only (fun j => j = r) w0 x → x.cell? ⟨q, o + k * 3, none⟩ = some (.string key) := fun x hO => (hO.cellK hqw hqr).trans Y0.out
                  have U1F : ∀ x, Only (fun j => j = r) w0 x → x.cell? ⟨q, o + k * 3 + 1, none⟩ = some (.string val) := fun x hO => (hO.cellK hqw hqr).trans Y1.out
                  have X1F : ∀ x, Only (fun j => j = r) w0 x → x.cell? ⟨qk, j, none⟩ = some (.string kb) := fun x hO => (hO.cellK hqk hkr).trans Z0.out
                  have u2 := (hC.2.1.cellK (i := o + k * 3 + 2) hqw hqr).trans Y2.out
                  have u0 := U0F _ hC.2.1
                  have u1 := U1F _ hC.2.1
                  obtain ⟨SK, q1, q2, q3⟩ := slice_strs (j : Int) rfl H2.out (k := j) (by omega)
                  obtain ⟨SV, p1, p2, p3⟩ := slice_strs (j : Int) rfl H3.out (k := j) (by omega)
                  obtain ⟨m2, hm2⟩ : ∃ m, ns - j = m := ⟨_, rfl⟩
                  obtain ⟨cK2, hcK2⟩ : ∃ m, cK - j = m := ⟨_, rfl⟩
                  obtain ⟨cV2, hcV2⟩ : ∃ m, cV - j = m := ⟨_, rfl⟩
                  rw [hm2, hcK2] at q1 q2
                  rw [hm2, hcV2] at p1 p2
                  rw [hm2] at q3 p3
                  have hm3 : m2 ≤ ns := by omega
                  have Q2 := Lib.hid q2; have Q3 := Lib.hid q3; have P2 := Lib.hid p2; have P3 := Lib.hid p3; have HM2 := Lib.hid hm2
                  have b0 := hC.1.cell 0
                  have b1 := hC.1.cell 1
                  have bl := hC.1.lt
                  simp at b0 b1
                  have ux := X1F _ hC.2.1
                  clear q2 q3 p2 p3 hm2 hcK2 hcV2 hC a0 a1
                  try rw [u37]
                  go_wp2_with (first
                    | (refine wpList_app_at rfl (.tmp 66) (.tmp 72) 70 rfl w0.heap.size 9 i0 (.string ⟨#[]⟩) 1 16 Try.underlying70 hi hz0 hz1 hz2 rfl (by decide) (.slice A5 j c5) j (((tt.take j).map (·.1)).map encStr) rfl (HA2.out.below ((Below.refl _ w').alloc (Nat.le_refl _) (.cells #[.string key] 9))).2.2.1.1 (some ⟨w'.heap.size, 0, none⟩) 1 1 [.string key] rfl rfl (.inr ⟨_, rfl, fun p u hu => by rw [addkK, (Blk.new w' 9 #[.string key]).cell p]; simpa using hu⟩) (by intro u hu; simp at hu; subst hu; rfl) (by unfold maxLen; omega) (by omega) (by have := HA2.out.size; simp; omega) ?_; intro v11 w11 ho hg hat; obtain ⟨A11, c11, rfl⟩ := own_sl ho; have HA11 : Hid (AP w0 w11 r (.slice (some ⟨qk, 0, none⟩) ns cK) (.slice (some ⟨qv, 0, none⟩) ns cV) (.slice A11 (j + 1) c11) (.slice A6 j c6) (j + 1) j (((tt.take j).map (·.1)) ++ [kl]) ((tt.take j).map (·.2))) := Lib.hid ((HA2.out.below ((Below.refl _ w').alloc (Nat.le_refl _) (.cells #[.string key] 9))).growK (by rw [List.map_append, List.map_singleton, Km.encStr_ba, HKL.out]; exact ho) hg hat); clear ho hg hat; have a0w11 := HA11.out.1.cell 0; have a1w11 := HA11.out.1.cell 1; have alw11 := HA11.out.1.lt; have eU0Fw11 := U0F w11 HA11.out.2.1; have eU1Fw11 := U1F w11 HA11.out.2.1; have eX1Fw11 := X1F w11 HA11.out.2.1; simp at a0w11 a1w11)
                    | (refine wpList_app_at rfl (.tmp 74) (.tmp 80) 70 rfl w0.heap.size 9 i0 (.string ⟨#[]⟩) 1 16 Try.underlying70 hi hz0 hz1 hz2 rfl (by decide) (.slice A6 j c6) j (((tt.take j).map (·.2)).map encStr) rfl (HA11.out.below ((Below.refl _ w11).alloc (Nat.le_refl _) (.cells #[.string val] 9))).2.2.1.2.1 (some ⟨w11.heap.size, 0, none⟩) 1 1 [.string val] rfl rfl (.inr ⟨_, rfl, fun p u hu => by rw [addkK, (Blk.new w11 9 #[.string val]).cell p]; simpa using hu⟩) (by intro u hu; simp at hu; subst hu; rfl) (by unfold maxLen; omega) (by omega) (by have := HA11.out.size; simp; omega) ?_; intro v12 w12 ho hg hat; obtain ⟨A12, c12, rfl⟩ := own_sl ho; have HA12 : Hid (AP w0 w12 r (.slice (some ⟨qk, 0, none⟩) ns cK) (.slice (some ⟨qv, 0, none⟩) ns cV) (.slice A11 (j + 1) c11) (.slice A12 (j + 1) c12) (j + 1) (j + 1) (((tt.take j).map (·.1)) ++ [kl]) (((tt.take j).map (·.2)) ++ [vl])) := Lib.hid ((HA11.out.below ((Below.refl _ w11).alloc (Nat.le_refl _) (.cells #[.string val] 9))).growV (by rw [List.map_append, List.map_singleton, Km.encStr_ba, HVL.out]; exact ho) hg hat); clear ho hg hat; have a0w12 := HA12.out.1.cell 0; have a1w12 := HA12.out.1.cell 1; have alw12 := HA12.out.1.lt; have eU0Fw12 := U0F w12 HA12.out.2.1; have eU1Fw12 := U1F w12 HA12.out.2.1; have eX1Fw12 := X1F w12 HA12.out.2.1; simp at a0w12 a1w12))
                  go_quiet (fail)
                  have HA13 := Lib.hid (HA12.out.below (below_drewN (Below.refl _ w12) nq))
                  go_wp2_with (first
                    | (refine wpList_app_at rfl (.tmp 107) (.tmp 113) 70 rfl w0.heap.size 9 i0 (.string ⟨#[]⟩) 1 16 Try.underlying70 hi hz0 hz1 hz2 rfl (by decide) (.slice A11 (j + 1) c11) (j + 1) ((((tt.take j).map (·.1)) ++ [kl]).map encStr) rfl HA13.out.2.2.1.1 SK m2 cK2 (((tt.map (·.1)).drop j).map encStr) rfl (by rw [List.length_map, Q3.out]; omega) (Q2.out _ 0 (HA13.out.old HK.out H2.out)) (enc_one _) (by unfold maxLen; omega) (by omega) HA13.out.size ?_; intro v15 w15 ho hg hat; obtain ⟨A15, c15, rfl⟩ := own_sl ho; have HA15 : Hid (AP w0 w15 r (.slice (some ⟨qk, 0, none⟩) ns cK) (.slice (some ⟨qv, 0, none⟩) ns cV) (.slice A15 ((j + 1) + m2) c15) (.slice A12 (j + 1) c12) ((j + 1) + m2) (j + 1) ((((tt.take j).map (·.1)) ++ [kl]) ++ ((tt.map (·.1)).drop j)) (((tt.take j).map (·.2)) ++ [vl])) := Lib.hid (HA13.out.growK (by rw [List.map_append]; exact ho) hg hat); clear ho hg hat; have k15 := HA15.out.1.cell 0; have f15 := HA15.out.1.frozen 0; have l15 := HA15.out.1.lt; have HA15s := Lib.hid (HA15.out.setK (.slice A15 ((j + 1) + m2) c15)); have ks15 := HA15s.out.1.cell 1; simp at k15 ks15)
                    | (refine wpList_app_at rfl (.tmp 118) (.tmp 124) 70 rfl w0.heap.size 9 i0 (.string ⟨#[]⟩) 1 16 Try.underlying70 hi hz0 hz1 hz2 rfl (by decide) (.slice A12 (j + 1) c12) (j + 1) ((((tt.take j).map (·.2)) ++ [vl]).map encStr) rfl HA15s.out.2.2.1.2.1 SV m2 cV2 (((tt.map (·.2)).drop j).map encStr) rfl (by rw [List.length_map, P3.out]; omega) (P2.out _ 0 (HA15s.out.old HK.out H3.out)) (enc_one _) (by unfold maxLen; omega) (by omega) HA15s.out.size ?_; intro v16 w16 ho hg hat; obtain ⟨A16, c16, rfl⟩ := own_sl ho; have HA16 : Hid (AP w0 w16 r (.slice A15 ((j + 1) + m2) c15) (.slice (some ⟨qv, 0, none⟩) ns cV) (.slice A15 ((j + 1) + m2) c15) (.slice A16 ((j + 1) + m2) c16) ((j + 1) + m2) ((j + 1) + m2) ((((tt.take j).map (·.1)) ++ [kl]) ++ ((tt.map (·.1)).drop j)) ((((tt.take j).map (·.2)) ++ [vl]) ++ ((tt.map (·.2)).drop j))) := Lib.hid (HA15s.out.growV (by rw [List.map_append]; exact ho) hg hat); clear ho hg hat; have k16 := HA16.out.1.cell 1; have f16 := HA16.out.1.frozen 1; have l16 := HA16.out.1.lt; have HA16s := Lib.hid (HA16.out.setV (.slice A16 ((j + 1) + m2) c16)); simp at k16))
                  have R := Lib.hid (show RS (w16.setCell ⟨r, 1, none⟩ (.slice A16 ((j + 1) + m2) c16)) r (.slice A15 ((j + 1) + m2) c15) (.slice A16 ((j + 1) + m2) c16) (Km.appl st (ws.take (k + 1))) from by
                    rw [HT1.out, show Km.wr1 tt kl vl false = tt.take j ++ Km.mid kl vl false ++ tt.drop j from by
                      have h1 := Km.wr1_at vl false HTS.out HP.out HPRE.out HGE.out
                      rw [if_neg HKK.out] at h1
                      exact h1]
                    refine HA16s.out.rs ?_ ?_ ?_ ?_
                    · rw [List.length_append, List.length_append, List.length_take, List.length_drop, HNS.out, HM2.out, Nat.min_eq_left hj]; simp [Km.mid]
                    · rw [List.length_append, List.length_append, List.length_take, List.length_drop, HNS.out, HM2.out, Nat.min_eq_left hj]; simp [Km.mid]
                    · simp [Km.mid, List.map_append, List.map_take, List.map_drop]
                    · simp [Km.mid, List.map_append, List.map_take, List.map_drop])
                  have RO := Lib.hid (HO.out.trans HA16s.out.2.1 (Sub.refl _ _))
                  go_roundw
                  case rel => exact ⟨k + 1, _, _, by go_num, hlt, R.out, RO.out⟩
                  case measure => simp [intOf]; omega
        · obtain rfl : j = ns := by omega
          have hjI : ¬ (j : Int) < (j : Int) := by omega
          have hpre' : ∀ q ∈ tt, q.1 < kl := by
            have h1 := hpre.out
            rw [List.take_of_length_le (by rw [HNS.out]; exact Nat.le_refl _)] at h1
            exact h1
          have HPE := Lib.hid hpre'
          clear hap hpre hpre'
          go_wp2
          go_quiet (fail)
          obtain ⟨wc, hwc⟩ : ∃ x, x = wr.drewN nq := ⟨_, rfl⟩
          have hC := HA.out.below (below_drewN (Below.refl _ wr) nq)
          rw [← hwc] at hC ⊢
          clear hwc
          cases gone with
          | true =>
            have HA2 := Lib.hid hC
            have U0F : ∀ x, Only (fun j => j = r) w0 x → x.cell? ⟨q, o + k * 3, none⟩ = some (.string key) := fun x hO => (hO.cellK hqw hqr).trans Y0.out
            have U1F : ∀ x, Only (fun j => j = r) w0 x → x.cell? ⟨q, o + k * 3 + 1, none⟩ = some (.string val) := fun x hO => (hO.cellK hqw hqr).trans Y1.out
            have u2 := (hC.2.1.cellK (i := o + k * 3 + 2) hqw hqr).trans Y2.out
            have u0 := U0F _ hC.2.1
            have u1 := U1F _ hC.2.1
            obtain ⟨SK, q1, q2, q3⟩ := slice_strs (j : Int) rfl H2.out (k := j) (by omega)
            obtain ⟨SV, p1, p2, p3⟩ := slice_strs (j : Int) rfl H3.out (k := j) (by omega)
            obtain ⟨m2, hm2⟩ : ∃ m, j - j = m := ⟨_, rfl⟩
            obtain ⟨cK2, hcK2⟩ : ∃ m, cK - j = m := ⟨_, rfl⟩
            obtain ⟨cV2, hcV2⟩ : ∃ m, cV - j = m := ⟨_, rfl⟩
            rw [hm2, hcK2] at q1 q2
            rw [hm2, hcV2] at p1 p2
            rw [hm2] at q3 p3
            have hm3 : m2 ≤ j := by omega
            have Q2 := Lib.hid q2; have Q3 := Lib.hid q3; have P2 := Lib.hid p2; have P3 := Lib.hid p3; have HM2 := Lib.hid hm2
            have b0 := hC.1.cell 0
            have b1 := hC.1.cell 1
            have bl := hC.1.lt
            simp at b0 b1
            clear q2 q3 p2 p3 hm2 hcK2 hcV2 hC a0 a1
            go_wp2
            go_quiet (fail)
            have HA13 := Lib.hid (HA2.out.below (below_drewN (Below.refl _ wc) nq))
            go_wp2_with (first
              | (refine wpList_app_at rfl (.tmp 107) (.tmp 113) 70 rfl w0.heap.size 9 i0 (.string ⟨#[]⟩) 1 16 Try.underlying70 hi hz0 hz1 hz2 rfl (by decide) (.slice A5 j c5) j (((tt.take j).map (·.1)).map encStr) rfl HA13.out.2.2.1.1 SK m2 cK2 (((tt.map (·.1)).drop j).map encStr) rfl (by rw [List.length_map, Q3.out]; omega) (Q2.out _ 0 (HA13.out.old HK.out H2.out)) (enc_one _) (by unfold maxLen; omega) (by omega) HA13.out.size ?_; intro v15 w15 ho hg hat; obtain ⟨A15, c15, rfl⟩ := own_sl ho; have HA15 : Hid (AP w0 w15 r (.slice AK j cK) (.slice AV j cV) (.slice A15 (j + m2) c15) (.slice A6 j c6) (j + m2) j (((tt.take j).map (·.1)) ++ ((tt.map (·.1)).drop j)) ((tt.take j).map (·.2))) := Lib.hid (HA13.out.growK (by rw [List.map_append]; exact ho) hg hat); clear ho hg hat; have k15 := HA15.out.1.cell 0; have f15 := HA15.out.1.frozen 0; have l15 := HA15.out.1.lt; have HA15s := Lib.hid (HA15.out.setK (.slice A15 (j + m2) c15)); have ks15 := HA15s.out.1.cell 1; simp at k15 ks15)
              | (refine wpList_app_at rfl (.tmp 118) (.tmp 124) 70 rfl w0.heap.size 9 i0 (.string ⟨#[]⟩) 1 16 Try.underlying70 hi hz0 hz1 hz2 rfl (by decide) (.slice A6 j c6) j (((tt.take j).map (·.2)).map encStr) rfl HA15s.out.2.2.1.2.1 SV m2 cV2 (((tt.map (·.2)).drop j).map encStr) rfl (by rw [List.length_map, P3.out]; omega) (P2.out _ 0 (HA15s.out.old HK.out H3.out)) (enc_one _) (by unfold maxLen; omega) (by omega) HA15s.out.size ?_; intro v16 w16 ho hg hat; obtain ⟨A16, c16, rfl⟩ := own_sl ho; have HA16 : Hid (AP w0 w16 r (.slice A15 (j + m2) c15) (.slice AV j cV) (.slice A15 (j + m2) c15) (.slice A16 (j + m2) c16) (j + m2) (j + m2) (((tt.take j).map (·.1)) ++ ((tt.map (·.1)).drop j)) (((tt.take j).map (·.2)) ++ ((tt.map (·.2)).drop j))) := Lib.hid (HA15s.out.growV (by rw [List.map_append]; exact ho) hg hat); clear ho hg hat; have k16 := HA16.out.1.cell 1; have f16 := HA16.out.1.frozen 1; have l16 := HA16.out.1.lt; have HA16s := Lib.hid (HA16.out.setV (.slice A16 (j + m2) c16)); simp at k16))
            have R := Lib.hid (show RS (w16.setCell ⟨r, 1, none⟩ (.slice A16 (j + m2) c16)) r (.slice A15 (j + m2) c15) (.slice A16 (j + m2) c16) (Km.appl st (ws.take (k + 1))) from by
              rw [HT1.out, show Km.wr1 tt kl vl true = tt.take j ++ Km.mid kl vl true ++ tt.drop j from by
                rw [List.take_of_length_le (by rw [HNS.out]; exact Nat.le_refl _), List.drop_of_length_le (by rw [HNS.out]; exact Nat.le_refl _), List.append_nil]
                exact Km.wr1_end vl true HPE.out]
              refine HA16s.out.rs ?_ ?_ ?_ ?_
              · rw [List.length_append, List.length_append, List.length_take, List.length_drop, HNS.out, HM2.out, Nat.min_eq_left hj]; simp [Km.mid]
              · rw [List.length_append, List.length_append, List.length_take, List.length_drop, HNS.out, HM2.out, Nat.min_eq_left hj]; simp [Km.mid]
              · simp [Km.mid, List.map_append, List.map_take, List.map_drop]
              · simp [Km.mid, List.map_append, List.map_take, List.map_drop])
            have RO := Lib.hid (HO.out.trans HA16s.out.2.1 (Sub.refl _ _))
            go_roundw
            case rel => exact ⟨k + 1, _, _, by go_num, hlt, R.out, RO.out⟩
            case measure => simp [intOf]; omega
          | false =>
            have HA2 := Lib.hid hC
            have U0F : ∀ x, Only (fun j => j = r) w0 x → x.cell? ⟨q, o + k * 3, none⟩ = some (.string key) := fun x hO => (hO.cellK hqw hqr).trans Y0.out
            have U1F : ∀ x, Only (fun j => j = r) w0 x → x.cell? ⟨q, o + k * 3 + 1, none⟩ = some (.string val) := fun x hO => (hO.cellK hqw hqr).trans Y1.out
            have u2 := (hC.2.1.cellK (i := o + k * 3 + 2) hqw hqr).trans Y2.out
            have u0 := U0F _ hC.2.1
            have u1 := U1F _ hC.2.1
            obtain ⟨SK, q1, q2, q3⟩ := slice_strs (j : Int) rfl H2.out (k := j) (by omega)
            obtain ⟨SV, p1, p2, p3⟩ := slice_strs (j : Int) rfl H3.out (k := j) (by omega)
            obtain ⟨m2, hm2⟩ : ∃ m, j - j = m := ⟨_, rfl⟩
            obtain ⟨cK2, hcK2⟩ : ∃ m, cK - j = m := ⟨_, rfl⟩
            obtain ⟨cV2, hcV2⟩ : ∃ m, cV - j = m := ⟨_, rfl⟩
            rw [hm2, hcK2] at q1 q2
            rw [hm2, hcV2] at p1 p2
            rw [hm2] at q3 p3
            have hm3 : m2 ≤ j := by omega
            have Q2 := Lib.hid q2; have Q3 := Lib.hid q3; have P2 := Lib.hid p2; have P3 := Lib.hid p3; have HM2 := Lib.hid hm2
            have b0 := hC.1.cell 0
            have b1 := hC.1.cell 1
            have bl := hC.1.lt
            simp at b0 b1
            clear q2 q3 p2 p3 hm2 hcK2 hcV2 hC a0 a1
            go_wp2_with (first
              | (refine wpList_app_at rfl (.tmp 66) (.tmp 72) 70 rfl w0.heap.size 9 i0 (.string ⟨#[]⟩) 1 16 Try.underlying70 hi hz0 hz1 hz2 rfl (by decide) (.slice A5 j c5) j (((tt.take j).map (·.1)).map encStr) rfl (HA2.out.below ((Below.refl _ wc).alloc (Nat.le_refl _) (.cells #[.string key] 9))).2.2.1.1 (some ⟨wc.heap.size, 0, none⟩) 1 1 [.string key] rfl rfl (.inr ⟨_, rfl, fun p u hu => by rw [addkK, (Blk.new wc 9 #[.string key]).cell p]; simpa using hu⟩) (by intro u hu; simp at hu; subst hu; rfl) (by unfold maxLen; omega) (by omega) (by have := HA2.out.size; simp; omega) ?_; intro v11 w11 ho hg hat; obtain ⟨A11, c11, rfl⟩ := own_sl ho; have HA11 : Hid (AP w0 w11 r (.slice AK j cK) (.slice AV j cV) (.slice A11 (j + 1) c11) (.slice A6 j c6) (j + 1) j (((tt.take j).map (·.1)) ++ [kl]) ((tt.take j).map (·.2))) := Lib.hid ((HA2.out.below ((Below.refl _ wc).alloc (Nat.le_refl _) (.cells #[.string key] 9))).growK (by rw [List.map_append, List.map_singleton, Km.encStr_ba, HKL.out]; exact ho) hg hat); clear ho hg hat; have a0w11 := HA11.out.1.cell 0; have a1w11 := HA11.out.1.cell 1; have alw11 := HA11.out.1.lt; have eU0Fw11 := U0F w11 HA11.out.2.1; have eU1Fw11 := U1F w11 HA11.out.2.1; simp at a0w11 a1w11)
              | (refine wpList_app_at rfl (.tmp 74) (.tmp 80) 70 rfl w0.heap.size 9 i0 (.string ⟨#[]⟩) 1 16 Try.underlying70 hi hz0 hz1 hz2 rfl (by decide) (.slice A6 j c6) j (((tt.take j).map (·.2)).map encStr) rfl (HA11.out.below ((Below.refl _ w11).alloc (Nat.le_refl _) (.cells #[.string val] 9))).2.2.1.2.1 (some ⟨w11.heap.size, 0, none⟩) 1 1 [.string val] rfl rfl (.inr ⟨_, rfl, fun p u hu => by rw [addkK, (Blk.new w11 9 #[.string val]).cell p]; simpa using hu⟩) (by intro u hu; simp at hu; subst hu; rfl) (by unfold maxLen; omega) (by omega) (by have := HA11.out.size; simp; omega) ?_; intro v12 w12 ho hg hat; obtain ⟨A12, c12, rfl⟩ := own_sl ho; have HA12 : Hid (AP w0 w12 r (.slice AK j cK) (.slice AV j cV) (.slice A11 (j + 1) c11) (.slice A12 (j + 1) c12) (j + 1) (j + 1) (((tt.take j).map (·.1)) ++ [kl]) (((tt.take j).map (·.2)) ++ [vl])) := Lib.hid ((HA11.out.below ((Below.refl _ w11).alloc (Nat.le_refl _) (.cells #[.string val] 9))).growV (by rw [List.map_append, List.map_singleton, Km.encStr_ba, HVL.out]; exact ho) hg hat); clear ho hg hat; have a0w12 := HA12.out.1.cell 0; have a1w12 := HA12.out.1.cell 1; have alw12 := HA12.out.1.lt; have eU0Fw12 := U0F w12 HA12.out.2.1; have eU1Fw12 := U1F w12 HA12.out.2.1; simp at a0w12 a1w12))
            go_quiet (fail)
            have HA13 := Lib.hid (HA12.out.below (below_drewN (Below.refl _ w12) nq))
            go_wp2_with (first
              | (refine wpList_app_at rfl (.tmp 107) (.tmp 113) 70 rfl w0.heap.size 9 i0 (.string ⟨#[]⟩) 1 16 Try.underlying70 hi hz0 hz1 hz2 rfl (by decide) (.slice A11 (j + 1) c11) (j + 1) ((((tt.take j).map (·.1)) ++ [kl]).map encStr) rfl HA13.out.2.2.1.1 SK m2 cK2 (((tt.map (·.1)).drop j).map encStr) rfl (by rw [List.length_map, Q3.out]; omega) (Q2.out _ 0 (HA13.out.old HK.out H2.out)) (enc_one _) (by unfold maxLen; omega) (by omega) HA13.out.size ?_; intro v15 w15 ho hg hat; obtain ⟨A15, c15, rfl⟩ := own_sl ho; have HA15 : Hid (AP w0 w15 r (.slice AK j cK) (.slice AV j cV) (.slice A15 ((j + 1) + m2) c15) (.slice A12 (j + 1) c12) ((j + 1) + m2) (j + 1) ((((tt.take j).map (·.1)) ++ [kl]) ++ ((tt.map (·.1)).drop j)) (((tt.take j).map (·.2)) ++ [vl])) := Lib.hid (HA13.out.growK (by rw [List.map_append]; exact ho) hg hat); clear ho hg hat; have k15 := HA15.out.1.cell 0; have f15 := HA15.out.1.frozen 0; have l15 := HA15.out.1.lt; have HA15s := Lib.hid (HA15.out.setK (.slice A15 ((j + 1) + m2) c15)); have ks15 := HA15s.out.1.cell 1; simp at k15 ks15)
              | (refine wpList_app_at rfl (.tmp 118) (.tmp 124) 70 rfl w0.heap.size 9 i0 (.string ⟨#[]⟩) 1 16 Try.underlying70 hi hz0 hz1 hz2 rfl (by decide) (.slice A12 (j + 1) c12) (j + 1) ((((tt.take j).map (·.2)) ++ [vl]).map encStr) rfl HA15s.out.2.2.1.2.1 SV m2 cV2 (((tt.map (·.2)).drop j).map encStr) rfl (by rw [List.length_map, P3.out]; omega) (P2.out _ 0 (HA15s.out.old HK.out H3.out)) (enc_one _) (by unfold maxLen; omega) (by omega) HA15s.out.size ?_; intro v16 w16 ho hg hat; obtain ⟨A16, c16, rfl⟩ := own_sl ho; have HA16 : Hid (AP w0 w16 r (.slice A15 ((j + 1) + m2) c15) (.slice AV j cV) (.slice A15 ((j + 1) + m2) c15) (.slice A16 ((j + 1) + m2) c16) ((j + 1) + m2) ((j + 1) + m2) ((((tt.take j).map (·.1)) ++ [kl]) ++ ((tt.map (·.1)).drop j)) ((((tt.take j).map (·.2)) ++ [vl]) ++ ((tt.map (·.2)).drop j))) := Lib.hid (HA15s.out.growV (by rw [List.map_append]; exact ho) hg hat); clear ho hg hat; have k16 := HA16.out.1.cell 1; have f16 := HA16.out.1.frozen 1; have l16 := HA16.out.1.lt; have HA16s := Lib.hid (HA16.out.setV (.slice A16 ((j + 1) + m2) c16)); simp at k16))
            have R := Lib.hid (show RS (w16.setCell ⟨r, 1, none⟩ (.slice A16 ((j + 1) + m2) c16)) r (.slice A15 ((j + 1) + m2) c15) (.slice A16 ((j + 1) + m2) c16) (Km.appl st (ws.take (k + 1))) from by
              rw [HT1.out, show Km.wr1 tt kl vl false = tt.take j ++ Km.mid kl vl false ++ tt.drop j from by
                rw [List.take_of_length_le (by rw [HNS.out]; exact Nat.le_refl _), List.drop_of_length_le (by rw [HNS.out]; exact Nat.le_refl _), List.append_nil]
                exact Km.wr1_end vl false HPE.out]
              refine HA16s.out.rs ?_ ?_ ?_ ?_
              · rw [List.length_append, List.length_append, List.length_take, List.length_drop, HNS.out, HM2.out, Nat.min_eq_left hj]; simp [Km.mid]
              · rw [List.length_append, List.length_append, List.length_take, List.length_drop, HNS.out, HM2.out, Nat.min_eq_left hj]; simp [Km.mid]
              · simp [Km.mid, List.map_append, List.map_take, List.map_drop]
              · simp [Km.mid, List.map_append, List.map_take, List.map_drop])
            have RO := Lib.hid (HO.out.trans HA16s.out.2.1 (Sub.refl _ _))
            go_roundw
            case rel => exact ⟨k + 1, _, _, by go_num, hlt, R.out, RO.out⟩
            case measure => simp [intOf]; omega
    · obtain rfl : k = len := by omega
      have HP := Lib.hid (show RApPost w r (Km.appl st ws) (.returned (.tuple #[])) w0 from ⟨rfl, vK, vV, by rw [List.take_of_length_le (by rw [HN.out]; exact Nat.le_refl _)] at hS; exact hS, HO.out⟩)
      clear hS hO
      go_wp2
      go_end0
      exact HP.out
end Go.Proofs.Ytahichieakdbnaa
