/- law 3's awake. -/
import Derived.Test.YtignfhdblakcfaaDoorRsm
import Derived.Test.YtignfhdblakcfaaDoorFsc
import Derived.Test.YtignfhdblakcfaaDoorFal
import Derived.OwnWalk
namespace Go.Proofs.YtignfhdblakcfaaDoor
open Go.ChangeShapes Go.WideShapes Go.ChangeAt Go.RowKit
set_option linter.unusedVariables false
set_option linter.unusedSimpArgs false

theorem rd8 (w : World) (t : TypeId) (bs : List Nat) (cs : Array Value) (h : u8s bs = cs.toList) : Rd (w.alloc (.cells cs t)) (w.alloc (.cells cs t)).heap.size (some ⟨w.heap.size, 0, none⟩) (u8s bs) := (Rd.new8 w t bs cs h).more (by simp)
/-- two rows of bytes, laid as literals -/
theorem rows2 (w : World) (g : Nat) (hg : g = w.heap.size) (A1 A2 : Option Addr) (t : TypeId) (p q : List Nat) (n1 n2 : Nat) (h1 : Rd w w.heap.size A1 (u8s p)) (h2 : Rd w w.heap.size A2 (u8s q)) (e1 : p.length = n1) (e2 : q.length = n2) (hA1 : A1 ≠ none) (hA2 : A2 ≠ none) (k1 : ∀ b ∈ p, b < 256) (k2 : ∀ b ∈ q, b < 256) (hn1 : n1 ≤ 1000) (hn2 : n2 ≤ 1000) :
    RowsB (w.alloc (.cells #[.slice A1 n1 n1, .slice A2 n2 n2] t)) (w.alloc (.cells #[.slice A1 n1 n1, .slice A2 n2 n2] t)).heap.size (some ⟨g, 0, none⟩) [p, q] := by
  subst e1 e2 hg
  refine ⟨[.slice A1 p.length p.length, .slice A2 q.length q.length], rfl, (Rd.new w _ t).more (by simp), fun j v x hv hx => ?_⟩
  match j, hv, hx with
  | 0, hv, hx =>
    simp at hv hx
    subst hv hx
    exact ⟨A1, _, rfl, (h1.alloc _).more (by simp), Nat.le_refl _, by unfold maxLen; omega, fun h => absurd h hA1, k1⟩
  | 1, hv, hx =>
    simp at hv hx
    subst hv hx
    exact ⟨A2, _, rfl, (h2.alloc _).more (by simp), Nat.le_refl _, by unfold maxLen; omega, fun h => absurd h hA2, k2⟩
  | n + 2, hv, _ => simp at hv
theorem two_short : ∀ (j : Nat) (p : List Nat), ([[1], []] : List (List Nat))[j]? = some p → p.length ≤ 1099511627776 := by
  intro j p hp
  match j, hp with
  | 0, hp => simp at hp; subst hp; simp
  | 1, hp => simp at hp; subst hp; simp
  | n + 2, hp => simp at hp
theorem RowsB.more {w : World} {B B' : Nat} {A : Option Addr} {ps : List (List Nat)} (h : RowsB w B A ps) (hB : B ≤ B') : RowsB w B' A ps := by
  obtain ⟨vs, h1, h2, h3⟩ := h
  exact ⟨vs, h1, h2.more hB, fun j v p hv hp => by
    obtain ⟨A', c, e, r, t⟩ := h3 j v p hv hp
    exact ⟨A', c, e, r.more hB, t⟩⟩
def TrueP (w : World) (e : Ending) (w' : World) : Prop := e = .returned (.bool true) ∧ Below w.heap.size w w'
set_option maxRecDepth 100000 in
set_option maxHeartbeats 4000000 in
theorem awake3_any (w : World) (hT : Tab w) : Calls Tryd.prog 6 #[] w (TrueP w) := by
  obtain ⟨i0, hi, hz0, hz1, hz2⟩ := info_parts Tryd.infoB
  obtain ⟨fs, hfs⟩ : ∃ fs, Fm.fr [97, 98] = fs := ⟨_, rfl⟩
  have HFL : Hid (fs.length = 7) := Lib.hid (by rw [← hfs]; decide +kernel)
  have HFN : Hid (Fm.next (fs ++ [9]) = ([97, 98], 7, 0)) := Lib.hid (by rw [← hfs]; decide +kernel)
  have HFT : Hid (Fm.next (Cm.turn fs 8 1) = ([], 0, 5)) := Lib.hid (by rw [← hfs]; decide +kernel)
  have HFS := Lib.hid hfs; clear hfs
  obtain ⟨bs, hbs⟩ : ∃ bs, frs [[1], []] = bs := ⟨_, rfl⟩
  have HBL : Hid (bs.length = 11) := Lib.hid (by rw [← hbs]; decide +kernel)
  have HBS : Hid (Fm.scan (bs ++ [7]) = ([[1], []], 11, 2)) := Lib.hid (by rw [← hbs]; decide +kernel)
  have HAE : Hid (allE [[1], []] = 0 ∧ allB [[1], []] = bs) := Lib.hid (by rw [← hbs]; decide +kernel)
  have HT := Lib.hid hT; clear hbs hT
  have kc := fun (w : World) (C : Array Value) (n c : Nat) => Lib.run_convert_bytes_const (P := Tryd.prog) w 22 5 C n c Tryd.underlying22 Tryd.underlying5
  have b0 := (Below.refl w.heap.size w).alloc (Nat.le_refl _) (.cells #[.int .u8 97, .int .u8 98] 5 (2, 3))
  have HB0 := Lib.hid b0; clear b0
  go_enter Tryd.func6, Tryd.ntmps6
  go_wp2_with fail
  refine (Wrap_at _ _ 2 2 [97, 98] (HT.out.below HB0.out) ((Rd.newm w #[.int .u8 97, .int .u8 98] 5 (2, 3)).more (by simp)) (by decide) rfl (by omega) (fun h => by cases h) fs 7 HFS.out HFL.out).mono ?_
  rintro e w1 ⟨v, rfl, ⟨Af, cf, rfl, hrf, _, hcf, hmf, h256f, hnf⟩, hb⟩
  have HW1 := Lib.hid (HB0.out.trans (hb.mono HB0.out.size))
  have HF1 := Lib.hid hrf; have H256F := Lib.hid h256f; have HNF := Lib.hid hnf; have HMF := Lib.hid hmf
  clear hb hrf h256f hnf hmf
  -- append(append([]byte{}, f...), 9)
  have ho1 := own_lit0 w1 5 w1.heap.size (Nat.le_refl _)
  have hb1 := (Below.refl w1.heap.size w1).alloc (Nat.le_refl _) (.cells #[] 5)
  have HULF : Hid ((u8s fs).length = 7) := Lib.hid (by simp [HFL.out])
  have tok1 : True := trivial
  go_wp2_with (first
    | (at_builtin; have _t := tok1; go_must (refine app_own rfl (.tmp 29) (.tmp 30) 22 rfl w1.heap.size 5 i0 (.int .u8 0) 1 Tryd.underlying22 hi hz0 hz1 hz2 rfl (.slice (some ⟨w1.heap.size, 0, none⟩) 0 0) 0 [] rfl ho1 _ Af 7 cf (u8s fs) rfl HULF.out (HF1.out.alloc _) HNF.out (u8s_one _) (by unfold maxLen; omega) (by omega) (by simp) ?_; intro v2 w2 ho2 hg2 _hne2; have hb2 := hb1.grown hg2 (by simp) (fun k hk => (ho1.lt k hk).1); simp only [Nat.zero_add, List.nil_append] at ho2; clear hg2 ho1 hb1 tok1))
    | (at_builtin; go_must (refine app_own rfl (.tmp 31) (.tmp 32) 22 rfl w1.heap.size 5 i0 (.int .u8 0) 1 Tryd.underlying22 hi hz0 hz1 hz2 rfl v2 7 (u8s fs) rfl (own_below ho2 ((Below.refl _ w2).alloc (Nat.le_refl _) _)) _ (some ⟨w2.heap.size, 0, none⟩) 1 1 (u8s [9]) rfl rfl (rd8 w2 5 [9] #[.int .u8 9] rfl) (fun h => by cases h) (u8s_one _) (by unfold maxLen; omega) (by omega) (by have := hb2.size; simp; omega) ?_; intro v3 w3 ho3 hg3 _hne3; have hrow := fun k hk => (ho2.lt k hk).1; have hb3 := (hb2.alloc hb2.size (.cells #[.int .u8 9] 5)).grown hg3 (by have := hb2.size; simp; omega) hrow; rw [← u8s_append] at ho3; clear hg3 ho2 hb2 hrow))
    | fail)
  have hm3 : Made w3 v3 (fs ++ [9]) 8 := made_of_own ho3 (by simp [HFL.out]) (by intro b hb; rcases List.mem_append.1 hb with hb | hb; exact H256F.out b hb; simp at hb; omega)
  obtain ⟨A3, c3, rfl, hr3, hl3, hc3, hm3', h2563, hn3⟩ := hm3
  have HW3 := Lib.hid (HW1.out.trans (hb3.mono HW1.out.size))
  have HF3 := Lib.hid ((HF1.out.below hb3).more hb3.size)
  have H2563 := Lib.hid h2563; have HM3 := Lib.hid hm3'; have HC3 := Lib.hid hc3
  clear hb3 ho3 h2563 hm3' hl3
  go_wp2_with fail
  refine (Next_at w3 A3 8 c3 (fs ++ [9]) (HT.out.below HW3.out) hr3 H2563.out (by simp [HFL.out]) HC3.out HM3.out (by omega) [97, 98] 7 0 2 HFN.out rfl).mono ?_
  rintro e w4 ⟨v, rfl, ⟨Ap, cp, rfl, hrp, _, _, _, _, _⟩, hb⟩
  have HW4 := Lib.hid (HW3.out.trans (hb.mono HW3.out.size)); have HF4 := Lib.hid ((HF3.out.below hb).more hb.size); have HP4 := Lib.hid hrp
  clear hb hrp hr3
  go_wp2_with fail
  refine (Next_at w4 none 0 0 [] (HT.out.below HW4.out) (Rd.nil _ _ _) (by simp) rfl (by omega) (by unfold maxLen; omega) (by omega) [] 0 2 0 (by decide +kernel) rfl).mono ?_
  rintro e w5 ⟨vn, rfl, _, hb⟩
  have HW5 := Lib.hid (HW4.out.trans (hb.mono HW4.out.size)); have HF5 := Lib.hid ((HF4.out.below hb).more hb.size); have HP5 := Lib.hid ((HP4.out.below hb).more hb.size)
  have hl5 := (Below.refl w5.heap.size w5).alloc (Nat.le_refl _) (.cells #[.int .u8 255, .int .u8 255, .int .u8 3] 5)
  have HL5 := Lib.hid hl5
  clear hb hl5
  go_wp2_with fail
  refine (Next_at _ _ 3 3 [255, 255, 3] (HT.out.below (HW5.out.trans (HL5.out.mono HW5.out.size))) (rd8 w5 _ [255, 255, 3] _ rfl) (by decide) rfl (by omega) (by unfold maxLen; omega) (by omega) [] 0 4 0 (by decide +kernel) rfl).mono ?_
  rintro e w6 ⟨vm, rfl, _, hb⟩
  have hb' := HL5.out.trans (hb.mono HL5.out.size)
  have HW6 := Lib.hid (HW5.out.trans (hb'.mono HW5.out.size)); have HF6 := Lib.hid ((HF5.out.below hb').more hb'.size); have HP6 := Lib.hid ((HP5.out.below hb').more hb'.size)
  clear hb hb'
  have hby : i0.bytes * 8193 ≤ 281474976710656 := by rw [hz2]; omega
  go_wp2_with (first
    | (at_make; go_must (refine wpList_make_full _ rfl _ _ 22 rfl w6.heap.size 5 i0 (.int .u8 0) 1 Tryd.underlying22 hi hz0 hz1 .i64 .i64 8193 8193 8193 rfl rfl rfl rfl hby (by unfold maxLen; omega) (Nat.le_refl _) ?_; intro w7 ho7 hg7; have hb7 := (Below.refl w6.heap.size w6).grown hg7 (Nat.le_refl _) (fun k hk => by cases hk); clear ho7 hg7))
    | fail)
  refine (Wrap_no_at w7 _ 8193 8193 (by omega) (by omega)).mono ?_
  rintro e w' ⟨rfl, rfl⟩
  have HW7 := Lib.hid (HW6.out.trans (hb7.mono HW6.out.size)); have HF7 := Lib.hid ((HF6.out.below hb7).more hb7.size); have HP7 := Lib.hid ((HP6.out.below hb7).more hb7.size)
  clear hb7 hby
  have hl8 := (((Below.refl w7.heap.size w7).alloc (Nat.le_refl _) (.cells #[.int .u8 1] 5)).alloc (by simp) (.cells #[] 5)).alloc (by simp; omega) (.cells #[.slice (some ⟨w7.heap.size, 0, none⟩) 1 1, .slice (some ⟨w7.heap.size + 1, 0, none⟩) 0 0] 22)
  have HL8 := Lib.hid hl8
  have hrows := rows2 ((w7.alloc (.cells #[.int .u8 1] 5)).alloc (.cells #[] 5)) (w7.heap.size + 1 + 1) (by simp) (some ⟨w7.heap.size, 0, none⟩) (some ⟨w7.heap.size + 1, 0, none⟩) 22 [1] [] 1 0 (((rd8 w7 5 [1] #[.int .u8 1] rfl).alloc (.cells #[] 5)).more (by simp)) (Rd.nil _ _ _) rfl rfl (by simp) (by simp) (by decide) (by simp) (by omega) (by omega)
  have hT8 := HT.out.below (HW7.out.trans (HL8.out.mono HW7.out.size))
  have HAll := Lib.hid (All_any _ (some ⟨w7.heap.size + 1 + 1, 0, none⟩) 2 2 [[1], []] hT8 hrows rfl (by omega) (by unfold maxLen; omega) (by omega) two_short)
  clear hl8 hrows hT8
  go_wp2_with fail
  refine HAll.out.mono ?_
  rintro e w8 ⟨v, rfl, hmb, hb⟩
  rw [HAE.out.2, HBL.out] at hmb
  rw [HAE.out.1]
  obtain ⟨Ab, cb, rfl, hrb, _, hcb, hmbm, h256b, hnb⟩ := hmb
  have hb' := HL8.out.trans (hb.mono HL8.out.size)
  have HW8 := Lib.hid (HW7.out.trans (hb'.mono HW7.out.size)); have HF8 := Lib.hid ((HF7.out.below hb').more hb'.size); have HP8 := Lib.hid ((HP7.out.below hb').more hb'.size)
  have HRB8 := Lib.hid hrb; have H256B := Lib.hid h256b; have HNB := Lib.hid hnb; have HMB := Lib.hid hmbm
  clear hb hb' hrb h256b hnb hmbm
  have ho1b := own_lit0 w8 5 w8.heap.size (Nat.le_refl _)
  have hb1b := (Below.refl w8.heap.size w8).alloc (Nat.le_refl _) (.cells #[] 5)
  have HULB : Hid ((u8s bs).length = 11) := Lib.hid (by simp [HBL.out])
  have tok1b : True := trivial
  go_wp2_with (first
    | (at_builtin; have _t := tok1b; go_must (refine app_own rfl (.tmp 62) (.tmp 63) 22 rfl w8.heap.size 5 i0 (.int .u8 0) 1 Tryd.underlying22 hi hz0 hz1 hz2 rfl (.slice (some ⟨w8.heap.size, 0, none⟩) 0 0) 0 [] rfl ho1b _ Ab 11 cb (u8s bs) rfl HULB.out (HRB8.out.alloc _) HNB.out (u8s_one _) (by unfold maxLen; omega) (by omega) (by simp) ?_; intro v2b w2b ho2b hg2 _hne2; have hb2b := hb1b.grown hg2 (by simp) (fun k hk => (ho1b.lt k hk).1); simp only [Nat.zero_add, List.nil_append] at ho2b; clear hg2 ho1b hb1b tok1b))
    | (at_builtin; go_must (refine app_own rfl (.tmp 64) (.tmp 65) 22 rfl w8.heap.size 5 i0 (.int .u8 0) 1 Tryd.underlying22 hi hz0 hz1 hz2 rfl v2b 11 (u8s bs) rfl (own_below ho2b ((Below.refl _ w2b).alloc (Nat.le_refl _) _)) _ (some ⟨w2b.heap.size, 0, none⟩) 1 1 (u8s [7]) rfl rfl (rd8 w2b 5 [7] #[.int .u8 7] rfl) (fun h => by cases h) (u8s_one _) (by unfold maxLen; omega) (by omega) (by have := hb2b.size; simp; omega) ?_; intro v3b w3b ho3b hg3 _hne3; have hrow := fun k hk => (ho2b.lt k hk).1; have hb3b := (hb2b.alloc hb2b.size (.cells #[.int .u8 7] 5)).grown hg3 (by have := hb2b.size; simp; omega) hrow; rw [← u8s_append] at ho3b; clear hg3 ho2b hb2b hrow))
    | fail)
  have hm3b : Made w3b v3b (bs ++ [7]) 12 := made_of_own ho3b (by simp [HBL.out]) (by intro b hb; rcases List.mem_append.1 hb with hb | hb; exact H256B.out b hb; simp at hb; omega)
  obtain ⟨A3b, c3b, rfl, hr3b, hl3b, hc3b, hm3b', h2563b, hn3b⟩ := hm3b
  have HW3b := Lib.hid (HW8.out.trans (hb3b.mono HW8.out.size))
  have HF3b := Lib.hid ((HF8.out.below hb3b).more hb3b.size)
  have H2563b := Lib.hid h2563b; have HM3b := Lib.hid hm3b'; have HC3b := Lib.hid hc3b
  have HB3b := Lib.hid hb3b
  clear hb3b ho3b h2563b hm3b' hl3b
  have HP3b := Lib.hid ((HP8.out.below HB3b.out).more HB3b.out.size); have HRB3b := Lib.hid ((HRB8.out.below HB3b.out).more HB3b.out.size)
  go_wp2_with fail
  refine (Scan_any w3b A3b 12 c3b (bs ++ [7]) (HT.out.below HW3b.out) hr3b H2563b.out (by simp [HBL.out]) HC3b.out HM3b.out (by omega)).mono ?_
  rintro e w10 ⟨vl, rfl, hrl, hb⟩
  rw [HBS.out] at hrl
  rw [HBS.out]
  have HW10 := Lib.hid (HW3b.out.trans (hb.mono HW3b.out.size)); have HF10 := Lib.hid ((HF3b.out.below hb).more hb.size); have HP10 := Lib.hid ((HP3b.out.below hb).more hb.size); have HRB10 := Lib.hid ((HRB3b.out.below hb).more hb.size); have HL10 := Lib.hid hrl
  clear hb hrl hr3b
  go_wp2_with fail
  refine (Turn_at w10 Af 7 cf fs 8 1 HF10.out H256F.out HFL.out (by omega) HNF.out (by omega) (by omega) (by omega) _ rfl).mono ?_
  rintro e w11 ⟨v, rfl, ⟨At, ct, rfl, hrt, hlt, hct, hmt, h256t, hnt⟩, hb⟩
  have HW11 := Lib.hid (HW10.out.trans (hb.mono HW10.out.size)); have HP11 := Lib.hid ((HP10.out.below hb).more hb.size); have HL11 := Lib.hid (HL10.out.below hb)
  have HLT := Lib.hid hlt; have H256T := Lib.hid h256t; have HCT := Lib.hid hct; have HMT := Lib.hid hmt
  clear hb hlt h256t hnt hct hmt
  go_wp2_with fail
  refine (Next_at w11 At 7 ct (Cm.turn fs 8 1) (HT.out.below HW11.out) hrt H256T.out HLT.out HCT.out HMT.out (by omega) [] 0 5 0 HFT.out rfl).mono ?_
  rintro e w12 ⟨vo, rfl, _, hb⟩
  have HW12 := Lib.hid (HW11.out.trans (hb.mono HW11.out.size)); have HP12 := Lib.hid ((HP11.out.below hb).more hb.size); have HL12 := Lib.hid (HL11.out.below hb)
  clear hb hrt
  obtain ⟨Al, cl, rfl, hl1, hl2, hl3, hl4⟩ := HL12.out
  have HLR := Lib.hid hl1; have HL2 := Lib.hid hl2; have HL3 := Lib.hid hl3
  clear hl1 hl2 hl3 hl4
  go_wp2_with fail
  refine (FSize_at _ _ 2 2 7 (by omega) (by decide)).mono ?_
  rintro e w' ⟨rfl, rfl⟩
  obtain ⟨wA, hwA⟩ : ∃ x, x = w12.alloc (.cells #[.int .u8 97, .int .u8 98] 5 (2, 3)) := ⟨_, rfl⟩
  rw [← hwA]
  have hbA : Below w12.heap.size w12 wA := by rw [hwA]; exact (Below.refl _ _).alloc (Nat.le_refl _) _
  have HBA := Lib.hid hbA
  clear hbA hwA
  go_wp2_with fail
  refine (same_at _ Ap (some ⟨wA.heap.size, 0, none⟩) cp 2 [97, 98] [97, 98] _ _ 2 2 true (((HP12.out.below HBA.out).more HBA.out.size).alloc _) (Rd.newm wA #[.int .u8 97, .int .u8 98] 5 (2, 3)) (by simp [maxLen]) rfl rfl (by decide)).mono ?_
  rintro e w' ⟨rfl, x, hx⟩
  have hbC : Below w12.heap.size w12 w' := by rw [hx]; exact below_drewN (HBA.out.alloc HBA.out.size _) x
  have HBC := Lib.hid hbC
  clear hbC hx
  have hrows := rows2 ((w'.alloc (.cells #[.int .u8 1] 5)).alloc (.cells #[] 5)) (w'.heap.size + 1 + 1) (by simp) (some ⟨w'.heap.size, 0, none⟩) (some ⟨w'.heap.size + 1, 0, none⟩) 22 [1] [] 1 0 (((rd8 w' 5 [1] #[.int .u8 1] rfl).alloc (.cells #[] 5)).more (by simp)) (Rd.nil _ _ _) rfl rfl (by simp) (by simp) (by decide) (by simp) (by omega) (by omega)
  have hl9 := (((Below.refl w'.heap.size w').alloc (Nat.le_refl _) (.cells #[.int .u8 1] 5)).alloc (by simp) (.cells #[] 5)).alloc (by simp; omega) (.cells #[.slice (some ⟨w'.heap.size, 0, none⟩) 1 1, .slice (some ⟨w'.heap.size + 1, 0, none⟩) 0 0] 22)
  have hl10 := HBC.out.trans (hl9.mono HBC.out.size)
  have HSm := Lib.hid (RSame_any _ Al (some ⟨w'.heap.size + 1 + 1, 0, none⟩) cl 2 2 2 [[1], []] [[1], []] ((HLR.out.below hl10).more hl10.size) hrows rfl rfl (by omega) HL2.out (by omega) HL3.out (by unfold maxLen; omega) true (by decide))
  have HL10' := Lib.hid hl10
  clear hrows hl9 hl10
  go_wp2_with fail
  refine HSm.out.mono ?_
  rintro e w'' ⟨rfl, hb⟩
  have HP : TrueP w (.returned (.bool true)) w'' := ⟨rfl, HW12.out.trans ((HL10'.out.trans (hb.mono HL10'.out.size)).mono HW12.out.size)⟩
  have HPP := Lib.hid HP; clear HP hb
  go_wp2
  go_ret
  exact HPP.out
end Go.Proofs.YtignfhdblakcfaaDoor
