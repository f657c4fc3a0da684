/- law 2's CrcParts: the walk. -/
import Derived.Test.YtjoibfcjijddjaaDoorBursts2
namespace Go.Proofs.YtjoibfcjijddjaaDoor
open Go.ChangeShapes Go.WideShapes Go.ChangeAt Go.RowKit
set_option linter.unusedVariables false

set_option maxHeartbeats 40000000 in
set_option maxRecDepth 100000 in
theorem parts_walk (w : World) (hT : Tab w) (A B C : Option Addr) (la ca lb cb lc cc : Nat) (aa bs cs : List Nat)
    (hla : aa.length = la) (ha256 : ∀ b ∈ aa, b < 256) (hra : Rd w w.heap.size A (u8s aa)) (hlca : la ≤ ca) (hcma : ca ≤ maxLen) (hna : A = none → ca = 0)
    (hlb : bs.length = lb) (hb256 : ∀ b ∈ bs, b < 256) (hrb : Rd w w.heap.size B (u8s bs)) (hlcb : lb ≤ cb) (hcmb : cb ≤ maxLen) (hnb : B = none → cb = 0)
    (hlc : cs.length = lc) (hc256 : ∀ b ∈ cs, b < 256) (hrc : Rd w w.heap.size C (u8s cs)) (hlcc : lc ≤ cc) (hcmc : cc ≤ maxLen) (hnc : C = none → cc = 0) :
    Calls Tryd.prog 5 #[.slice A la ca, .slice B lb cb, .slice C lc cc] w (TruePost w) := by
  obtain ⟨i0, hi, hz0, hz1, hz2⟩ := info_parts Tryd.infoB
  have cA := Lib.hid (awake_any w hT)
  by_cases hl1 : 300 < la
  · go_enter Tryd.func5, Tryd.ntmps5
    go_wp2_with fail
    refine cA.out.mono ?_
    rintro e w1 ⟨rfl, hb1⟩
    go_wp2
    go_ret
    exact ⟨rfl, hb1⟩
  by_cases hl2 : 300 < lb
  · go_enter Tryd.func5, Tryd.ntmps5
    go_wp2_with fail
    refine cA.out.mono ?_
    rintro e w1 ⟨rfl, hb1⟩
    go_wp2
    go_ret
    exact ⟨rfl, hb1⟩
  by_cases hl3 : 300 < lc
  · go_enter Tryd.func5, Tryd.ntmps5
    go_wp2_with fail
    refine cA.out.mono ?_
    rintro e w1 ⟨rfl, hb1⟩
    go_wp2
    go_ret
    exact ⟨rfl, hb1⟩
  obtain ⟨s1, hs1⟩ : ∃ s, Cm.sum aa = s := ⟨_, rfl⟩
  obtain ⟨s2, hs2⟩ : ∃ s, Cm.more s1 bs = s := ⟨_, rfl⟩
  obtain ⟨s3, hs3⟩ : ∃ s, Cm.more s2 cs = s := ⟨_, rfl⟩
  have hs1l : s1 < 4294967296 := by rw [← hs1]; exact Cm.sum_lt ha256
  have hs2l : s2 < 4294967296 := by rw [← hs2]; exact Cm.more_lt hs1l hb256
  have hall : Cm.sum (aa ++ bs ++ cs) = s3 := by
    rw [← hs3, ← hs2, ← hs1]
    unfold Cm.sum
    rw [Cm.more_append, Cm.more_append, List.append_assoc]
  have hall256 : ∀ b ∈ aa ++ bs ++ cs, b < 256 := by
    intro b hb
    rcases List.mem_append.1 hb with hb | hb
    · rcases List.mem_append.1 hb with hb | hb
      · exact ha256 b hb
      · exact hb256 b hb
    · exact hc256 b hb
  have halll : (aa ++ bs ++ cs).length = la + lb + lc := by simp [hla, hlb, hlc]; omega
  have cS1 := Lib.hid (fun (w : World) (hT : Tab w) (hr : Rd w w.heap.size A (u8s aa)) => Sum_at w A la ca aa _ s1 hT hr ha256 hla (by unfold maxLen; omega) hs1)
  have cM2 := Lib.hid (fun (w : World) (hT : Tab w) (hr : Rd w w.heap.size B (u8s bs)) => More_at w s1 B lb cb bs _ s2 hT hs1l hr hb256 hlb (by unfold maxLen; omega) hs2)
  have cM3 := Lib.hid (fun (w : World) (hT : Tab w) (hr : Rd w w.heap.size C (u8s cs)) => More_at w s2 C lc cc cs _ s3 hT hs2l hr hc256 hlc (by unfold maxLen; omega) hs3)
  have cSA := Lib.hid (fun (w : World) (A : Option Addr) (c : Nat) (hT : Tab w) (hr : Rd w w.heap.size A (u8s (aa ++ bs ++ cs))) => Sum_at w A (la + lb + lc) c _ _ s3 hT hr hall256 halll (by unfold maxLen; omega) hall)
  have cMA := Lib.hid (fun (w : World) (A : Option Addr) (c : Nat) (hT : Tab w) (hr : Rd w w.heap.size A (u8s (aa ++ bs ++ cs))) => More_at w 0 A (la + lb + lc) c _ _ s3 hT (by decide) hr hall256 halll (by unfold maxLen; omega) hall)
  obtain ⟨d, hd⟩ : ∃ d, Cm.openE cs = d := ⟨_, rfl⟩
  obtain ⟨oo, hoo⟩ : ∃ oo, Cm.openB cs = oo := ⟨_, rfl⟩
  obtain ⟨ko, hko⟩ : ∃ k, oo.length = k := ⟨_, rfl⟩
  have cO := Lib.hid (fun (w : World) (hT : Tab w) (hr : Rd w w.heap.size C (u8s cs)) => Open_at w C lc cc cs hT hr hc256 hlc hlcc hcmc (by omega) hnc d oo ko hd hoo hko)
  have K0 := (((Know.start hT).add hra).add hrb).add hrc
  have HUA : Hid ((u8s aa).length = la) := Lib.hid (by simp [hla])
  have HUB : Hid ((u8s bs).length = lb) := Lib.hid (by simp [hlb])
  have HUC : Hid ((u8s cs).length = lc) := Lib.hid (by simp [hlc])
  have HNA := Lib.hid hna
  have HNB := Lib.hid hnb
  have HNC := Lib.hid hnc
  have HLC := Lib.hid hlc
  have HML : lc ≤ maxLen := by unfold maxLen; omega
  have hcma' : ca ≤ 9223372036854775807 := by unfold maxLen at hcma; omega
  have hcmb' : cb ≤ 9223372036854775807 := by unfold maxLen at hcmb; omega
  have hcmc' : cc ≤ 9223372036854775807 := by unfold maxLen at hcmc; omega
  have hcase : (d = 0 ∧ Cm.sealed oo = cs ∧ (∀ b ∈ oo, b < 256) ∧ ko ≤ 300) ∨ ¬ d = 0 := by
    by_cases h : d = 0
    · refine Or.inl ⟨h, ?_, ?_, ?_⟩
      · rw [← hoo]; exact Cm.open_sealed (by rw [hd, h])
      · intro b hb
        have h2 : Cm.sealed oo = cs := by rw [← hoo]; exact Cm.open_sealed (by rw [hd, h])
        exact hc256 b (by rw [← h2]; exact List.mem_append_left _ hb)
      · have h2 : Cm.sealed oo = cs := by rw [← hoo]; exact Cm.open_sealed (by rw [hd, h])
        have h3 := sealed_len oo
        rw [h2] at h3
        omega
    · exact Or.inr h
  clear hs1 hs2 hs3 hs1l hs2l hall hall256 halll hd hoo hla ha256 hra hna hlb hb256 hrb hnb hc256 hrc hnc hcma hcmb hcmc
  rcases hcase with ⟨rfl, hse, ho256, hk3⟩ | hd0
  · have cE := Lib.hid (fun (w : World) (A : Option Addr) (c : Nat) (hT : Tab w) (hr : Rd w w.heap.size A (u8s oo)) (hn : A = none → c = 0) => Seal_at w A ko c oo hT hr ho256 hko (by omega) hn cs lc hse hlc)
    clear hse ho256 hko hlc
    go_enter Tryd.func5, Tryd.ntmps5
    go_wp2_with fail
    refine cA.out.mono ?_
    rintro e w1 ⟨rfl, hb⟩
    have K1 := K0.step tab_keeps hb
    clear hb K0
    have tok1 : True := trivial
    go_wp2_with (first
      | (at_builtin; have _t := tok1; go_must (refine app_own rfl (.tmp 25) (.tmp 26) 22 rfl w1.heap.size 5 i0 (.int .u8 0) 1 Tryd.underlying22 hi hz0 hz1 hz2 rfl _ 0 [] rfl (own_lit0 w1 _ _ (Nat.le_refl _)) _ A la ca (u8s aa) rfl HUA.out ((K1.rd (A := A) (xs := u8s aa) (by simp)).alloc _) HNA.out (u8s_one _) (by unfold maxLen; omega) (by omega) (by simp) ?_; intro v2 w2 ho2 hg2 _hne2; have hb2 := ((Below.refl w1.heap.size w1).alloc (Nat.le_refl _) _).grown hg2 (by simp) (fun k hk => ((own_lit0 w1 5 _ (Nat.le_refl _)).lt k hk).1); simp only [Nat.zero_add, List.nil_append] at ho2; have K2 := K1.step tab_keeps hb2; clear hg2 tok1; have tok2 : True := trivial))
      | (at_builtin; have _t := tok2; go_must (refine app_own rfl (.tmp 27) (.tmp 28) 22 rfl w1.heap.size 5 i0 (.int .u8 0) 1 Tryd.underlying22 hi hz0 hz1 hz2 rfl _ la (u8s aa) rfl ho2 _ B lb cb (u8s bs) rfl HUB.out (K2.rd (A := B) (xs := u8s bs) (by simp)) HNB.out (u8s_one _) (by unfold maxLen; omega) (by omega) (hb2.size) ?_; intro v3 w3 ho3 hg3 _hne3; have hb3 := hb2.grown hg3 hb2.size (fun k hk => (ho2.lt k hk).1); have K3 := K1.step tab_keeps hb3; clear hg3 ho2 hb2 K2 tok2; have tok3 : True := trivial))
      | (at_builtin; have _t := tok3; go_must (refine app_own rfl (.tmp 29) (.tmp 30) 22 rfl w1.heap.size 5 i0 (.int .u8 0) 1 Tryd.underlying22 hi hz0 hz1 hz2 rfl _ (la + lb) (u8s aa ++ u8s bs) rfl ho3 _ C lc cc (u8s cs) rfl HUC.out (K3.rd (A := C) (xs := u8s cs) (by simp)) HNC.out (u8s_one _) (by unfold maxLen; omega) (by omega) (hb3.size) ?_; intro v4 w4 ho4 hg4 _hne4; have hb4 := hb3.grown hg4 hb3.size (fun k hk => (ho3.lt k hk).1); have K4' := K1.step tab_keeps hb4; clear hg4 ho3 hb3 hb4 K3 K1 tok3; obtain ⟨A4, c4, rfl, _, _, _, hr4, _⟩ := own_form ho4; rw [← u8s_append, ← u8s_append] at hr4; have K4 := K4'.add hr4; clear ho4 hr4 K4'))
      | fail)
    refine (cS1.out w4 K4.has (K4.rd (by simp))).mono ?_
    rintro e w' ⟨rfl, rfl⟩
    go_wp2_with fail
    refine (cM2.out w4 K4.has (K4.rd (by simp))).mono ?_
    rintro e w' ⟨rfl, rfl⟩
    go_wp2_with fail
    refine (cM3.out w4 K4.has (K4.rd (by simp))).mono ?_
    rintro e w' ⟨rfl, rfl⟩
    go_wp2_with fail
    refine (cSA.out w4 A4 c4 K4.has (K4.rd (by simp))).mono ?_
    rintro e w' ⟨rfl, rfl⟩
    go_wp2_with fail
    refine (cMA.out w4 A4 c4 K4.has (K4.rd (by simp))).mono ?_
    rintro e w' ⟨rfl, rfl⟩
    go_wp2_with fail
    refine (cSA.out w4 A4 c4 K4.has (K4.rd (by simp))).mono ?_
    rintro e w' ⟨rfl, rfl⟩
    go_wp2_with fail
    refine (cO.out w4 K4.has (K4.rd (by simp))).mono ?_
    rintro e w5 ⟨v, rfl, ⟨A5, c5, rfl, hp5, _, hc5, hm5, _, hn5⟩, hb⟩
    have K5 := (K4.step tab_keeps hb).add hp5
    clear hb hp5 K4
    go_wp2_with fail
    refine (cE.out w5 A5 c5 K5.has (K5.rd (by simp)) hn5).mono ?_
    rintro e w6 ⟨v, rfl, ⟨A6, c6, rfl, hp6, _, hc6, hm6, _, hn6⟩, hb⟩
    have K6 := (K5.step tab_keeps hb).add hp6
    clear hb hp6 K5
    go_wp2_with fail
    refine (same_at _ _ _ _ _ cs cs _ _ lc lc true (K6.rd (A := A6) (by simp)) (K6.rd (A := C) (by simp)) (by rw [HLC.out]; exact HML) HLC.out HLC.out (by simp)).mono ?_
    rintro e w7 ⟨rfl, q, hq⟩
    have K7 := K6.drewN tab_keeps q
    rw [← hq] at K7
    clear hq K6
    go_wp2
    go_ret
    exact ⟨rfl, K7.below⟩
  · have hd0' : ¬ ((d : Int) = 0) := by omega
    clear hko hlc
    go_enter Tryd.func5, Tryd.ntmps5
    go_wp2_with fail
    refine cA.out.mono ?_
    rintro e w1 ⟨rfl, hb⟩
    have K1 := K0.step tab_keeps hb
    clear hb K0
    have tok1 : True := trivial
    go_wp2_with (first
      | (at_builtin; have _t := tok1; go_must (refine app_own rfl (.tmp 25) (.tmp 26) 22 rfl w1.heap.size 5 i0 (.int .u8 0) 1 Tryd.underlying22 hi hz0 hz1 hz2 rfl _ 0 [] rfl (own_lit0 w1 _ _ (Nat.le_refl _)) _ A la ca (u8s aa) rfl HUA.out ((K1.rd (A := A) (xs := u8s aa) (by simp)).alloc _) HNA.out (u8s_one _) (by unfold maxLen; omega) (by omega) (by simp) ?_; intro v2 w2 ho2 hg2 _hne2; have hb2 := ((Below.refl w1.heap.size w1).alloc (Nat.le_refl _) _).grown hg2 (by simp) (fun k hk => ((own_lit0 w1 5 _ (Nat.le_refl _)).lt k hk).1); simp only [Nat.zero_add, List.nil_append] at ho2; have K2 := K1.step tab_keeps hb2; clear hg2 tok1; have tok2 : True := trivial))
      | (at_builtin; have _t := tok2; go_must (refine app_own rfl (.tmp 27) (.tmp 28) 22 rfl w1.heap.size 5 i0 (.int .u8 0) 1 Tryd.underlying22 hi hz0 hz1 hz2 rfl _ la (u8s aa) rfl ho2 _ B lb cb (u8s bs) rfl HUB.out (K2.rd (A := B) (xs := u8s bs) (by simp)) HNB.out (u8s_one _) (by unfold maxLen; omega) (by omega) (hb2.size) ?_; intro v3 w3 ho3 hg3 _hne3; have hb3 := hb2.grown hg3 hb2.size (fun k hk => (ho2.lt k hk).1); have K3 := K1.step tab_keeps hb3; clear hg3 ho2 hb2 K2 tok2; have tok3 : True := trivial))
      | (at_builtin; have _t := tok3; go_must (refine app_own rfl (.tmp 29) (.tmp 30) 22 rfl w1.heap.size 5 i0 (.int .u8 0) 1 Tryd.underlying22 hi hz0 hz1 hz2 rfl _ (la + lb) (u8s aa ++ u8s bs) rfl ho3 _ C lc cc (u8s cs) rfl HUC.out (K3.rd (A := C) (xs := u8s cs) (by simp)) HNC.out (u8s_one _) (by unfold maxLen; omega) (by omega) (hb3.size) ?_; intro v4 w4 ho4 hg4 _hne4; have hb4 := hb3.grown hg4 hb3.size (fun k hk => (ho3.lt k hk).1); have K4' := K1.step tab_keeps hb4; clear hg4 ho3 hb3 hb4 K3 K1 tok3; obtain ⟨A4, c4, rfl, _, _, _, hr4, _⟩ := own_form ho4; rw [← u8s_append, ← u8s_append] at hr4; have K4 := K4'.add hr4; clear ho4 hr4 K4'))
      | fail)
    refine (cS1.out w4 K4.has (K4.rd (by simp))).mono ?_
    rintro e w' ⟨rfl, rfl⟩
    go_wp2_with fail
    refine (cM2.out w4 K4.has (K4.rd (by simp))).mono ?_
    rintro e w' ⟨rfl, rfl⟩
    go_wp2_with fail
    refine (cM3.out w4 K4.has (K4.rd (by simp))).mono ?_
    rintro e w' ⟨rfl, rfl⟩
    go_wp2_with fail
    refine (cSA.out w4 A4 c4 K4.has (K4.rd (by simp))).mono ?_
    rintro e w' ⟨rfl, rfl⟩
    go_wp2_with fail
    refine (cMA.out w4 A4 c4 K4.has (K4.rd (by simp))).mono ?_
    rintro e w' ⟨rfl, rfl⟩
    go_wp2_with fail
    refine (cSA.out w4 A4 c4 K4.has (K4.rd (by simp))).mono ?_
    rintro e w' ⟨rfl, rfl⟩
    go_wp2_with fail
    refine (cO.out w4 K4.has (K4.rd (by simp))).mono ?_
    rintro e w5 ⟨v, rfl, ⟨A5, c5, rfl, hp5, _, hc5, hm5, _, hn5⟩, hb⟩
    have K5 := (K4.step tab_keeps hb).add hp5
    clear hb hp5 K4
    go_wp2
    go_ret
    exact ⟨rfl, K5.below⟩
end Go.Proofs.YtjoibfcjijddjaaDoor
