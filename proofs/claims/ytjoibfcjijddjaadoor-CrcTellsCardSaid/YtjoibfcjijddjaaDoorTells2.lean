/- law 2's CrcTells: the walk. -/
import Derived.Test.YtjoibfcjijddjaaDoorBursts2
import Derived.Test.YtjoibfcjijddjaaDoorRef2c
namespace Go.Proofs.YtjoibfcjijddjaaDoor
open Go.ChangeShapes Go.WideShapes Go.ChangeAt Go.RowKit
set_option linter.unusedVariables false

/-- An operation that is guarded, and wanted, goes as one without a guard. -/
theorem unguard {P : Program} {ops : Array Oper} {Q : Exit → Act → World → Prop} {a : Act} {w : World} {rest : List Oper} {x : Oper} (hw : Region.wanted x (yielded ops a.tmps) = true)
    (h : wpList P ops Q ({ dst := x.dst, op := x.op, type := x.type, pos := x.pos, after := x.after, guard := none } :: rest) a w) : wpList P ops Q (x :: rest) a w := by
  unfold wpList at h ⊢
  rw [if_pos hw]
  rw [if_pos (by simp [Region.wanted])] at h
  cases x
  exact h

set_option maxHeartbeats 40000000 in
set_option maxRecDepth 100000 in
theorem tells_walk (w : World) (hT : Tab w) (A B : Option Addr) (la ca lb cb : Nat) (aa bs : List Nat) (p : Int) (m : Nat) (hp0 : -9223372036854775808 ≤ p) (hp1 : p ≤ 9223372036854775807) (hm : m < 4294967296)
    (hla : aa.length = la) (ha256 : ∀ b ∈ aa, b < 256) (hra : Rd w w.heap.size A (u8s aa)) (hlca : la ≤ ca) (hcma : ca ≤ maxLen) (hna : A = none → ca = 0)
    (hlb : bs.length = lb) (hb256 : ∀ b ∈ bs, b < 256) (hrb : Rd w w.heap.size B (u8s bs)) (hlcb : lb ≤ cb) (hcmb : cb ≤ maxLen) (hnb : B = none → cb = 0) :
    Calls Tryd.prog 3 #[.slice A la ca, .slice B lb cb, .int .i64 p, .int .u32 (m : Int)] w (TruePost w) := by
  obtain ⟨i0, hi, hz0, hz1, hz2⟩ := info_parts Tryd.infoB
  have cA := Lib.hid (awake_any w hT)
  by_cases hl1 : 300 < la
  · clear hp0 hp1 hm
    go_enter Tryd.func3, Tryd.ntmps3
    go_wp2_with fail
    refine cA.out.mono ?_
    rintro e w1 ⟨rfl, hb1⟩
    go_wp2
    go_ret
    exact ⟨rfl, hb1⟩
  by_cases hl2 : 300 < lb
  · clear hp0 hp1 hm
    go_enter Tryd.func3, Tryd.ntmps3
    go_wp2_with fail
    refine cA.out.mono ?_
    rintro e w1 ⟨rfl, hb1⟩
    go_wp2
    go_ret
    exact ⟨rfl, hb1⟩
  obtain ⟨s1, hs1⟩ : ∃ s, Cm.sum aa = s := ⟨_, rfl⟩
  obtain ⟨sb, hsb⟩ : ∃ s, Cm.sum bs = s := ⟨_, rfl⟩
  obtain ⟨s2, hs2⟩ : ∃ s, Cm.more s1 bs = s := ⟨_, rfl⟩
  have hs1l : s1 < 4294967296 := by rw [← hs1]; exact Cm.sum_lt ha256
  have hall : Cm.sum (aa ++ bs) = s2 := by
    rw [← hs2, ← hs1]
    unfold Cm.sum
    rw [Cm.more_append]
  have hall256 : ∀ b ∈ aa ++ bs, b < 256 := by
    intro b hb
    rcases List.mem_append.1 hb with hb | hb
    · exact ha256 b hb
    · exact hb256 b hb
  have halll : (aa ++ bs).length = la + lb := by simp [hla, hlb]
  have cSB := Lib.hid (fun (w : World) (hT : Tab w) (hr : Rd w w.heap.size B (u8s bs)) => Sum_at w B lb cb bs _ sb hT hr hb256 hlb (by unfold maxLen; omega) hsb)
  have cRB := Lib.hid (fun (w : World) (hr : Rd w w.heap.size B (u8s bs)) => RSum_any w B lb cb bs _ hr hb256 hlb (by unfold maxLen; omega))
  have cRA := Lib.hid (fun (w : World) (hr : Rd w w.heap.size A (u8s aa)) => RSum_any w A la ca aa _ hr ha256 hla (by unfold maxLen; omega))
  rw [hsb] at cRB
  rw [hs1] at cRA
  have cM := Lib.hid (fun (w : World) (hT : Tab w) (hr : Rd w w.heap.size B (u8s bs)) => More_at w s1 B lb cb bs _ s2 hT hs1l hr hb256 hlb (by unfold maxLen; omega) hs2)
  have cRAll := Lib.hid (fun (w : World) (A : Option Addr) (c : Nat) (hr : Rd w w.heap.size A (u8s (aa ++ bs))) => RSum_any w A (la + lb) c _ _ hr hall256 halll (by unfold maxLen; omega))
  rw [hall] at cRAll
  obtain ⟨d, hd⟩ : ∃ d, Cm.openE bs = d := ⟨_, rfl⟩
  obtain ⟨oo, hoo⟩ : ∃ oo, Cm.openB bs = oo := ⟨_, rfl⟩
  obtain ⟨ko, hko⟩ : ∃ k, oo.length = k := ⟨_, rfl⟩
  have cO := Lib.hid (fun (w : World) (hT : Tab w) (hr : Rd w w.heap.size B (u8s bs)) => Open_at w B lb cb bs hT hr hb256 hlb hlcb hcmb (by omega) hnb d oo ko hd hoo hko)
  have cRO := Lib.hid (fun (w : World) (hT : Tab w) (hr : Rd w w.heap.size B (u8s bs)) => ROpen_any w B lb cb bs hT hr hb256 hlb hlcb hcmb (by omega) hnb)
  unfold OpenPost at cRO
  rw [hd, hoo, hko] at cRO
  have hkol : ko ≤ 300 := by
    rw [← hko, ← hoo]
    unfold Cm.openB
    split
    · rw [List.length_take]; omega
    · simp
  obtain ⟨ss, hss⟩ : ∃ ss, Cm.sealed bs = ss := ⟨_, rfl⟩
  have hsl : ss.length = lb + 4 := by rw [← hss, sealed_len, hlb]
  have hs256 : ∀ b ∈ ss, b < 256 := by rw [← hss]; exact sealed_byte hb256
  have cSe := Lib.hid (fun (w : World) (hT : Tab w) (hr : Rd w w.heap.size B (u8s bs)) => Seal_at w B lb cb bs hT hr hb256 hlb (by omega) hnb ss (lb + 4) hss hsl)
  have cRSe := Lib.hid (fun (w : World) (hr : Rd w w.heap.size B (u8s bs)) => RSeal_any w B lb cb bs hr hb256 hlb (by omega) hnb)
  rw [hss] at cRSe
  obtain ⟨tt, htt⟩ : ∃ tt, Cm.turn bs p m = tt := ⟨_, rfl⟩
  have htl : tt.length = lb := by rw [← htt, Cm.turn_length, hlb]
  have ht256 : ∀ b ∈ tt, b < 256 := by rw [← htt]; exact Cm.turn_byte hb256 p m
  have cTu := Lib.hid (fun (w : World) (hr : Rd w w.heap.size B (u8s bs)) => Turn_at w B lb cb bs p m hr hb256 hlb (by omega) hnb hp0 hp1 hm tt htt)
  have cRTu := Lib.hid (fun (w : World) (hr : Rd w w.heap.size B (u8s bs)) => RTurn_any w B lb cb bs p m hr hb256 hlb (by omega) hnb hp0 hp1 hm)
  unfold TurnPost at cRTu
  rw [htt, hlb] at cRTu
  have K0 := ((Know.start hT).add hra).add hrb
  have HUA : Hid ((u8s aa).length = la) := Lib.hid (by simp [hla])
  have HUB : Hid ((u8s bs).length = lb) := Lib.hid (by simp [hlb])
  have HNA := Lib.hid hna
  have HNB := Lib.hid hnb
  have HKO := Lib.hid hko
  have HSL := Lib.hid hsl
  have HS256 := Lib.hid hs256
  have HTL := Lib.hid htl
  have HT256 := Lib.hid ht256
  have hcma' : ca ≤ 9223372036854775807 := by unfold maxLen at hcma; omega
  have hcmb' : cb ≤ 9223372036854775807 := by unfold maxLen at hcmb; omega
  clear hs1 hsb hs2 hs1l hall hall256 halll hd hoo hko hss hsl hs256 htt htl ht256 hla ha256 hra hna hlb hb256 hrb hnb hcma hcmb hp0 hp1 hm
  go_enter Tryd.func3, Tryd.ntmps3
  go_wp2_with fail
  refine cA.out.mono ?_
  rintro e w1 ⟨rfl, hb⟩
  have K1 := K0.step tab_keeps hb
  clear hb K0
  go_wp2_with fail
  refine (cO.out w1 K1.has (K1.rd (by simp))).mono ?_
  rintro e w2 ⟨v, rfl, ⟨A2, c2, rfl, hp2, _, hc2, hm2, _, hn2⟩, hb⟩
  have K2 := (K1.step tab_keeps hb).add hp2
  clear hb hp2 K1
  go_wp2_with fail
  refine (cRO.out w2 K2.has (K2.rd (by simp))).mono ?_
  rintro e w3 ⟨v, rfl, ⟨A3, c3, rfl, hp3, _, hc3, hm3, _, hn3⟩, hb⟩
  have K3 := (K2.step tab_keeps hb).add hp3
  clear hb hp3 K2
  go_wp2_with fail
  refine (cSB.out w3 K3.has (K3.rd (by simp))).mono ?_
  rintro e w' ⟨rfl, rfl⟩
  go_wp2_with fail
  refine (cRB.out w3 (K3.rd (by simp))).mono ?_
  rintro e w' ⟨rfl, rfl⟩
  go_wp2_with fail
  refine (cRA.out w3 (K3.rd (by simp))).mono ?_
  rintro e w' ⟨rfl, rfl⟩
  go_wp2_with fail
  refine (cM.out w3 K3.has (K3.rd (by simp))).mono ?_
  rintro e w' ⟨rfl, rfl⟩
  have tok1 : True := trivial
  go_wp2_with (first
    | (at_builtin; have _t := tok1; go_must (refine unguard (by first | rfl | kernel_rfl) ?_; refine app_own rfl (.tmp 43) (.tmp 44) 22 rfl w3.heap.size 5 i0 (.int .u8 0) 1 Tryd.underlying22 hi hz0 hz1 hz2 rfl _ 0 [] rfl (own_lit0 w3 _ _ (Nat.le_refl _)) _ A la ca (u8s aa) rfl HUA.out ((K3.rd (A := A) (xs := u8s aa) (by simp)).alloc _) HNA.out (u8s_one _) (by unfold maxLen; omega) (by omega) (by simp) ?_; intro v4 w4 ho4 hg4 _hne4; have hb4 := ((Below.refl w3.heap.size w3).alloc (Nat.le_refl _) _).grown hg4 (by simp) (fun k hk => ((own_lit0 w3 5 _ (Nat.le_refl _)).lt k hk).1); simp only [Nat.zero_add, List.nil_append] at ho4; have K4 := K3.step tab_keeps hb4; clear hg4 tok1))
    | (at_builtin; go_must (refine unguard (by first | rfl | kernel_rfl) ?_; refine app_own rfl (.tmp 45) (.tmp 46) 22 rfl w3.heap.size 5 i0 (.int .u8 0) 1 Tryd.underlying22 hi hz0 hz1 hz2 rfl _ la (u8s aa) rfl ho4 _ B lb cb (u8s bs) rfl HUB.out (K4.rd (A := B) (xs := u8s bs) (by simp)) HNB.out (u8s_one _) (by unfold maxLen; omega) (by omega) (hb4.size) ?_; intro v5 w5 ho5 hg5 _hne5; have hb5 := hb4.grown hg5 hb4.size (fun k hk => (ho4.lt k hk).1); have K5' := K3.step tab_keeps hb5; clear hg5 ho4 hb4 hb5 K4 K3; obtain ⟨A5, c5, rfl, _, _, _, hr5, _⟩ := own_form ho5; rw [← u8s_append] at hr5; have K5 := K5'.add hr5; clear ho5 hr5 K5'))
    | fail)
  refine (cRAll.out w5 A5 c5 (K5.rd (by simp))).mono ?_
  rintro e w' ⟨rfl, rfl⟩
  go_wp2_with fail
  refine (cSe.out w5 K5.has (K5.rd (by simp))).mono ?_
  rintro e w6 ⟨v, rfl, ⟨A6, c6, rfl, hp6, _, hc6, hm6, _, hn6⟩, hb⟩
  have K6 := (K5.step tab_keeps hb).add hp6
  clear hb hp6 K5
  go_wp2_with fail
  refine (cRSe.out w6 (K6.rd (by simp))).mono ?_
  rintro e w7 ⟨v, rfl, ho, hb⟩
  obtain ⟨A7, c7, rfl, hp7, _, hc7, hm7, _, hn7⟩ := made_of_own ho HSL.out HS256.out
  have K7 := (K6.step tab_keeps hb).add hp7
  clear hb hp7 K6 ho
  go_wp2_with fail
  refine (same_at _ _ _ _ _ ss ss _ _ (lb + 4) (lb + 4) true (K7.rd (A := A6) (by simp)) (K7.rd (A := A7) (by simp)) (by rw [HSL.out]; unfold maxLen; omega) HSL.out HSL.out (by simp)).mono ?_
  rintro e w8 ⟨rfl, q, hq⟩
  have K8 := K7.drewN tab_keeps q
  rw [← hq] at K8
  clear hq K7
  go_wp2_with fail
  refine (same_at _ _ _ _ _ oo oo _ _ ko ko true (K8.rd (A := A2) (by simp)) (K8.rd (A := A3) (by simp)) (by rw [HKO.out]; unfold maxLen; omega) HKO.out HKO.out (by simp)).mono ?_
  rintro e w9 ⟨rfl, q, hq⟩
  have K9 := K8.drewN tab_keeps q
  rw [← hq] at K9
  clear hq K8
  go_wp2_with fail
  refine (cTu.out w9 (K9.rd (by simp))).mono ?_
  rintro e w10 ⟨v, rfl, ⟨A10, c10, rfl, hp10, _, hc10, hm10, _, hn10⟩, hb⟩
  have K10 := (K9.step tab_keeps hb).add hp10
  clear hb hp10 K9
  go_wp2_with fail
  refine (cRTu.out w10 (K10.rd (by simp))).mono ?_
  rintro e w11 ⟨v, rfl, ho, hb⟩
  obtain ⟨A11, c11, rfl, hp11, _, hc11, hm11, _, hn11⟩ := made_of_own ho HTL.out HT256.out
  have K11 := (K10.step tab_keeps hb).add hp11
  clear hb hp11 K10 ho
  go_wp2_with fail
  refine (same_at _ _ _ _ _ tt tt _ _ lb lb true (K11.rd (A := A10) (by simp)) (K11.rd (A := A11) (by simp)) (by rw [HTL.out]; unfold maxLen; omega) HTL.out HTL.out (by simp)).mono ?_
  rintro e w12 ⟨rfl, q, hq⟩
  have K12 := K11.drewN tab_keeps q
  rw [← hq] at K12
  clear hq K11
  go_wp2
  go_ret
  exact ⟨rfl, K12.below⟩
end Go.Proofs.YtjoibfcjijddjaaDoor
