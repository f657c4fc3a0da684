/- The statement ClockTells: its walk. -/
import Derived.Test.YtignfhdblakcfaaOrd4
import Derived.Test.YtignfhdblakcfaaRctake
import Derived.Test.YtignfhdblakcfaaRcput
import Derived.Test.YtignfhdblakcfaaRmrg
namespace Go.Proofs.Ytignfhdblakcfaa
open Go.ChangeShapes Go.WideShapes Go.ChangeAt Go.RowKit
set_option linter.unusedVariables false
set_option linter.unusedSimpArgs false

def putR (p c : Tri) : List Nat × Int := if rightB p.1 p.2.1 p.2.2 = true ∧ rightB c.1 c.2.1 c.2.2 = true then (putC p c, 0) else ([], 1)
theorem cput_gen {w w' : World} {p c : Tri} {e : Ending} (h : CputPost w p c e w') : ∃ A k, e = .returned (.tuple #[.slice A (putR p c).1.length k, .int .i64 (putR p c).2]) ∧ Rd w' w'.heap.size A (u8s (putR p c).1) ∧ (putR p c).1.length ≤ k ∧ k ≤ maxLen ∧ (A = none → k = 0) ∧ Below w.heap.size w w' := by
  obtain ⟨hb, h2⟩ := h
  unfold putR
  by_cases hr : rightB p.1 p.2.1 p.2.2 = true ∧ rightB c.1 c.2.1 c.2.2 = true
  · rw [if_pos hr] at h2 ⊢
    obtain ⟨v, rfl, A, k, rfl, hrd, _, hk, hm, _, hn⟩ := h2
    exact ⟨A, k, rfl, hrd, hk, hm, hn, hb⟩
  · rw [if_neg hr] at h2 ⊢
    exact ⟨none, 0, h2, Rd.nil _ _ _, Nat.zero_le _, Nat.zero_le _, fun _ => rfl, hb⟩
theorem RStep_at (w : World) (a b c k x y z d : Int) (h : stepL a b c k = ((x, y, z), d)) :
    Calls Try.prog 14 #[.agg #[.int .i64 a, .int .i64 b, .int .i64 c], .int .i64 k] w fun e w' => e = .returned (.tuple #[.agg #[.int .i64 x, .int .i64 y, .int .i64 z], .int .i64 d]) ∧ Below w.heap.size w w' := by
  refine (RStep_any w a b c k).mono ?_
  intro e w' h2
  rw [h] at h2
  exact h2
theorem RCtake_at (w : World) (p0 p1 p2 : Int) (A : Option Addr) (n c : Nat) (bs : List Nat) (x y z : Int) (k d : Nat) (hr : Rd w w.heap.size A (u8s bs)) (h256 : ∀ b ∈ bs, b < 256) (hn : bs.length = n) (hc : n ≤ c) (hm : c ≤ maxLen) (hnone : A = none → c = 0) (ht : takeC (p0, p1, p2) bs = ((x, y, z), k, d)) :
    Calls Try.prog 18 #[.agg #[.int .i64 p0, .int .i64 p1, .int .i64 p2], .slice A n c] w fun e w' => e = .returned (.tuple #[.agg #[.int .i64 x, .int .i64 y, .int .i64 z], .int .i64 (k : Int), .int .i64 (d : Int)]) ∧ Below w.heap.size w w' := by
  refine (RCtake_any w p0 p1 p2 A n c bs hr h256 hn hc hm hnone).mono ?_
  intro e w' h
  rw [ht] at h
  exact h
def CT (w : World) (gs gr gt gu : Nat) (a b c x y z s1 s2 s3 t1 t2 t3 : Int) (Ap Aq : Option Addr) (bs : List Nat) (w' : World) : Prop :=
  Below w.heap.size w w' ∧ Blk w' w.heap.size 23 #[.int .i64 a, .int .i64 b, .int .i64 c] ∧ Blk w' (w.heap.size + 1) 23 #[.int .i64 x, .int .i64 y, .int .i64 z] ∧ Blk w' gs 23 #[.int .i64 s1, .int .i64 s2, .int .i64 s3] ∧ Blk w' gr 23 #[.int .i64 s1, .int .i64 s2, .int .i64 s3] ∧ Blk w' gt 23 #[.int .i64 t1, .int .i64 t2, .int .i64 t3] ∧ Blk w' gu 23 #[.int .i64 t1, .int .i64 t2, .int .i64 t3] ∧ Rd w' w'.heap.size Ap (u8s bs) ∧ Rd w' w'.heap.size Aq (u8s bs)
theorem CT.keep {w w1 w' : World} {gs gr gt gu : Nat} {a b c x y z s1 s2 s3 t1 t2 t3 : Int} {Ap Aq : Option Addr} {bs : List Nat} (h : CT w gs gr gt gu a b c x y z s1 s2 s3 t1 t2 t3 Ap Aq bs w1) (hb : Below w1.heap.size w1 w') : CT w gs gr gt gu a b c x y z s1 s2 s3 t1 t2 t3 Ap Aq bs w' := by
  obtain ⟨h0, h1, h2, h3, h4, h5, h6, h7, h8⟩ := h
  exact ⟨h0.trans (hb.mono h0.size), h1.below hb h1.lt, h2.below hb h2.lt, h3.below hb h3.lt, h4.below hb h4.lt, h5.below hb h5.lt, h6.below hb h6.lt, (h7.below hb).more hb.size, (h8.below hb).more hb.size⟩
theorem besB_t {a b c x y z : Int} (h : covB a b c x y z = true) : besB a b c x y z = false := by simp [besB, h]
theorem besB_f {a b c x y z : Int} (h : covB a b c x y z = false) : besB a b c x y z = !covB x y z a b c := by simp [besB, h]

set_option maxRecDepth 100000 in
set_option maxHeartbeats 6000000 in
theorem ClockTells_walk (w : World) (a b c : Int) (wa1 : (Lit.int .i64 a).wf = true) (wb1 : (Lit.int .i64 b).wf = true) (wc1 : (Lit.int .i64 c).wf = true) (x y z : Int) (wx1 : (Lit.int .i64 x).wf = true) (wy1 : (Lit.int .i64 y).wf = true) (wz1 : (Lit.int .i64 z).wf = true)
    (Al : Option Addr) (nl cl : Nat) (cs : List Tri) (hcl : cs.length = nl) (hlc : nl ≤ cl) (hcm : cl ≤ maxLen) (hrl : Rd w w.heap.size Al (cells3 cs)) (k : Int) (wk : (Lit.int .i64 k).wf = true) (Ab : Option Addr) (nb cb : Nat) (zs : List Int)
    (hz : (Ab = none ∧ nb = 0 ∧ cb = 0 ∧ zs = []) ∨ ∃ x, Ab = some x ∧ nb ≤ cb ∧ cb ≤ maxLen ∧ zs.length = cb ∧ (∀ i, i < zs.length → w.cell? (x.add i) = some (.int .u8 (zs.getD i 0))) ∧ ∀ n ∈ zs, (Lit.int .u8 n).wf = true) :
    Calls Try.prog 3 #[.agg #[.int .i64 a, .int .i64 b, .int .i64 c], .agg #[.int .i64 x, .int .i64 y, .int .i64 z], .slice Al nl cl, .int .i64 k, .slice Ab nb cb] w (TruePost w) := by
  obtain ⟨ss, hl, h256, hrb, hbc, hbm, hbnone⟩ := row8 hz
  clear hz wa1 wb1 wc1 wx1 wy1 wz1 wk
  subst hcl
  have K1 : ∀ w1, Below ((w.alloc (.cells #[.int .i64 a, .int .i64 b, .int .i64 c] 23)).alloc (.cells #[.int .i64 x, .int .i64 y, .int .i64 z] 23)).heap.size ((w.alloc (.cells #[.int .i64 a, .int .i64 b, .int .i64 c] 23)).alloc (.cells #[.int .i64 x, .int .i64 y, .int .i64 z] 23)) w1 →
      Blk w1 w.heap.size 23 #[.int .i64 a, .int .i64 b, .int .i64 c] ∧ Blk w1 (w.heap.size + 1) 23 #[.int .i64 x, .int .i64 y, .int .i64 z] ∧ Below w.heap.size w w1 := fun w1 hb =>
    ⟨((Blk.new w _ _).alloc _).below hb (by simp; omega), (Blk.new' _ _ _ (by simp)).below hb (by simp), (((Below.refl _ _).alloc (Nat.le_refl _) _).alloc (by simp) _).trans (hb.mono (by simp; omega))⟩
  have HK1 := Lib.hid K1; clear K1
  have H256 := Lib.hid h256; clear h256
  have HL := Lib.hid hl; clear hl
  by_cases hlong : 50 < cs.length
  · go_enter Try.func3, Try.ntmps3
    go_wp2_with fail
    refine (awake_any _).mono ?_
    rintro e w1 ⟨rfl, hb1⟩
    go_wp2
    go_ret
    exact ⟨rfl, (HK1.out _ hb1).2.2⟩
  by_cases hlong2 : 500 < nb
  · go_enter Try.func3, Try.ntmps3
    go_wp2_with fail
    refine (awake_any _).mono ?_
    rintro e w1 ⟨rfl, hb1⟩
    go_wp2
    go_ret
    exact ⟨rfl, (HK1.out _ hb1).2.2⟩
  obtain ⟨s1, s2, s3, sd, hst⟩ : ∃ s1 s2 s3 sd, stepL a b c k = ((s1, s2, s3), sd) := ⟨_, _, _, _, rfl⟩
  have HST := Lib.hid hst; clear hst
  obtain ⟨t1, t2, t3, tn, td, htk⟩ : ∃ x y z n d, takeC (a, b, c) ss = ((x, y, z), n, d) := ⟨_, _, _, _, _, rfl⟩
  have HTK := Lib.hid htk; clear htk
  obtain ⟨m1, m2, m3, hmg⟩ : ∃ x y z, mergeL cs = (x, y, z) := ⟨_, _, _, rfl⟩
  have HMG := Lib.hid hmg; clear hmg
  obtain ⟨L, pd, hpr⟩ : ∃ L d, putR (a, b, c) (x, y, z) = (L, d) := ⟨_, _, rfl⟩
  have HPR := Lib.hid hpr; clear hpr
  have HRL := Lib.hid hrl; clear hrl
  have HRB := Lib.hid hrb; clear hrb
  go_enter Try.func3, Try.ntmps3
  go_wp2_with fail
  refine (awake_any _).mono ?_
  rintro e w1 ⟨rfl, hb1⟩
  obtain ⟨q1a, q1x, hbw⟩ := HK1.out _ hb1
  clear hb1 HK1
  have HW1 := Lib.hid hbw; clear hbw
  obtain ⟨na0, na1, na2, naf⟩ := q1a.three
  have lta : w.heap.size < w1.heap.size := q1a.lt
  obtain ⟨nx0, nx1, nx2, nxf⟩ := q1x.three
  have ltx : (w.heap.size + 1) < w1.heap.size := q1x.lt
  go_wp2_with fail
  refine (Step_at _ a b c k s1 s2 s3 sd HST.out).mono ?_
  rintro e w2 ⟨rfl, hb⟩
  have HB : Below w1.heap.size w1 w2 := below_trans (by repeat' (first | exact Below.refl _ _ | refine Below.alloc ?_ ?_ _ | refine Below.setCell ?_ ?_ _ | refine Below.drew ?_ | (simp; done) | (simp; omega))) hb (Nat.le_refl _)
  clear na0 na1 na2 naf lta nx0 nx1 nx2 nxf ltx
  have q2a := q1a.below HB q1a.lt
  have q2x := q1x.below HB q1x.lt
  have HW2 := Lib.hid (HW1.out.trans (HB.mono HW1.out.size))
  clear HB hb q1a q1x
  obtain ⟨na0, na1, na2, naf⟩ := q2a.three
  have lta : w.heap.size < w2.heap.size := q2a.lt
  obtain ⟨nx0, nx1, nx2, nxf⟩ := q2x.three
  have ltx : (w.heap.size + 1) < w2.heap.size := q2x.lt
  go_wp2_with fail
  refine (RStep_at _ a b c k s1 s2 s3 sd HST.out).mono ?_
  rintro e w3 ⟨rfl, hb⟩
  have HB : Below w2.heap.size w2 w3 := below_trans (by repeat' (first | exact Below.refl _ _ | refine Below.alloc ?_ ?_ _ | refine Below.setCell ?_ ?_ _ | refine Below.drew ?_ | (simp; done) | (simp; omega))) hb (Nat.le_refl _)
  clear na0 na1 na2 naf lta nx0 nx1 nx2 nxf ltx
  obtain ⟨gs, hgs⟩ : ∃ g, g = w2.heap.size := ⟨_, rfl⟩
  have HGs := Lib.hid hgs; clear hgs
  have q3s : Blk w3 gs 23 #[.int .i64 s1, .int .i64 s2, .int .i64 s3] := (Blk.new' w2 _ _ HGs.out).below hb (by simp; have := HGs.out; omega)
  rw [← HGs.out]
  have q3a := q2a.below HB q2a.lt
  have q3x := q2x.below HB q2x.lt
  have HW3 := Lib.hid (HW2.out.trans (HB.mono HW2.out.size))
  clear HB hb q2a q2x
  obtain ⟨na0, na1, na2, naf⟩ := q3a.three
  have lta : w.heap.size < w3.heap.size := q3a.lt
  obtain ⟨nx0, nx1, nx2, nxf⟩ := q3x.three
  have ltx : (w.heap.size + 1) < w3.heap.size := q3x.lt
  go_wp2_with fail
  refine (Cput_any _ a b c x y z).mono ?_
  intro e w4 hpo
  obtain ⟨Ap, cp, he, hrd, hlp, hmp, hnp, hb⟩ := cput_gen hpo
  rw [HPR.out] at he hrd hlp
  subst he
  clear hpo
  have HB : Below w3.heap.size w3 w4 := below_trans (by repeat' (first | exact Below.refl _ _ | refine Below.alloc ?_ ?_ _ | refine Below.setCell ?_ ?_ _ | refine Below.drew ?_ | (simp; done) | (simp; omega))) hb (Nat.le_refl _)
  clear na0 na1 na2 naf lta nx0 nx1 nx2 nxf ltx
  obtain ⟨gr, hgr⟩ : ∃ g, g = w3.heap.size := ⟨_, rfl⟩
  have HGr := Lib.hid hgr; clear hgr
  have q4r : Blk w4 gr 23 #[.int .i64 s1, .int .i64 s2, .int .i64 s3] := (Blk.new' w3 _ _ HGr.out).below hb (by simp; have := HGr.out; omega)
  rw [← HGr.out]
  have q4a := q3a.below HB q3a.lt
  have q4x := q3x.below HB q3x.lt
  have q4s := q3s.below HB q3s.lt
  have HW4 := Lib.hid (HW3.out.trans (HB.mono HW3.out.size))
  clear HB hb q3a q3x q3s
  have r4p := hrd
  clear hrd
  obtain ⟨na0, na1, na2, naf⟩ := q4a.three
  have lta : w.heap.size < w4.heap.size := q4a.lt
  obtain ⟨nx0, nx1, nx2, nxf⟩ := q4x.three
  have ltx : (w.heap.size + 1) < w4.heap.size := q4x.lt
  go_wp2_with fail
  refine (RCput_any _ a b c x y z).mono ?_
  intro e w5 hpo
  obtain ⟨Aq, cq, he, hrd, hlq, hmq, hnq, hb⟩ := cput_gen hpo
  rw [HPR.out] at he hrd hlq
  subst he
  clear hpo
  have HB : Below w4.heap.size w4 w5 := below_trans (by repeat' (first | exact Below.refl _ _ | refine Below.alloc ?_ ?_ _ | refine Below.setCell ?_ ?_ _ | refine Below.drew ?_ | (simp; done) | (simp; omega))) hb (Nat.le_refl _)
  clear na0 na1 na2 naf lta nx0 nx1 nx2 nxf ltx
  have q5a := q4a.below HB q4a.lt
  have q5x := q4x.below HB q4x.lt
  have q5s := q4s.below HB q4s.lt
  have q5r := q4r.below HB q4r.lt
  have r5p := (r4p.below HB).more HB.size
  have HW5 := Lib.hid (HW4.out.trans (HB.mono HW4.out.size))
  clear HB hb q4a q4x q4s q4r r4p
  have r5q := hrd
  clear hrd
  obtain ⟨na0, na1, na2, naf⟩ := q5a.three
  have lta : w.heap.size < w5.heap.size := q5a.lt
  obtain ⟨nx0, nx1, nx2, nxf⟩ := q5x.three
  have ltx : (w.heap.size + 1) < w5.heap.size := q5x.lt
  go_wp2_with fail
  refine (Ctake_at _ a b c Ab nb cb ss t1 t2 t3 tn td _ _ ((HRB.out.below HW5.out).more HW5.out.size) H256.out HL.out hbc hbm hbnone HTK.out rfl rfl).mono ?_
  rintro e w6 ⟨rfl, hb⟩
  have HB : Below w5.heap.size w5 w6 := below_trans (by repeat' (first | exact Below.refl _ _ | refine Below.alloc ?_ ?_ _ | refine Below.setCell ?_ ?_ _ | refine Below.drew ?_ | (simp; done) | (simp; omega))) hb (Nat.le_refl _)
  clear na0 na1 na2 naf lta nx0 nx1 nx2 nxf ltx
  have q6a := q5a.below HB q5a.lt
  have q6x := q5x.below HB q5x.lt
  have q6s := q5s.below HB q5s.lt
  have q6r := q5r.below HB q5r.lt
  have r6p := (r5p.below HB).more HB.size
  have r6q := (r5q.below HB).more HB.size
  have HW6 := Lib.hid (HW5.out.trans (HB.mono HW5.out.size))
  clear HB hb q5a q5x q5s q5r r5p r5q
  obtain ⟨na0, na1, na2, naf⟩ := q6a.three
  have lta : w.heap.size < w6.heap.size := q6a.lt
  obtain ⟨nx0, nx1, nx2, nxf⟩ := q6x.three
  have ltx : (w.heap.size + 1) < w6.heap.size := q6x.lt
  go_wp2_with fail
  refine (RCtake_at _ a b c Ab nb cb ss t1 t2 t3 tn td ?_ H256.out HL.out hbc hbm hbnone HTK.out).mono ?_
  · exact (HRB.out.below (HW6.out.alloc HW6.out.size _)).more (by simp; have := HW6.out.size; omega)
  rintro e w7 ⟨rfl, hb⟩
  have HB : Below w6.heap.size w6 w7 := below_trans (by repeat' (first | exact Below.refl _ _ | refine Below.alloc ?_ ?_ _ | refine Below.setCell ?_ ?_ _ | refine Below.drew ?_ | (simp; done) | (simp; omega))) hb (Nat.le_refl _)
  clear na0 na1 na2 naf lta nx0 nx1 nx2 nxf ltx
  obtain ⟨gt, hgt⟩ : ∃ g, g = w6.heap.size := ⟨_, rfl⟩
  have HGt := Lib.hid hgt; clear hgt
  have q7t : Blk w7 gt 23 #[.int .i64 t1, .int .i64 t2, .int .i64 t3] := (Blk.new' w6 _ _ HGt.out).below hb (by simp; have := HGt.out; omega)
  rw [← HGt.out]
  have q7a := q6a.below HB q6a.lt
  have q7x := q6x.below HB q6x.lt
  have q7s := q6s.below HB q6s.lt
  have q7r := q6r.below HB q6r.lt
  have r7p := (r6p.below HB).more HB.size
  have r7q := (r6q.below HB).more HB.size
  have HW7 := Lib.hid (HW6.out.trans (HB.mono HW6.out.size))
  clear HB hb q6a q6x q6s q6r r6p r6q
  obtain ⟨na0, na1, na2, naf⟩ := q7a.three
  have lta : w.heap.size < w7.heap.size := q7a.lt
  obtain ⟨nx0, nx1, nx2, nxf⟩ := q7x.three
  have ltx : (w.heap.size + 1) < w7.heap.size := q7x.lt
  cases hcab : covB a b c x y z
  · skip
    go_wp2_with fail
    refine (RCovers_any _ a b c x y z).mono ?_
    rintro e w8 ⟨rfl, hb⟩
    rw [hcab]
    have HB : Below w7.heap.size w7 w8 := below_trans (by repeat' (first | exact Below.refl _ _ | refine Below.alloc ?_ ?_ _ | refine Below.setCell ?_ ?_ _ | refine Below.drew ?_ | (simp; done) | (simp; omega))) hb (Nat.le_refl _)
    clear na0 na1 na2 naf lta nx0 nx1 nx2 nxf ltx
    obtain ⟨gu, hgu⟩ : ∃ g, g = w7.heap.size := ⟨_, rfl⟩
    have HGu := Lib.hid hgu; clear hgu
    have q8u : Blk w8 gu 23 #[.int .i64 t1, .int .i64 t2, .int .i64 t3] := (Blk.new' w7 _ _ HGu.out).below hb (by simp; have := HGu.out; omega)
    rw [← HGu.out]
    have q8a := q7a.below HB q7a.lt
    have q8x := q7x.below HB q7x.lt
    have q8s := q7s.below HB q7s.lt
    have q8r := q7r.below HB q7r.lt
    have q8t := q7t.below HB q7t.lt
    have r8p := (r7p.below HB).more HB.size
    have r8q := (r7q.below HB).more HB.size
    have HW8 := Lib.hid (HW7.out.trans (HB.mono HW7.out.size))
    clear HB hb q7a q7x q7s q7r q7t r7p r7q
    obtain ⟨na0, na1, na2, naf⟩ := q8a.three
    have lta : w.heap.size < w8.heap.size := q8a.lt
    obtain ⟨nx0, nx1, nx2, nxf⟩ := q8x.three
    have ltx : (w.heap.size + 1) < w8.heap.size := q8x.lt
    obtain ⟨cba, hcb⟩ : ∃ u, u = covB x y z a b c := ⟨_, rfl⟩
    have HCB := Lib.hid hcb; clear hcb
    go_wp2_with fail
    refine (RCovers_any _ x y z a b c).mono ?_
    rintro e w9 ⟨rfl, hb⟩
    rw [← HCB.out]
    have HB : Below w8.heap.size w8 w9 := below_trans (by repeat' (first | exact Below.refl _ _ | refine Below.alloc ?_ ?_ _ | refine Below.setCell ?_ ?_ _ | refine Below.drew ?_ | (simp; done) | (simp; omega))) hb (Nat.le_refl _)
    clear na0 na1 na2 naf lta nx0 nx1 nx2 nxf ltx
    have q9a := q8a.below HB q8a.lt
    have q9x := q8x.below HB q8x.lt
    have q9s := q8s.below HB q8s.lt
    have q9r := q8r.below HB q8r.lt
    have q9t := q8t.below HB q8t.lt
    have q9u := q8u.below HB q8u.lt
    have r9p := (r8p.below HB).more HB.size
    have r9q := (r8q.below HB).more HB.size
    have HW9 := Lib.hid (HW8.out.trans (HB.mono HW8.out.size))
    clear HB hb q8a q8x q8s q8r q8t q8u r8p r8q
    obtain ⟨na0, na1, na2, naf⟩ := q9a.three
    have lta : w.heap.size < w9.heap.size := q9a.lt
    obtain ⟨nx0, nx1, nx2, nxf⟩ := q9x.three
    have ltx : (w.heap.size + 1) < w9.heap.size := q9x.lt
    have HCABX := Lib.hid hcab; clear hcab
    obtain ⟨br, hbr⟩ : ∃ u, u = rightB a b c := ⟨_, rfl⟩
    have HBR := Lib.hid hbr; clear hbr
    have HRLw := Lib.hid ((HRL.out.below HW9.out))
    have HCT := Lib.hid (show CT w gs gr gt gu a b c x y z s1 s2 s3 t1 t2 t3 Ap Aq L w9 from ⟨HW9.out, q9a, q9x, q9s, q9r, q9t, q9u, r9p, r9q⟩)
    clear na0 na1 na2 naf lta nx0 nx1 nx2 nxf ltx
    clear q9a q9x q9s q9r q9t q9u r9p r9q
    go_wp2
    refine Inv.region_below (fun i v w' => match i with
        | 0 => v = .agg #[.int .i64 s1, .int .i64 s2, .int .i64 s3]
        | 1 => v = .agg #[.int .i64 s1, .int .i64 s2, .int .i64 s3]
        | 2 => v = .bool true
        | 3 => v = .bool true
        | 4 => v = .int .i64 sd
        | 5 => v = .int .i64 sd
        | 6 => v = .bool true
        | 7 => v = .bool true
        | 8 => v = .bool true
        | 9 => v = .slice Ap L.length cp
        | 10 => v = .slice Aq L.length cq
        | 11 => v = .bool true
        | 12 => v = .bool true
        | 13 => v = .bool true
        | 14 => v = .int .i64 pd
        | 15 => v = .int .i64 pd
        | 16 => v = .bool true
        | 17 => v = .bool true
        | 18 => v = .bool true
        | 19 => v = .agg #[.int .i64 t1, .int .i64 t2, .int .i64 t3]
        | 20 => v = .agg #[.int .i64 t1, .int .i64 t2, .int .i64 t3]
        | 21 => v = .bool true
        | 22 => v = .bool true
        | 23 => v = .bool true
        | 24 => v = .int .i64 (tn : Int)
        | 25 => v = .int .i64 (tn : Int)
        | 26 => v = .bool true
        | 27 => v = .bool true
        | 28 => v = .bool true
        | 29 => v = .int .i64 (td : Int)
        | 30 => v = .int .i64 (td : Int)
        | 31 => v = .bool true
        | 32 => v = .bool true
        | 33 => v = .bool true
        | 34 => v = .agg #[.int .i64 a, .int .i64 b, .int .i64 c]
        | 35 => v = .bool br
        | 36 => v = .agg #[.int .i64 a, .int .i64 b, .int .i64 c]
        | 37 => v = .bool br
        | 38 => v = .bool true
        | 39 => v = .bool true
        | 40 => v = .bool true
        | 41 => v = .agg #[.int .i64 a, .int .i64 b, .int .i64 c]
        | 42 => v = .agg #[.int .i64 x, .int .i64 y, .int .i64 z]
        | 43 => v = .bool false
        | 44 => v = .agg #[.int .i64 a, .int .i64 b, .int .i64 c]
        | 45 => v = .agg #[.int .i64 x, .int .i64 y, .int .i64 z]
        | 46 => v = .bool false
        | 47 => v = .bool true
        | 48 => v = .bool true
        | 49 => v = .bool true
        | 50 => v = .agg #[.int .i64 a, .int .i64 b, .int .i64 c]
        | 51 => v = .agg #[.int .i64 x, .int .i64 y, .int .i64 z]
        | 52 => v = .bool (!cba)
        | 53 => v = .bool (!cba)
        | 54 => v = .bool true
        | 55 => v = .bool true
        | 56 => v = .bool true
        | 57 => v = .slice Al cs.length cl
        | 58 => v = .agg #[.int .i64 m1, .int .i64 m2, .int .i64 m3]
        | 59 => v = .slice Al cs.length cl
        | 60 => v = .agg #[.int .i64 m1, .int .i64 m2, .int .i64 m3]
        | 61 => v = .bool true
        | 62 => v = .bool true
        | 63 => v = .bool true
        | _ => True)
      (fun w' => CT w gs gr gt gu a b c x y z s1 s2 s3 t1 t2 t3 Ap Aq L w' ∧ Rd w' w.heap.size Al (cells3 cs)) 147 [84, 85, 86, 87, 88, 89, 90, 91, 92, 93, 94, 95, 96, 97, 98, 99, 100, 101, 102, 103, 104, 105, 106, 107, 108, 109, 110, 111, 112, 113, 114, 115, 116, 117, 118, 119, 120, 121, 122, 123, 124, 125, 126, 127, 128, 129, 130, 131, 132, 133, 134, 135, 136, 137, 138, 139, 140, 141, 142, 143, 144, 145, 146, 10] (by kernel_rfl) rfl (by kernel_rfl) (by kernel_rfl) ?_ ?_ ?_ ?_
    · intro v v' hC hb
      obtain ⟨hCT, hRL⟩ := hC
      exact ⟨hCT.keep hb, hRL.below (hb.mono hCT.1.size)⟩
    · exact ⟨CT.keep HCT.out (Below.refl _ _).drew, HRLw.out⟩
    · refine ⟨⟨fun _ _ _ h _ => h, ?_⟩, ⟨fun _ _ _ h _ => h, ?_⟩, ⟨fun _ _ _ h _ => h, ?_⟩, ⟨fun _ _ _ h _ => h, ?_⟩, ⟨fun _ _ _ h _ => h, ?_⟩, ⟨fun _ _ _ h _ => h, ?_⟩, ⟨fun _ _ _ h _ => h, ?_⟩, ⟨fun _ _ _ h _ => h, ?_⟩, ⟨fun _ _ _ h _ => h, ?_⟩, ⟨fun _ _ _ h _ => h, ?_⟩, ⟨fun _ _ _ h _ => h, ?_⟩, ⟨fun _ _ _ h _ => h, ?_⟩, ⟨fun _ _ _ h _ => h, ?_⟩, ⟨fun _ _ _ h _ => h, ?_⟩, ⟨fun _ _ _ h _ => h, ?_⟩, ⟨fun _ _ _ h _ => h, ?_⟩, ⟨fun _ _ _ h _ => h, ?_⟩, ⟨fun _ _ _ h _ => h, ?_⟩, ⟨fun _ _ _ h _ => h, ?_⟩, ⟨fun _ _ _ h _ => h, ?_⟩, ⟨fun _ _ _ h _ => h, ?_⟩, ⟨fun _ _ _ h _ => h, ?_⟩, ⟨fun _ _ _ h _ => h, ?_⟩, ⟨fun _ _ _ h _ => h, ?_⟩, ⟨fun _ _ _ h _ => h, ?_⟩, ⟨fun _ _ _ h _ => h, ?_⟩, ⟨fun _ _ _ h _ => h, ?_⟩, ⟨fun _ _ _ h _ => h, ?_⟩, ⟨fun _ _ _ h _ => h, ?_⟩, ⟨fun _ _ _ h _ => h, ?_⟩, ⟨fun _ _ _ h _ => h, ?_⟩, ⟨fun _ _ _ h _ => h, ?_⟩, ⟨fun _ _ _ h _ => h, ?_⟩, ⟨fun _ _ _ h _ => h, ?_⟩, ⟨fun _ _ _ h _ => h, ?_⟩, ⟨fun _ _ _ h _ => h, ?_⟩, ⟨fun _ _ _ h _ => h, ?_⟩, ⟨fun _ _ _ h _ => h, ?_⟩, ⟨fun _ _ _ h _ => h, ?_⟩, ⟨fun _ _ _ h _ => h, ?_⟩, ⟨fun _ _ _ h _ => h, ?_⟩, ⟨fun _ _ _ h _ => h, ?_⟩, ⟨fun _ _ _ h _ => h, ?_⟩, ⟨fun _ _ _ h _ => h, ?_⟩, ⟨fun _ _ _ h _ => h, ?_⟩, ⟨fun _ _ _ h _ => h, ?_⟩, ⟨fun _ _ _ h _ => h, ?_⟩, ⟨fun _ _ _ h _ => h, ?_⟩, ⟨fun _ _ _ h _ => h, ?_⟩, ⟨fun _ _ _ h _ => h, ?_⟩, ⟨fun _ _ _ h _ => h, ?_⟩, ⟨fun _ _ _ h _ => h, ?_⟩, ⟨fun _ _ _ h _ => h, ?_⟩, ⟨fun _ _ _ h _ => h, ?_⟩, ⟨fun _ _ _ h _ => h, ?_⟩, ⟨fun _ _ _ h _ => h, ?_⟩, ⟨fun _ _ _ h _ => h, ?_⟩, ⟨fun _ _ _ h _ => h, ?_⟩, ⟨fun _ _ _ h _ => h, ?_⟩, ⟨fun _ _ _ h _ => h, ?_⟩, ⟨fun _ _ _ h _ => h, ?_⟩, ⟨fun _ _ _ h _ => h, ?_⟩, ⟨fun _ _ _ h _ => h, ?_⟩, ⟨fun _ _ _ h _ => h, ?_⟩, trivial⟩
      · intro act wa hC hd H O K hK
        clear hd
        obtain ⟨hCT, hRL⟩ := hC
        have h11 := O 11 (by kernel_rfl)
        have g11 := Array.getD_eq_getD_getElem?.symm.trans h11
        clear H O
        obtain ⟨na0, na1, na2, naf⟩ := hCT.2.1.three
        obtain ⟨nx0, nx1, nx2, nxf⟩ := hCT.2.2.1.three
        obtain ⟨ns0, ns1, ns2, nsf⟩ := hCT.2.2.2.1.three
        obtain ⟨nr0, nr1, nr2, nrf⟩ := hCT.2.2.2.2.1.three
        obtain ⟨nt0, nt1, nt2, ntf⟩ := hCT.2.2.2.2.2.1.three
        obtain ⟨nu0, nu1, nu2, nuf⟩ := hCT.2.2.2.2.2.2.1.three
        go_simp
        exact hK _ _ (Below.refl _ _) (fun _ => rfl)
      · intro act wa hC hd H O K hK
        clear hd
        obtain ⟨hCT, hRL⟩ := hC
        have h13 := O 13 (by kernel_rfl)
        have g13 := Array.getD_eq_getD_getElem?.symm.trans h13
        clear H O
        obtain ⟨na0, na1, na2, naf⟩ := hCT.2.1.three
        obtain ⟨nx0, nx1, nx2, nxf⟩ := hCT.2.2.1.three
        obtain ⟨ns0, ns1, ns2, nsf⟩ := hCT.2.2.2.1.three
        obtain ⟨nr0, nr1, nr2, nrf⟩ := hCT.2.2.2.2.1.three
        obtain ⟨nt0, nt1, nt2, ntf⟩ := hCT.2.2.2.2.2.1.three
        obtain ⟨nu0, nu1, nu2, nuf⟩ := hCT.2.2.2.2.2.2.1.three
        go_simp
        exact hK _ _ (Below.refl _ _) (fun _ => rfl)
      · intro act wa hC hd H O K hK
        clear hd
        obtain ⟨hCT, hRL⟩ := hC
        have h84 : act.tmps.getD 84 undef = .agg #[.int .i64 s1, .int .i64 s2, .int .i64 s3] := H 1 0 84 (by kernel_rfl) rfl
        have g84 := Array.getD_eq_getD_getElem?.symm.trans h84
        have h85 : act.tmps.getD 85 undef = .agg #[.int .i64 s1, .int .i64 s2, .int .i64 s3] := H 1 1 85 (by kernel_rfl) rfl
        have g85 := Array.getD_eq_getD_getElem?.symm.trans h85
        clear H O
        obtain ⟨na0, na1, na2, naf⟩ := hCT.2.1.three
        obtain ⟨nx0, nx1, nx2, nxf⟩ := hCT.2.2.1.three
        obtain ⟨ns0, ns1, ns2, nsf⟩ := hCT.2.2.2.1.three
        obtain ⟨nr0, nr1, nr2, nrf⟩ := hCT.2.2.2.2.1.three
        obtain ⟨nt0, nt1, nt2, ntf⟩ := hCT.2.2.2.2.2.1.three
        obtain ⟨nu0, nu1, nu2, nuf⟩ := hCT.2.2.2.2.2.2.1.three
        have qq := eqc_in s1 s2 s3 s1 s2 s3 wa
        rw [eqcB_of rfl rfl rfl] at qq
        go_simp
        exact hK _ _ (Below.refl _ _) (fun _ => rfl)
      · intro act wa hC hd H O K hK
        clear hd
        obtain ⟨hCT, hRL⟩ := hC
        have h86 : act.tmps.getD 86 undef = .bool true := H 1 2 86 (by kernel_rfl) rfl
        have g86 := Array.getD_eq_getD_getElem?.symm.trans h86
        clear H O
        obtain ⟨na0, na1, na2, naf⟩ := hCT.2.1.three
        obtain ⟨nx0, nx1, nx2, nxf⟩ := hCT.2.2.1.three
        obtain ⟨ns0, ns1, ns2, nsf⟩ := hCT.2.2.2.1.three
        obtain ⟨nr0, nr1, nr2, nrf⟩ := hCT.2.2.2.2.1.three
        obtain ⟨nt0, nt1, nt2, ntf⟩ := hCT.2.2.2.2.2.1.three
        obtain ⟨nu0, nu1, nu2, nuf⟩ := hCT.2.2.2.2.2.2.1.three
        go_simp
        exact hK _ _ (Below.refl _ _) (fun _ => rfl)
      · intro act wa hC hd H O K hK
        clear hd
        obtain ⟨hCT, hRL⟩ := hC
        have h12 := O 12 (by kernel_rfl)
        have g12 := Array.getD_eq_getD_getElem?.symm.trans h12
        have h87 : act.tmps.getD 87 undef = .bool true := H 1 3 87 (by kernel_rfl) rfl
        have g87 := Array.getD_eq_getD_getElem?.symm.trans h87
        have k87 := Inv.some_bool g87
        clear H O
        obtain ⟨na0, na1, na2, naf⟩ := hCT.2.1.three
        obtain ⟨nx0, nx1, nx2, nxf⟩ := hCT.2.2.1.three
        obtain ⟨ns0, ns1, ns2, nsf⟩ := hCT.2.2.2.1.three
        obtain ⟨nr0, nr1, nr2, nrf⟩ := hCT.2.2.2.2.1.three
        obtain ⟨nt0, nt1, nt2, ntf⟩ := hCT.2.2.2.2.2.1.three
        obtain ⟨nu0, nu1, nu2, nuf⟩ := hCT.2.2.2.2.2.2.1.three
        go_simp
        exact hK _ _ (Below.refl _ _) (fun _ => rfl)
      · intro act wa hC hd H O K hK
        clear hd
        obtain ⟨hCT, hRL⟩ := hC
        have h14 := O 14 (by kernel_rfl)
        have g14 := Array.getD_eq_getD_getElem?.symm.trans h14
        have h87 : act.tmps.getD 87 undef = .bool true := H 1 3 87 (by kernel_rfl) rfl
        have g87 := Array.getD_eq_getD_getElem?.symm.trans h87
        have k87 := Inv.some_bool g87
        clear H O
        obtain ⟨na0, na1, na2, naf⟩ := hCT.2.1.three
        obtain ⟨nx0, nx1, nx2, nxf⟩ := hCT.2.2.1.three
        obtain ⟨ns0, ns1, ns2, nsf⟩ := hCT.2.2.2.1.three
        obtain ⟨nr0, nr1, nr2, nrf⟩ := hCT.2.2.2.2.1.three
        obtain ⟨nt0, nt1, nt2, ntf⟩ := hCT.2.2.2.2.2.1.three
        obtain ⟨nu0, nu1, nu2, nuf⟩ := hCT.2.2.2.2.2.2.1.three
        go_simp
        exact hK _ _ (Below.refl _ _) (fun _ => rfl)
      · intro act wa hC hd H O K hK
        clear hd
        obtain ⟨hCT, hRL⟩ := hC
        have h88 : act.tmps.getD 88 undef = .int .i64 sd := H 1 4 88 (by kernel_rfl) rfl
        have g88 := Array.getD_eq_getD_getElem?.symm.trans h88
        have h89 : act.tmps.getD 89 undef = .int .i64 sd := H 1 5 89 (by kernel_rfl) rfl
        have g89 := Array.getD_eq_getD_getElem?.symm.trans h89
        have h87 : act.tmps.getD 87 undef = .bool true := H 1 3 87 (by kernel_rfl) rfl
        have g87 := Array.getD_eq_getD_getElem?.symm.trans h87
        have k87 := Inv.some_bool g87
        clear H O
        obtain ⟨na0, na1, na2, naf⟩ := hCT.2.1.three
        obtain ⟨nx0, nx1, nx2, nxf⟩ := hCT.2.2.1.three
        obtain ⟨ns0, ns1, ns2, nsf⟩ := hCT.2.2.2.1.three
        obtain ⟨nr0, nr1, nr2, nrf⟩ := hCT.2.2.2.2.1.three
        obtain ⟨nt0, nt1, nt2, ntf⟩ := hCT.2.2.2.2.2.1.three
        obtain ⟨nu0, nu1, nu2, nuf⟩ := hCT.2.2.2.2.2.2.1.three
        go_simp
        exact hK _ _ (Below.refl _ _) (fun _ => rfl)
      · intro act wa hC hd H O K hK
        clear hd
        obtain ⟨hCT, hRL⟩ := hC
        have h87 : act.tmps.getD 87 undef = .bool true := H 1 3 87 (by kernel_rfl) rfl
        have g87 := Array.getD_eq_getD_getElem?.symm.trans h87
        have h90 : act.tmps.getD 90 undef = .bool true := H 1 6 90 (by kernel_rfl) rfl
        have g90 := Array.getD_eq_getD_getElem?.symm.trans h90
        clear H O
        obtain ⟨na0, na1, na2, naf⟩ := hCT.2.1.three
        obtain ⟨nx0, nx1, nx2, nxf⟩ := hCT.2.2.1.three
        obtain ⟨ns0, ns1, ns2, nsf⟩ := hCT.2.2.2.1.three
        obtain ⟨nr0, nr1, nr2, nrf⟩ := hCT.2.2.2.2.1.three
        obtain ⟨nt0, nt1, nt2, ntf⟩ := hCT.2.2.2.2.2.1.three
        obtain ⟨nu0, nu1, nu2, nuf⟩ := hCT.2.2.2.2.2.2.1.three
        go_simp
        exact hK _ _ (Below.refl _ _) (fun _ => rfl)
      · intro act wa hC hd H O K hK
        clear hd
        obtain ⟨hCT, hRL⟩ := hC
        have h91 : act.tmps.getD 91 undef = .bool true := H 1 7 91 (by kernel_rfl) rfl
        have g91 := Array.getD_eq_getD_getElem?.symm.trans h91
        clear H O
        obtain ⟨na0, na1, na2, naf⟩ := hCT.2.1.three
        obtain ⟨nx0, nx1, nx2, nxf⟩ := hCT.2.2.1.three
        obtain ⟨ns0, ns1, ns2, nsf⟩ := hCT.2.2.2.1.three
        obtain ⟨nr0, nr1, nr2, nrf⟩ := hCT.2.2.2.2.1.three
        obtain ⟨nt0, nt1, nt2, ntf⟩ := hCT.2.2.2.2.2.1.three
        obtain ⟨nu0, nu1, nu2, nuf⟩ := hCT.2.2.2.2.2.2.1.three
        go_simp
        exact hK _ _ (Below.refl _ _) (fun _ => rfl)
      · intro act wa hC hd H O K hK
        clear hd
        obtain ⟨hCT, hRL⟩ := hC
        have h15 := O 15 (by kernel_rfl)
        have g15 := Array.getD_eq_getD_getElem?.symm.trans h15
        have h92 : act.tmps.getD 92 undef = .bool true := H 1 8 92 (by kernel_rfl) rfl
        have g92 := Array.getD_eq_getD_getElem?.symm.trans h92
        have k92 := Inv.some_bool g92
        clear H O
        obtain ⟨na0, na1, na2, naf⟩ := hCT.2.1.three
        obtain ⟨nx0, nx1, nx2, nxf⟩ := hCT.2.2.1.three
        obtain ⟨ns0, ns1, ns2, nsf⟩ := hCT.2.2.2.1.three
        obtain ⟨nr0, nr1, nr2, nrf⟩ := hCT.2.2.2.2.1.three
        obtain ⟨nt0, nt1, nt2, ntf⟩ := hCT.2.2.2.2.2.1.three
        obtain ⟨nu0, nu1, nu2, nuf⟩ := hCT.2.2.2.2.2.2.1.three
        go_simp
        exact hK _ _ (Below.refl _ _) (fun _ => rfl)
      · intro act wa hC hd H O K hK
        clear hd
        obtain ⟨hCT, hRL⟩ := hC
        have h17 := O 17 (by kernel_rfl)
        have g17 := Array.getD_eq_getD_getElem?.symm.trans h17
        have h92 : act.tmps.getD 92 undef = .bool true := H 1 8 92 (by kernel_rfl) rfl
        have g92 := Array.getD_eq_getD_getElem?.symm.trans h92
        have k92 := Inv.some_bool g92
        clear H O
        obtain ⟨na0, na1, na2, naf⟩ := hCT.2.1.three
        obtain ⟨nx0, nx1, nx2, nxf⟩ := hCT.2.2.1.three
        obtain ⟨ns0, ns1, ns2, nsf⟩ := hCT.2.2.2.1.three
        obtain ⟨nr0, nr1, nr2, nrf⟩ := hCT.2.2.2.2.1.three
        obtain ⟨nt0, nt1, nt2, ntf⟩ := hCT.2.2.2.2.2.1.three
        obtain ⟨nu0, nu1, nu2, nuf⟩ := hCT.2.2.2.2.2.2.1.three
        go_simp
        exact hK _ _ (Below.refl _ _) (fun _ => rfl)
      · intro act wa hC hd H O K hK
        clear hd
        obtain ⟨hCT, hRL⟩ := hC
        have h93 : act.tmps.getD 93 undef = .slice Ap L.length cp := H 1 9 93 (by kernel_rfl) rfl
        have g93 := Array.getD_eq_getD_getElem?.symm.trans h93
        have h94 : act.tmps.getD 94 undef = .slice Aq L.length cq := H 1 10 94 (by kernel_rfl) rfl
        have g94 := Array.getD_eq_getD_getElem?.symm.trans h94
        have h92 : act.tmps.getD 92 undef = .bool true := H 1 8 92 (by kernel_rfl) rfl
        have g92 := Array.getD_eq_getD_getElem?.symm.trans h92
        have k92 := Inv.some_bool g92
        clear H O
        obtain ⟨na0, na1, na2, naf⟩ := hCT.2.1.three
        obtain ⟨nx0, nx1, nx2, nxf⟩ := hCT.2.2.1.three
        obtain ⟨ns0, ns1, ns2, nsf⟩ := hCT.2.2.2.1.three
        obtain ⟨nr0, nr1, nr2, nrf⟩ := hCT.2.2.2.2.1.three
        obtain ⟨nt0, nt1, nt2, ntf⟩ := hCT.2.2.2.2.2.1.three
        obtain ⟨nu0, nu1, nu2, nuf⟩ := hCT.2.2.2.2.2.2.1.three
        go_simp
        refine (same_at wa _ _ _ _ L L _ _ L.length L.length true hCT.2.2.2.2.2.2.2.1 hCT.2.2.2.2.2.2.2.2 (by omega) rfl rfl (by simp)).mono ?_
        rintro e w1 ⟨rfl, q, hq⟩
        have hb : Below wa.heap.size wa w1 := by rw [hq]; exact below_drewN (Below.refl _ _) q
        exact hK _ _ hb (fun _ => rfl)
      · intro act wa hC hd H O K hK
        clear hd
        obtain ⟨hCT, hRL⟩ := hC
        have h92 : act.tmps.getD 92 undef = .bool true := H 1 8 92 (by kernel_rfl) rfl
        have g92 := Array.getD_eq_getD_getElem?.symm.trans h92
        have h95 : act.tmps.getD 95 undef = .bool true := H 1 11 95 (by kernel_rfl) rfl
        have g95 := Array.getD_eq_getD_getElem?.symm.trans h95
        clear H O
        obtain ⟨na0, na1, na2, naf⟩ := hCT.2.1.three
        obtain ⟨nx0, nx1, nx2, nxf⟩ := hCT.2.2.1.three
        obtain ⟨ns0, ns1, ns2, nsf⟩ := hCT.2.2.2.1.three
        obtain ⟨nr0, nr1, nr2, nrf⟩ := hCT.2.2.2.2.1.three
        obtain ⟨nt0, nt1, nt2, ntf⟩ := hCT.2.2.2.2.2.1.three
        obtain ⟨nu0, nu1, nu2, nuf⟩ := hCT.2.2.2.2.2.2.1.three
        go_simp
        exact hK _ _ (Below.refl _ _) (fun _ => rfl)
      · intro act wa hC hd H O K hK
        clear hd
        obtain ⟨hCT, hRL⟩ := hC
        have h96 : act.tmps.getD 96 undef = .bool true := H 1 12 96 (by kernel_rfl) rfl
        have g96 := Array.getD_eq_getD_getElem?.symm.trans h96
        clear H O
        obtain ⟨na0, na1, na2, naf⟩ := hCT.2.1.three
        obtain ⟨nx0, nx1, nx2, nxf⟩ := hCT.2.2.1.three
        obtain ⟨ns0, ns1, ns2, nsf⟩ := hCT.2.2.2.1.three
        obtain ⟨nr0, nr1, nr2, nrf⟩ := hCT.2.2.2.2.1.three
        obtain ⟨nt0, nt1, nt2, ntf⟩ := hCT.2.2.2.2.2.1.three
        obtain ⟨nu0, nu1, nu2, nuf⟩ := hCT.2.2.2.2.2.2.1.three
        go_simp
        exact hK _ _ (Below.refl _ _) (fun _ => rfl)
      · intro act wa hC hd H O K hK
        clear hd
        obtain ⟨hCT, hRL⟩ := hC
        have h16 := O 16 (by kernel_rfl)
        have g16 := Array.getD_eq_getD_getElem?.symm.trans h16
        have h97 : act.tmps.getD 97 undef = .bool true := H 1 13 97 (by kernel_rfl) rfl
        have g97 := Array.getD_eq_getD_getElem?.symm.trans h97
        have k97 := Inv.some_bool g97
        clear H O
        obtain ⟨na0, na1, na2, naf⟩ := hCT.2.1.three
        obtain ⟨nx0, nx1, nx2, nxf⟩ := hCT.2.2.1.three
        obtain ⟨ns0, ns1, ns2, nsf⟩ := hCT.2.2.2.1.three
        obtain ⟨nr0, nr1, nr2, nrf⟩ := hCT.2.2.2.2.1.three
        obtain ⟨nt0, nt1, nt2, ntf⟩ := hCT.2.2.2.2.2.1.three
        obtain ⟨nu0, nu1, nu2, nuf⟩ := hCT.2.2.2.2.2.2.1.three
        go_simp
        exact hK _ _ (Below.refl _ _) (fun _ => rfl)
      · intro act wa hC hd H O K hK
        clear hd
        obtain ⟨hCT, hRL⟩ := hC
        have h18 := O 18 (by kernel_rfl)
        have g18 := Array.getD_eq_getD_getElem?.symm.trans h18
        have h97 : act.tmps.getD 97 undef = .bool true := H 1 13 97 (by kernel_rfl) rfl
        have g97 := Array.getD_eq_getD_getElem?.symm.trans h97
        have k97 := Inv.some_bool g97
        clear H O
        obtain ⟨na0, na1, na2, naf⟩ := hCT.2.1.three
        obtain ⟨nx0, nx1, nx2, nxf⟩ := hCT.2.2.1.three
        obtain ⟨ns0, ns1, ns2, nsf⟩ := hCT.2.2.2.1.three
        obtain ⟨nr0, nr1, nr2, nrf⟩ := hCT.2.2.2.2.1.three
        obtain ⟨nt0, nt1, nt2, ntf⟩ := hCT.2.2.2.2.2.1.three
        obtain ⟨nu0, nu1, nu2, nuf⟩ := hCT.2.2.2.2.2.2.1.three
        go_simp
        exact hK _ _ (Below.refl _ _) (fun _ => rfl)
      · intro act wa hC hd H O K hK
        clear hd
        obtain ⟨hCT, hRL⟩ := hC
        have h98 : act.tmps.getD 98 undef = .int .i64 pd := H 1 14 98 (by kernel_rfl) rfl
        have g98 := Array.getD_eq_getD_getElem?.symm.trans h98
        have h99 : act.tmps.getD 99 undef = .int .i64 pd := H 1 15 99 (by kernel_rfl) rfl
        have g99 := Array.getD_eq_getD_getElem?.symm.trans h99
        have h97 : act.tmps.getD 97 undef = .bool true := H 1 13 97 (by kernel_rfl) rfl
        have g97 := Array.getD_eq_getD_getElem?.symm.trans h97
        have k97 := Inv.some_bool g97
        clear H O
        obtain ⟨na0, na1, na2, naf⟩ := hCT.2.1.three
        obtain ⟨nx0, nx1, nx2, nxf⟩ := hCT.2.2.1.three
        obtain ⟨ns0, ns1, ns2, nsf⟩ := hCT.2.2.2.1.three
        obtain ⟨nr0, nr1, nr2, nrf⟩ := hCT.2.2.2.2.1.three
        obtain ⟨nt0, nt1, nt2, ntf⟩ := hCT.2.2.2.2.2.1.three
        obtain ⟨nu0, nu1, nu2, nuf⟩ := hCT.2.2.2.2.2.2.1.three
        go_simp
        exact hK _ _ (Below.refl _ _) (fun _ => rfl)
      · intro act wa hC hd H O K hK
        clear hd
        obtain ⟨hCT, hRL⟩ := hC
        have h97 : act.tmps.getD 97 undef = .bool true := H 1 13 97 (by kernel_rfl) rfl
        have g97 := Array.getD_eq_getD_getElem?.symm.trans h97
        have h100 : act.tmps.getD 100 undef = .bool true := H 1 16 100 (by kernel_rfl) rfl
        have g100 := Array.getD_eq_getD_getElem?.symm.trans h100
        clear H O
        obtain ⟨na0, na1, na2, naf⟩ := hCT.2.1.three
        obtain ⟨nx0, nx1, nx2, nxf⟩ := hCT.2.2.1.three
        obtain ⟨ns0, ns1, ns2, nsf⟩ := hCT.2.2.2.1.three
        obtain ⟨nr0, nr1, nr2, nrf⟩ := hCT.2.2.2.2.1.three
        obtain ⟨nt0, nt1, nt2, ntf⟩ := hCT.2.2.2.2.2.1.three
        obtain ⟨nu0, nu1, nu2, nuf⟩ := hCT.2.2.2.2.2.2.1.three
        go_simp
        exact hK _ _ (Below.refl _ _) (fun _ => rfl)
      · intro act wa hC hd H O K hK
        clear hd
        obtain ⟨hCT, hRL⟩ := hC
        have h101 : act.tmps.getD 101 undef = .bool true := H 1 17 101 (by kernel_rfl) rfl
        have g101 := Array.getD_eq_getD_getElem?.symm.trans h101
        clear H O
        obtain ⟨na0, na1, na2, naf⟩ := hCT.2.1.three
        obtain ⟨nx0, nx1, nx2, nxf⟩ := hCT.2.2.1.three
        obtain ⟨ns0, ns1, ns2, nsf⟩ := hCT.2.2.2.1.three
        obtain ⟨nr0, nr1, nr2, nrf⟩ := hCT.2.2.2.2.1.three
        obtain ⟨nt0, nt1, nt2, ntf⟩ := hCT.2.2.2.2.2.1.three
        obtain ⟨nu0, nu1, nu2, nuf⟩ := hCT.2.2.2.2.2.2.1.three
        go_simp
        exact hK _ _ (Below.refl _ _) (fun _ => rfl)
      · intro act wa hC hd H O K hK
        clear hd
        obtain ⟨hCT, hRL⟩ := hC
        have h19 := O 19 (by kernel_rfl)
        have g19 := Array.getD_eq_getD_getElem?.symm.trans h19
        have h102 : act.tmps.getD 102 undef = .bool true := H 1 18 102 (by kernel_rfl) rfl
        have g102 := Array.getD_eq_getD_getElem?.symm.trans h102
        have k102 := Inv.some_bool g102
        clear H O
        obtain ⟨na0, na1, na2, naf⟩ := hCT.2.1.three
        obtain ⟨nx0, nx1, nx2, nxf⟩ := hCT.2.2.1.three
        obtain ⟨ns0, ns1, ns2, nsf⟩ := hCT.2.2.2.1.three
        obtain ⟨nr0, nr1, nr2, nrf⟩ := hCT.2.2.2.2.1.three
        obtain ⟨nt0, nt1, nt2, ntf⟩ := hCT.2.2.2.2.2.1.three
        obtain ⟨nu0, nu1, nu2, nuf⟩ := hCT.2.2.2.2.2.2.1.three
        go_simp
        exact hK _ _ (Below.refl _ _) (fun _ => rfl)
      · intro act wa hC hd H O K hK
        clear hd
        obtain ⟨hCT, hRL⟩ := hC
        have h22 := O 22 (by kernel_rfl)
        have g22 := Array.getD_eq_getD_getElem?.symm.trans h22
        have h102 : act.tmps.getD 102 undef = .bool true := H 1 18 102 (by kernel_rfl) rfl
        have g102 := Array.getD_eq_getD_getElem?.symm.trans h102
        have k102 := Inv.some_bool g102
        clear H O
        obtain ⟨na0, na1, na2, naf⟩ := hCT.2.1.three
        obtain ⟨nx0, nx1, nx2, nxf⟩ := hCT.2.2.1.three
        obtain ⟨ns0, ns1, ns2, nsf⟩ := hCT.2.2.2.1.three
        obtain ⟨nr0, nr1, nr2, nrf⟩ := hCT.2.2.2.2.1.three
        obtain ⟨nt0, nt1, nt2, ntf⟩ := hCT.2.2.2.2.2.1.three
        obtain ⟨nu0, nu1, nu2, nuf⟩ := hCT.2.2.2.2.2.2.1.three
        go_simp
        exact hK _ _ (Below.refl _ _) (fun _ => rfl)
      · intro act wa hC hd H O K hK
        clear hd
        obtain ⟨hCT, hRL⟩ := hC
        have h103 : act.tmps.getD 103 undef = .agg #[.int .i64 t1, .int .i64 t2, .int .i64 t3] := H 1 19 103 (by kernel_rfl) rfl
        have g103 := Array.getD_eq_getD_getElem?.symm.trans h103
        have h104 : act.tmps.getD 104 undef = .agg #[.int .i64 t1, .int .i64 t2, .int .i64 t3] := H 1 20 104 (by kernel_rfl) rfl
        have g104 := Array.getD_eq_getD_getElem?.symm.trans h104
        have h102 : act.tmps.getD 102 undef = .bool true := H 1 18 102 (by kernel_rfl) rfl
        have g102 := Array.getD_eq_getD_getElem?.symm.trans h102
        have k102 := Inv.some_bool g102
        clear H O
        obtain ⟨na0, na1, na2, naf⟩ := hCT.2.1.three
        obtain ⟨nx0, nx1, nx2, nxf⟩ := hCT.2.2.1.three
        obtain ⟨ns0, ns1, ns2, nsf⟩ := hCT.2.2.2.1.three
        obtain ⟨nr0, nr1, nr2, nrf⟩ := hCT.2.2.2.2.1.three
        obtain ⟨nt0, nt1, nt2, ntf⟩ := hCT.2.2.2.2.2.1.three
        obtain ⟨nu0, nu1, nu2, nuf⟩ := hCT.2.2.2.2.2.2.1.three
        have qq := eqc_in t1 t2 t3 t1 t2 t3 wa
        rw [eqcB_of rfl rfl rfl] at qq
        go_simp
        exact hK _ _ (Below.refl _ _) (fun _ => rfl)
      · intro act wa hC hd H O K hK
        clear hd
        obtain ⟨hCT, hRL⟩ := hC
        have h102 : act.tmps.getD 102 undef = .bool true := H 1 18 102 (by kernel_rfl) rfl
        have g102 := Array.getD_eq_getD_getElem?.symm.trans h102
        have h105 : act.tmps.getD 105 undef = .bool true := H 1 21 105 (by kernel_rfl) rfl
        have g105 := Array.getD_eq_getD_getElem?.symm.trans h105
        clear H O
        obtain ⟨na0, na1, na2, naf⟩ := hCT.2.1.three
        obtain ⟨nx0, nx1, nx2, nxf⟩ := hCT.2.2.1.three
        obtain ⟨ns0, ns1, ns2, nsf⟩ := hCT.2.2.2.1.three
        obtain ⟨nr0, nr1, nr2, nrf⟩ := hCT.2.2.2.2.1.three
        obtain ⟨nt0, nt1, nt2, ntf⟩ := hCT.2.2.2.2.2.1.three
        obtain ⟨nu0, nu1, nu2, nuf⟩ := hCT.2.2.2.2.2.2.1.three
        go_simp
        exact hK _ _ (Below.refl _ _) (fun _ => rfl)
      · intro act wa hC hd H O K hK
        clear hd
        obtain ⟨hCT, hRL⟩ := hC
        have h106 : act.tmps.getD 106 undef = .bool true := H 1 22 106 (by kernel_rfl) rfl
        have g106 := Array.getD_eq_getD_getElem?.symm.trans h106
        clear H O
        obtain ⟨na0, na1, na2, naf⟩ := hCT.2.1.three
        obtain ⟨nx0, nx1, nx2, nxf⟩ := hCT.2.2.1.three
        obtain ⟨ns0, ns1, ns2, nsf⟩ := hCT.2.2.2.1.three
        obtain ⟨nr0, nr1, nr2, nrf⟩ := hCT.2.2.2.2.1.three
        obtain ⟨nt0, nt1, nt2, ntf⟩ := hCT.2.2.2.2.2.1.three
        obtain ⟨nu0, nu1, nu2, nuf⟩ := hCT.2.2.2.2.2.2.1.three
        go_simp
        exact hK _ _ (Below.refl _ _) (fun _ => rfl)
      · intro act wa hC hd H O K hK
        clear hd
        obtain ⟨hCT, hRL⟩ := hC
        have h20 := O 20 (by kernel_rfl)
        have g20 := Array.getD_eq_getD_getElem?.symm.trans h20
        have h107 : act.tmps.getD 107 undef = .bool true := H 1 23 107 (by kernel_rfl) rfl
        have g107 := Array.getD_eq_getD_getElem?.symm.trans h107
        have k107 := Inv.some_bool g107
        clear H O
        obtain ⟨na0, na1, na2, naf⟩ := hCT.2.1.three
        obtain ⟨nx0, nx1, nx2, nxf⟩ := hCT.2.2.1.three
        obtain ⟨ns0, ns1, ns2, nsf⟩ := hCT.2.2.2.1.three
        obtain ⟨nr0, nr1, nr2, nrf⟩ := hCT.2.2.2.2.1.three
        obtain ⟨nt0, nt1, nt2, ntf⟩ := hCT.2.2.2.2.2.1.three
        obtain ⟨nu0, nu1, nu2, nuf⟩ := hCT.2.2.2.2.2.2.1.three
        go_simp
        exact hK _ _ (Below.refl _ _) (fun _ => rfl)
      · intro act wa hC hd H O K hK
        clear hd
        obtain ⟨hCT, hRL⟩ := hC
        have h23 := O 23 (by kernel_rfl)
        have g23 := Array.getD_eq_getD_getElem?.symm.trans h23
        have h107 : act.tmps.getD 107 undef = .bool true := H 1 23 107 (by kernel_rfl) rfl
        have g107 := Array.getD_eq_getD_getElem?.symm.trans h107
        have k107 := Inv.some_bool g107
        clear H O
        obtain ⟨na0, na1, na2, naf⟩ := hCT.2.1.three
        obtain ⟨nx0, nx1, nx2, nxf⟩ := hCT.2.2.1.three
        obtain ⟨ns0, ns1, ns2, nsf⟩ := hCT.2.2.2.1.three
        obtain ⟨nr0, nr1, nr2, nrf⟩ := hCT.2.2.2.2.1.three
        obtain ⟨nt0, nt1, nt2, ntf⟩ := hCT.2.2.2.2.2.1.three
        obtain ⟨nu0, nu1, nu2, nuf⟩ := hCT.2.2.2.2.2.2.1.three
        go_simp
        exact hK _ _ (Below.refl _ _) (fun _ => rfl)
      · intro act wa hC hd H O K hK
        clear hd
        obtain ⟨hCT, hRL⟩ := hC
        have h108 : act.tmps.getD 108 undef = .int .i64 (tn : Int) := H 1 24 108 (by kernel_rfl) rfl
        have g108 := Array.getD_eq_getD_getElem?.symm.trans h108
        have h109 : act.tmps.getD 109 undef = .int .i64 (tn : Int) := H 1 25 109 (by kernel_rfl) rfl
        have g109 := Array.getD_eq_getD_getElem?.symm.trans h109
        have h107 : act.tmps.getD 107 undef = .bool true := H 1 23 107 (by kernel_rfl) rfl
        have g107 := Array.getD_eq_getD_getElem?.symm.trans h107
        have k107 := Inv.some_bool g107
        clear H O
        obtain ⟨na0, na1, na2, naf⟩ := hCT.2.1.three
        obtain ⟨nx0, nx1, nx2, nxf⟩ := hCT.2.2.1.three
        obtain ⟨ns0, ns1, ns2, nsf⟩ := hCT.2.2.2.1.three
        obtain ⟨nr0, nr1, nr2, nrf⟩ := hCT.2.2.2.2.1.three
        obtain ⟨nt0, nt1, nt2, ntf⟩ := hCT.2.2.2.2.2.1.three
        obtain ⟨nu0, nu1, nu2, nuf⟩ := hCT.2.2.2.2.2.2.1.three
        go_simp
        exact hK _ _ (Below.refl _ _) (fun _ => rfl)
      · intro act wa hC hd H O K hK
        clear hd
        obtain ⟨hCT, hRL⟩ := hC
        have h107 : act.tmps.getD 107 undef = .bool true := H 1 23 107 (by kernel_rfl) rfl
        have g107 := Array.getD_eq_getD_getElem?.symm.trans h107
        have h110 : act.tmps.getD 110 undef = .bool true := H 1 26 110 (by kernel_rfl) rfl
        have g110 := Array.getD_eq_getD_getElem?.symm.trans h110
        clear H O
        obtain ⟨na0, na1, na2, naf⟩ := hCT.2.1.three
        obtain ⟨nx0, nx1, nx2, nxf⟩ := hCT.2.2.1.three
        obtain ⟨ns0, ns1, ns2, nsf⟩ := hCT.2.2.2.1.three
        obtain ⟨nr0, nr1, nr2, nrf⟩ := hCT.2.2.2.2.1.three
        obtain ⟨nt0, nt1, nt2, ntf⟩ := hCT.2.2.2.2.2.1.three
        obtain ⟨nu0, nu1, nu2, nuf⟩ := hCT.2.2.2.2.2.2.1.three
        go_simp
        exact hK _ _ (Below.refl _ _) (fun _ => rfl)
      · intro act wa hC hd H O K hK
        clear hd
        obtain ⟨hCT, hRL⟩ := hC
        have h111 : act.tmps.getD 111 undef = .bool true := H 1 27 111 (by kernel_rfl) rfl
        have g111 := Array.getD_eq_getD_getElem?.symm.trans h111
        clear H O
        obtain ⟨na0, na1, na2, naf⟩ := hCT.2.1.three
        obtain ⟨nx0, nx1, nx2, nxf⟩ := hCT.2.2.1.three
        obtain ⟨ns0, ns1, ns2, nsf⟩ := hCT.2.2.2.1.three
        obtain ⟨nr0, nr1, nr2, nrf⟩ := hCT.2.2.2.2.1.three
        obtain ⟨nt0, nt1, nt2, ntf⟩ := hCT.2.2.2.2.2.1.three
        obtain ⟨nu0, nu1, nu2, nuf⟩ := hCT.2.2.2.2.2.2.1.three
        go_simp
        exact hK _ _ (Below.refl _ _) (fun _ => rfl)
      · intro act wa hC hd H O K hK
        clear hd
        obtain ⟨hCT, hRL⟩ := hC
        have h21 := O 21 (by kernel_rfl)
        have g21 := Array.getD_eq_getD_getElem?.symm.trans h21
        have h112 : act.tmps.getD 112 undef = .bool true := H 1 28 112 (by kernel_rfl) rfl
        have g112 := Array.getD_eq_getD_getElem?.symm.trans h112
        have k112 := Inv.some_bool g112
        clear H O
        obtain ⟨na0, na1, na2, naf⟩ := hCT.2.1.three
        obtain ⟨nx0, nx1, nx2, nxf⟩ := hCT.2.2.1.three
        obtain ⟨ns0, ns1, ns2, nsf⟩ := hCT.2.2.2.1.three
        obtain ⟨nr0, nr1, nr2, nrf⟩ := hCT.2.2.2.2.1.three
        obtain ⟨nt0, nt1, nt2, ntf⟩ := hCT.2.2.2.2.2.1.three
        obtain ⟨nu0, nu1, nu2, nuf⟩ := hCT.2.2.2.2.2.2.1.three
        go_simp
        exact hK _ _ (Below.refl _ _) (fun _ => rfl)
      · intro act wa hC hd H O K hK
        clear hd
        obtain ⟨hCT, hRL⟩ := hC
        have h24 := O 24 (by kernel_rfl)
        have g24 := Array.getD_eq_getD_getElem?.symm.trans h24
        have h112 : act.tmps.getD 112 undef = .bool true := H 1 28 112 (by kernel_rfl) rfl
        have g112 := Array.getD_eq_getD_getElem?.symm.trans h112
        have k112 := Inv.some_bool g112
        clear H O
        obtain ⟨na0, na1, na2, naf⟩ := hCT.2.1.three
        obtain ⟨nx0, nx1, nx2, nxf⟩ := hCT.2.2.1.three
        obtain ⟨ns0, ns1, ns2, nsf⟩ := hCT.2.2.2.1.three
        obtain ⟨nr0, nr1, nr2, nrf⟩ := hCT.2.2.2.2.1.three
        obtain ⟨nt0, nt1, nt2, ntf⟩ := hCT.2.2.2.2.2.1.three
        obtain ⟨nu0, nu1, nu2, nuf⟩ := hCT.2.2.2.2.2.2.1.three
        go_simp
        exact hK _ _ (Below.refl _ _) (fun _ => rfl)
      · intro act wa hC hd H O K hK
        clear hd
        obtain ⟨hCT, hRL⟩ := hC
        have h113 : act.tmps.getD 113 undef = .int .i64 (td : Int) := H 1 29 113 (by kernel_rfl) rfl
        have g113 := Array.getD_eq_getD_getElem?.symm.trans h113
        have h114 : act.tmps.getD 114 undef = .int .i64 (td : Int) := H 1 30 114 (by kernel_rfl) rfl
        have g114 := Array.getD_eq_getD_getElem?.symm.trans h114
        have h112 : act.tmps.getD 112 undef = .bool true := H 1 28 112 (by kernel_rfl) rfl
        have g112 := Array.getD_eq_getD_getElem?.symm.trans h112
        have k112 := Inv.some_bool g112
        clear H O
        obtain ⟨na0, na1, na2, naf⟩ := hCT.2.1.three
        obtain ⟨nx0, nx1, nx2, nxf⟩ := hCT.2.2.1.three
        obtain ⟨ns0, ns1, ns2, nsf⟩ := hCT.2.2.2.1.three
        obtain ⟨nr0, nr1, nr2, nrf⟩ := hCT.2.2.2.2.1.three
        obtain ⟨nt0, nt1, nt2, ntf⟩ := hCT.2.2.2.2.2.1.three
        obtain ⟨nu0, nu1, nu2, nuf⟩ := hCT.2.2.2.2.2.2.1.three
        go_simp
        exact hK _ _ (Below.refl _ _) (fun _ => rfl)
      · intro act wa hC hd H O K hK
        clear hd
        obtain ⟨hCT, hRL⟩ := hC
        have h112 : act.tmps.getD 112 undef = .bool true := H 1 28 112 (by kernel_rfl) rfl
        have g112 := Array.getD_eq_getD_getElem?.symm.trans h112
        have h115 : act.tmps.getD 115 undef = .bool true := H 1 31 115 (by kernel_rfl) rfl
        have g115 := Array.getD_eq_getD_getElem?.symm.trans h115
        clear H O
        obtain ⟨na0, na1, na2, naf⟩ := hCT.2.1.three
        obtain ⟨nx0, nx1, nx2, nxf⟩ := hCT.2.2.1.three
        obtain ⟨ns0, ns1, ns2, nsf⟩ := hCT.2.2.2.1.three
        obtain ⟨nr0, nr1, nr2, nrf⟩ := hCT.2.2.2.2.1.three
        obtain ⟨nt0, nt1, nt2, ntf⟩ := hCT.2.2.2.2.2.1.three
        obtain ⟨nu0, nu1, nu2, nuf⟩ := hCT.2.2.2.2.2.2.1.three
        go_simp
        exact hK _ _ (Below.refl _ _) (fun _ => rfl)
      · intro act wa hC hd H O K hK
        clear hd
        obtain ⟨hCT, hRL⟩ := hC
        have h116 : act.tmps.getD 116 undef = .bool true := H 1 32 116 (by kernel_rfl) rfl
        have g116 := Array.getD_eq_getD_getElem?.symm.trans h116
        clear H O
        obtain ⟨na0, na1, na2, naf⟩ := hCT.2.1.three
        obtain ⟨nx0, nx1, nx2, nxf⟩ := hCT.2.2.1.three
        obtain ⟨ns0, ns1, ns2, nsf⟩ := hCT.2.2.2.1.three
        obtain ⟨nr0, nr1, nr2, nrf⟩ := hCT.2.2.2.2.1.three
        obtain ⟨nt0, nt1, nt2, ntf⟩ := hCT.2.2.2.2.2.1.three
        obtain ⟨nu0, nu1, nu2, nuf⟩ := hCT.2.2.2.2.2.2.1.three
        go_simp
        exact hK _ _ (Below.refl _ _) (fun _ => rfl)
      · intro act wa hC hd H O K hK
        clear hd
        obtain ⟨hCT, hRL⟩ := hC
        have h5 := O 5 (by kernel_rfl)
        have g5 := Array.getD_eq_getD_getElem?.symm.trans h5
        have h117 : act.tmps.getD 117 undef = .bool true := H 1 33 117 (by kernel_rfl) rfl
        have g117 := Array.getD_eq_getD_getElem?.symm.trans h117
        have k117 := Inv.some_bool g117
        clear H O
        obtain ⟨na0, na1, na2, naf⟩ := hCT.2.1.three
        obtain ⟨nx0, nx1, nx2, nxf⟩ := hCT.2.2.1.three
        obtain ⟨ns0, ns1, ns2, nsf⟩ := hCT.2.2.2.1.three
        obtain ⟨nr0, nr1, nr2, nrf⟩ := hCT.2.2.2.2.1.three
        obtain ⟨nt0, nt1, nt2, ntf⟩ := hCT.2.2.2.2.2.1.three
        obtain ⟨nu0, nu1, nu2, nuf⟩ := hCT.2.2.2.2.2.2.1.three
        go_simp
        exact hK _ _ (Below.refl _ _) (fun _ => rfl)
      · intro act wa hC hd H O K hK
        clear hd
        obtain ⟨hCT, hRL⟩ := hC
        have h118 : act.tmps.getD 118 undef = .agg #[.int .i64 a, .int .i64 b, .int .i64 c] := H 1 34 118 (by kernel_rfl) rfl
        have g118 := Array.getD_eq_getD_getElem?.symm.trans h118
        have h117 : act.tmps.getD 117 undef = .bool true := H 1 33 117 (by kernel_rfl) rfl
        have g117 := Array.getD_eq_getD_getElem?.symm.trans h117
        have k117 := Inv.some_bool g117
        clear H O
        obtain ⟨na0, na1, na2, naf⟩ := hCT.2.1.three
        obtain ⟨nx0, nx1, nx2, nxf⟩ := hCT.2.2.1.three
        obtain ⟨ns0, ns1, ns2, nsf⟩ := hCT.2.2.2.1.three
        obtain ⟨nr0, nr1, nr2, nrf⟩ := hCT.2.2.2.2.1.three
        obtain ⟨nt0, nt1, nt2, ntf⟩ := hCT.2.2.2.2.2.1.three
        obtain ⟨nu0, nu1, nu2, nuf⟩ := hCT.2.2.2.2.2.2.1.three
        go_simp
        refine (Right_any _ a b c).mono ?_
        rintro e w1 ⟨rfl, hb⟩
        rw [← HBR.out]
        exact hK _ _ hb (fun _ => rfl)
      · intro act wa hC hd H O K hK
        clear hd
        obtain ⟨hCT, hRL⟩ := hC
        have h5 := O 5 (by kernel_rfl)
        have g5 := Array.getD_eq_getD_getElem?.symm.trans h5
        have h117 : act.tmps.getD 117 undef = .bool true := H 1 33 117 (by kernel_rfl) rfl
        have g117 := Array.getD_eq_getD_getElem?.symm.trans h117
        have k117 := Inv.some_bool g117
        clear H O
        obtain ⟨na0, na1, na2, naf⟩ := hCT.2.1.three
        obtain ⟨nx0, nx1, nx2, nxf⟩ := hCT.2.2.1.three
        obtain ⟨ns0, ns1, ns2, nsf⟩ := hCT.2.2.2.1.three
        obtain ⟨nr0, nr1, nr2, nrf⟩ := hCT.2.2.2.2.1.three
        obtain ⟨nt0, nt1, nt2, ntf⟩ := hCT.2.2.2.2.2.1.three
        obtain ⟨nu0, nu1, nu2, nuf⟩ := hCT.2.2.2.2.2.2.1.three
        go_simp
        exact hK _ _ (Below.refl _ _) (fun _ => rfl)
      · intro act wa hC hd H O K hK
        clear hd
        obtain ⟨hCT, hRL⟩ := hC
        have h120 : act.tmps.getD 120 undef = .agg #[.int .i64 a, .int .i64 b, .int .i64 c] := H 1 36 120 (by kernel_rfl) rfl
        have g120 := Array.getD_eq_getD_getElem?.symm.trans h120
        have h117 : act.tmps.getD 117 undef = .bool true := H 1 33 117 (by kernel_rfl) rfl
        have g117 := Array.getD_eq_getD_getElem?.symm.trans h117
        have k117 := Inv.some_bool g117
        clear H O
        obtain ⟨na0, na1, na2, naf⟩ := hCT.2.1.three
        obtain ⟨nx0, nx1, nx2, nxf⟩ := hCT.2.2.1.three
        obtain ⟨ns0, ns1, ns2, nsf⟩ := hCT.2.2.2.1.three
        obtain ⟨nr0, nr1, nr2, nrf⟩ := hCT.2.2.2.2.1.three
        obtain ⟨nt0, nt1, nt2, ntf⟩ := hCT.2.2.2.2.2.1.three
        obtain ⟨nu0, nu1, nu2, nuf⟩ := hCT.2.2.2.2.2.2.1.three
        go_simp
        refine (RRight_any _ a b c).mono ?_
        rintro e w1 ⟨rfl, hb⟩
        rw [← HBR.out]
        exact hK _ _ hb (fun _ => rfl)
      · intro act wa hC hd H O K hK
        clear hd
        obtain ⟨hCT, hRL⟩ := hC
        have h119 : act.tmps.getD 119 undef = .bool br := H 1 35 119 (by kernel_rfl) rfl
        have g119 := Array.getD_eq_getD_getElem?.symm.trans h119
        have h121 : act.tmps.getD 121 undef = .bool br := H 1 37 121 (by kernel_rfl) rfl
        have g121 := Array.getD_eq_getD_getElem?.symm.trans h121
        have h117 : act.tmps.getD 117 undef = .bool true := H 1 33 117 (by kernel_rfl) rfl
        have g117 := Array.getD_eq_getD_getElem?.symm.trans h117
        have k117 := Inv.some_bool g117
        clear H O
        obtain ⟨na0, na1, na2, naf⟩ := hCT.2.1.three
        obtain ⟨nx0, nx1, nx2, nxf⟩ := hCT.2.2.1.three
        obtain ⟨ns0, ns1, ns2, nsf⟩ := hCT.2.2.2.1.three
        obtain ⟨nr0, nr1, nr2, nrf⟩ := hCT.2.2.2.2.1.three
        obtain ⟨nt0, nt1, nt2, ntf⟩ := hCT.2.2.2.2.2.1.three
        obtain ⟨nu0, nu1, nu2, nuf⟩ := hCT.2.2.2.2.2.2.1.three
        cases br
        all_goals go_simp
        all_goals exact hK _ _ (Below.refl _ _) (fun _ => rfl)
        all_goals done
      · intro act wa hC hd H O K hK
        clear hd
        obtain ⟨hCT, hRL⟩ := hC
        have h117 : act.tmps.getD 117 undef = .bool true := H 1 33 117 (by kernel_rfl) rfl
        have g117 := Array.getD_eq_getD_getElem?.symm.trans h117
        have h122 : act.tmps.getD 122 undef = .bool true := H 1 38 122 (by kernel_rfl) rfl
        have g122 := Array.getD_eq_getD_getElem?.symm.trans h122
        clear H O
        obtain ⟨na0, na1, na2, naf⟩ := hCT.2.1.three
        obtain ⟨nx0, nx1, nx2, nxf⟩ := hCT.2.2.1.three
        obtain ⟨ns0, ns1, ns2, nsf⟩ := hCT.2.2.2.1.three
        obtain ⟨nr0, nr1, nr2, nrf⟩ := hCT.2.2.2.2.1.three
        obtain ⟨nt0, nt1, nt2, ntf⟩ := hCT.2.2.2.2.2.1.three
        obtain ⟨nu0, nu1, nu2, nuf⟩ := hCT.2.2.2.2.2.2.1.three
        go_simp
        exact hK _ _ (Below.refl _ _) (fun _ => rfl)
      · intro act wa hC hd H O K hK
        clear hd
        obtain ⟨hCT, hRL⟩ := hC
        have h123 : act.tmps.getD 123 undef = .bool true := H 1 39 123 (by kernel_rfl) rfl
        have g123 := Array.getD_eq_getD_getElem?.symm.trans h123
        clear H O
        obtain ⟨na0, na1, na2, naf⟩ := hCT.2.1.three
        obtain ⟨nx0, nx1, nx2, nxf⟩ := hCT.2.2.1.three
        obtain ⟨ns0, ns1, ns2, nsf⟩ := hCT.2.2.2.1.three
        obtain ⟨nr0, nr1, nr2, nrf⟩ := hCT.2.2.2.2.1.three
        obtain ⟨nt0, nt1, nt2, ntf⟩ := hCT.2.2.2.2.2.1.three
        obtain ⟨nu0, nu1, nu2, nuf⟩ := hCT.2.2.2.2.2.2.1.three
        go_simp
        exact hK _ _ (Below.refl _ _) (fun _ => rfl)
      · intro act wa hC hd H O K hK
        clear hd
        obtain ⟨hCT, hRL⟩ := hC
        have h5 := O 5 (by kernel_rfl)
        have g5 := Array.getD_eq_getD_getElem?.symm.trans h5
        have h124 : act.tmps.getD 124 undef = .bool true := H 1 40 124 (by kernel_rfl) rfl
        have g124 := Array.getD_eq_getD_getElem?.symm.trans h124
        have k124 := Inv.some_bool g124
        clear H O
        obtain ⟨na0, na1, na2, naf⟩ := hCT.2.1.three
        obtain ⟨nx0, nx1, nx2, nxf⟩ := hCT.2.2.1.three
        obtain ⟨ns0, ns1, ns2, nsf⟩ := hCT.2.2.2.1.three
        obtain ⟨nr0, nr1, nr2, nrf⟩ := hCT.2.2.2.2.1.three
        obtain ⟨nt0, nt1, nt2, ntf⟩ := hCT.2.2.2.2.2.1.three
        obtain ⟨nu0, nu1, nu2, nuf⟩ := hCT.2.2.2.2.2.2.1.three
        go_simp
        exact hK _ _ (Below.refl _ _) (fun _ => rfl)
      · intro act wa hC hd H O K hK
        clear hd
        obtain ⟨hCT, hRL⟩ := hC
        have h6 := O 6 (by kernel_rfl)
        have g6 := Array.getD_eq_getD_getElem?.symm.trans h6
        have h124 : act.tmps.getD 124 undef = .bool true := H 1 40 124 (by kernel_rfl) rfl
        have g124 := Array.getD_eq_getD_getElem?.symm.trans h124
        have k124 := Inv.some_bool g124
        clear H O
        obtain ⟨na0, na1, na2, naf⟩ := hCT.2.1.three
        obtain ⟨nx0, nx1, nx2, nxf⟩ := hCT.2.2.1.three
        obtain ⟨ns0, ns1, ns2, nsf⟩ := hCT.2.2.2.1.three
        obtain ⟨nr0, nr1, nr2, nrf⟩ := hCT.2.2.2.2.1.three
        obtain ⟨nt0, nt1, nt2, ntf⟩ := hCT.2.2.2.2.2.1.three
        obtain ⟨nu0, nu1, nu2, nuf⟩ := hCT.2.2.2.2.2.2.1.three
        go_simp
        exact hK _ _ (Below.refl _ _) (fun _ => rfl)
      · intro act wa hC hd H O K hK
        clear hd
        obtain ⟨hCT, hRL⟩ := hC
        have h125 : act.tmps.getD 125 undef = .agg #[.int .i64 a, .int .i64 b, .int .i64 c] := H 1 41 125 (by kernel_rfl) rfl
        have g125 := Array.getD_eq_getD_getElem?.symm.trans h125
        have h126 : act.tmps.getD 126 undef = .agg #[.int .i64 x, .int .i64 y, .int .i64 z] := H 1 42 126 (by kernel_rfl) rfl
        have g126 := Array.getD_eq_getD_getElem?.symm.trans h126
        have h124 : act.tmps.getD 124 undef = .bool true := H 1 40 124 (by kernel_rfl) rfl
        have g124 := Array.getD_eq_getD_getElem?.symm.trans h124
        have k124 := Inv.some_bool g124
        clear H O
        obtain ⟨na0, na1, na2, naf⟩ := hCT.2.1.three
        obtain ⟨nx0, nx1, nx2, nxf⟩ := hCT.2.2.1.three
        obtain ⟨ns0, ns1, ns2, nsf⟩ := hCT.2.2.2.1.three
        obtain ⟨nr0, nr1, nr2, nrf⟩ := hCT.2.2.2.2.1.three
        obtain ⟨nt0, nt1, nt2, ntf⟩ := hCT.2.2.2.2.2.1.three
        obtain ⟨nu0, nu1, nu2, nuf⟩ := hCT.2.2.2.2.2.2.1.three
        go_simp
        refine (Covers_any _ a b c x y z).mono ?_
        rintro e w1 ⟨rfl, hb⟩
        rw [HCABX.out]
        exact hK _ _ hb (fun _ => rfl)
      · intro act wa hC hd H O K hK
        clear hd
        obtain ⟨hCT, hRL⟩ := hC
        have h5 := O 5 (by kernel_rfl)
        have g5 := Array.getD_eq_getD_getElem?.symm.trans h5
        have h124 : act.tmps.getD 124 undef = .bool true := H 1 40 124 (by kernel_rfl) rfl
        have g124 := Array.getD_eq_getD_getElem?.symm.trans h124
        have k124 := Inv.some_bool g124
        clear H O
        obtain ⟨na0, na1, na2, naf⟩ := hCT.2.1.three
        obtain ⟨nx0, nx1, nx2, nxf⟩ := hCT.2.2.1.three
        obtain ⟨ns0, ns1, ns2, nsf⟩ := hCT.2.2.2.1.three
        obtain ⟨nr0, nr1, nr2, nrf⟩ := hCT.2.2.2.2.1.three
        obtain ⟨nt0, nt1, nt2, ntf⟩ := hCT.2.2.2.2.2.1.three
        obtain ⟨nu0, nu1, nu2, nuf⟩ := hCT.2.2.2.2.2.2.1.three
        go_simp
        exact hK _ _ (Below.refl _ _) (fun _ => rfl)
      · intro act wa hC hd H O K hK
        clear hd
        obtain ⟨hCT, hRL⟩ := hC
        have h6 := O 6 (by kernel_rfl)
        have g6 := Array.getD_eq_getD_getElem?.symm.trans h6
        have h124 : act.tmps.getD 124 undef = .bool true := H 1 40 124 (by kernel_rfl) rfl
        have g124 := Array.getD_eq_getD_getElem?.symm.trans h124
        have k124 := Inv.some_bool g124
        clear H O
        obtain ⟨na0, na1, na2, naf⟩ := hCT.2.1.three
        obtain ⟨nx0, nx1, nx2, nxf⟩ := hCT.2.2.1.three
        obtain ⟨ns0, ns1, ns2, nsf⟩ := hCT.2.2.2.1.three
        obtain ⟨nr0, nr1, nr2, nrf⟩ := hCT.2.2.2.2.1.three
        obtain ⟨nt0, nt1, nt2, ntf⟩ := hCT.2.2.2.2.2.1.three
        obtain ⟨nu0, nu1, nu2, nuf⟩ := hCT.2.2.2.2.2.2.1.three
        go_simp
        exact hK _ _ (Below.refl _ _) (fun _ => rfl)
      · intro act wa hC hd H O K hK
        clear hd
        obtain ⟨hCT, hRL⟩ := hC
        have h128 : act.tmps.getD 128 undef = .agg #[.int .i64 a, .int .i64 b, .int .i64 c] := H 1 44 128 (by kernel_rfl) rfl
        have g128 := Array.getD_eq_getD_getElem?.symm.trans h128
        have h129 : act.tmps.getD 129 undef = .agg #[.int .i64 x, .int .i64 y, .int .i64 z] := H 1 45 129 (by kernel_rfl) rfl
        have g129 := Array.getD_eq_getD_getElem?.symm.trans h129
        have h124 : act.tmps.getD 124 undef = .bool true := H 1 40 124 (by kernel_rfl) rfl
        have g124 := Array.getD_eq_getD_getElem?.symm.trans h124
        have k124 := Inv.some_bool g124
        clear H O
        obtain ⟨na0, na1, na2, naf⟩ := hCT.2.1.three
        obtain ⟨nx0, nx1, nx2, nxf⟩ := hCT.2.2.1.three
        obtain ⟨ns0, ns1, ns2, nsf⟩ := hCT.2.2.2.1.three
        obtain ⟨nr0, nr1, nr2, nrf⟩ := hCT.2.2.2.2.1.three
        obtain ⟨nt0, nt1, nt2, ntf⟩ := hCT.2.2.2.2.2.1.three
        obtain ⟨nu0, nu1, nu2, nuf⟩ := hCT.2.2.2.2.2.2.1.three
        go_simp
        refine (RCovers_any _ a b c x y z).mono ?_
        rintro e w1 ⟨rfl, hb⟩
        rw [HCABX.out]
        exact hK _ _ hb (fun _ => rfl)
      · intro act wa hC hd H O K hK
        clear hd
        obtain ⟨hCT, hRL⟩ := hC
        have h127 : act.tmps.getD 127 undef = .bool false := H 1 43 127 (by kernel_rfl) rfl
        have g127 := Array.getD_eq_getD_getElem?.symm.trans h127
        have h130 : act.tmps.getD 130 undef = .bool false := H 1 46 130 (by kernel_rfl) rfl
        have g130 := Array.getD_eq_getD_getElem?.symm.trans h130
        have h124 : act.tmps.getD 124 undef = .bool true := H 1 40 124 (by kernel_rfl) rfl
        have g124 := Array.getD_eq_getD_getElem?.symm.trans h124
        have k124 := Inv.some_bool g124
        clear H O
        obtain ⟨na0, na1, na2, naf⟩ := hCT.2.1.three
        obtain ⟨nx0, nx1, nx2, nxf⟩ := hCT.2.2.1.three
        obtain ⟨ns0, ns1, ns2, nsf⟩ := hCT.2.2.2.1.three
        obtain ⟨nr0, nr1, nr2, nrf⟩ := hCT.2.2.2.2.1.three
        obtain ⟨nt0, nt1, nt2, ntf⟩ := hCT.2.2.2.2.2.1.three
        obtain ⟨nu0, nu1, nu2, nuf⟩ := hCT.2.2.2.2.2.2.1.three
        go_simp
        exact hK _ _ (Below.refl _ _) (fun _ => rfl)
      · intro act wa hC hd H O K hK
        clear hd
        obtain ⟨hCT, hRL⟩ := hC
        have h124 : act.tmps.getD 124 undef = .bool true := H 1 40 124 (by kernel_rfl) rfl
        have g124 := Array.getD_eq_getD_getElem?.symm.trans h124
        have h131 : act.tmps.getD 131 undef = .bool true := H 1 47 131 (by kernel_rfl) rfl
        have g131 := Array.getD_eq_getD_getElem?.symm.trans h131
        clear H O
        obtain ⟨na0, na1, na2, naf⟩ := hCT.2.1.three
        obtain ⟨nx0, nx1, nx2, nxf⟩ := hCT.2.2.1.three
        obtain ⟨ns0, ns1, ns2, nsf⟩ := hCT.2.2.2.1.three
        obtain ⟨nr0, nr1, nr2, nrf⟩ := hCT.2.2.2.2.1.three
        obtain ⟨nt0, nt1, nt2, ntf⟩ := hCT.2.2.2.2.2.1.three
        obtain ⟨nu0, nu1, nu2, nuf⟩ := hCT.2.2.2.2.2.2.1.three
        go_simp
        exact hK _ _ (Below.refl _ _) (fun _ => rfl)
      · intro act wa hC hd H O K hK
        clear hd
        obtain ⟨hCT, hRL⟩ := hC
        have h132 : act.tmps.getD 132 undef = .bool true := H 1 48 132 (by kernel_rfl) rfl
        have g132 := Array.getD_eq_getD_getElem?.symm.trans h132
        clear H O
        obtain ⟨na0, na1, na2, naf⟩ := hCT.2.1.three
        obtain ⟨nx0, nx1, nx2, nxf⟩ := hCT.2.2.1.three
        obtain ⟨ns0, ns1, ns2, nsf⟩ := hCT.2.2.2.1.three
        obtain ⟨nr0, nr1, nr2, nrf⟩ := hCT.2.2.2.2.1.three
        obtain ⟨nt0, nt1, nt2, ntf⟩ := hCT.2.2.2.2.2.1.three
        obtain ⟨nu0, nu1, nu2, nuf⟩ := hCT.2.2.2.2.2.2.1.three
        go_simp
        exact hK _ _ (Below.refl _ _) (fun _ => rfl)
      · intro act wa hC hd H O K hK
        clear hd
        obtain ⟨hCT, hRL⟩ := hC
        have h5 := O 5 (by kernel_rfl)
        have g5 := Array.getD_eq_getD_getElem?.symm.trans h5
        have h133 : act.tmps.getD 133 undef = .bool true := H 1 49 133 (by kernel_rfl) rfl
        have g133 := Array.getD_eq_getD_getElem?.symm.trans h133
        have k133 := Inv.some_bool g133
        clear H O
        obtain ⟨na0, na1, na2, naf⟩ := hCT.2.1.three
        obtain ⟨nx0, nx1, nx2, nxf⟩ := hCT.2.2.1.three
        obtain ⟨ns0, ns1, ns2, nsf⟩ := hCT.2.2.2.1.three
        obtain ⟨nr0, nr1, nr2, nrf⟩ := hCT.2.2.2.2.1.three
        obtain ⟨nt0, nt1, nt2, ntf⟩ := hCT.2.2.2.2.2.1.three
        obtain ⟨nu0, nu1, nu2, nuf⟩ := hCT.2.2.2.2.2.2.1.three
        go_simp
        exact hK _ _ (Below.refl _ _) (fun _ => rfl)
      · intro act wa hC hd H O K hK
        clear hd
        obtain ⟨hCT, hRL⟩ := hC
        have h6 := O 6 (by kernel_rfl)
        have g6 := Array.getD_eq_getD_getElem?.symm.trans h6
        have h133 : act.tmps.getD 133 undef = .bool true := H 1 49 133 (by kernel_rfl) rfl
        have g133 := Array.getD_eq_getD_getElem?.symm.trans h133
        have k133 := Inv.some_bool g133
        clear H O
        obtain ⟨na0, na1, na2, naf⟩ := hCT.2.1.three
        obtain ⟨nx0, nx1, nx2, nxf⟩ := hCT.2.2.1.three
        obtain ⟨ns0, ns1, ns2, nsf⟩ := hCT.2.2.2.1.three
        obtain ⟨nr0, nr1, nr2, nrf⟩ := hCT.2.2.2.2.1.three
        obtain ⟨nt0, nt1, nt2, ntf⟩ := hCT.2.2.2.2.2.1.three
        obtain ⟨nu0, nu1, nu2, nuf⟩ := hCT.2.2.2.2.2.2.1.three
        go_simp
        exact hK _ _ (Below.refl _ _) (fun _ => rfl)
      · intro act wa hC hd H O K hK
        clear hd
        obtain ⟨hCT, hRL⟩ := hC
        have h134 : act.tmps.getD 134 undef = .agg #[.int .i64 a, .int .i64 b, .int .i64 c] := H 1 50 134 (by kernel_rfl) rfl
        have g134 := Array.getD_eq_getD_getElem?.symm.trans h134
        have h135 : act.tmps.getD 135 undef = .agg #[.int .i64 x, .int .i64 y, .int .i64 z] := H 1 51 135 (by kernel_rfl) rfl
        have g135 := Array.getD_eq_getD_getElem?.symm.trans h135
        have h133 : act.tmps.getD 133 undef = .bool true := H 1 49 133 (by kernel_rfl) rfl
        have g133 := Array.getD_eq_getD_getElem?.symm.trans h133
        have k133 := Inv.some_bool g133
        clear H O
        obtain ⟨na0, na1, na2, naf⟩ := hCT.2.1.three
        obtain ⟨nx0, nx1, nx2, nxf⟩ := hCT.2.2.1.three
        obtain ⟨ns0, ns1, ns2, nsf⟩ := hCT.2.2.2.1.three
        obtain ⟨nr0, nr1, nr2, nrf⟩ := hCT.2.2.2.2.1.three
        obtain ⟨nt0, nt1, nt2, ntf⟩ := hCT.2.2.2.2.2.1.three
        obtain ⟨nu0, nu1, nu2, nuf⟩ := hCT.2.2.2.2.2.2.1.three
        go_simp
        refine (Beside_any _ a b c x y z).mono ?_
        rintro e w1 ⟨rfl, hb⟩
        rw [besB_f HCABX.out, ← HCB.out]
        exact hK _ _ hb (fun _ => rfl)
      · intro act wa hC hd H O K hK
        clear hd
        obtain ⟨hCT, hRL⟩ := hC
        have h25 := O 25 (by kernel_rfl)
        have g25 := Array.getD_eq_getD_getElem?.symm.trans h25
        have h133 : act.tmps.getD 133 undef = .bool true := H 1 49 133 (by kernel_rfl) rfl
        have g133 := Array.getD_eq_getD_getElem?.symm.trans h133
        have k133 := Inv.some_bool g133
        clear H O
        obtain ⟨na0, na1, na2, naf⟩ := hCT.2.1.three
        obtain ⟨nx0, nx1, nx2, nxf⟩ := hCT.2.2.1.three
        obtain ⟨ns0, ns1, ns2, nsf⟩ := hCT.2.2.2.1.three
        obtain ⟨nr0, nr1, nr2, nrf⟩ := hCT.2.2.2.2.1.three
        obtain ⟨nt0, nt1, nt2, ntf⟩ := hCT.2.2.2.2.2.1.three
        obtain ⟨nu0, nu1, nu2, nuf⟩ := hCT.2.2.2.2.2.2.1.three
        go_simp
        exact hK _ _ (Below.refl _ _) (fun _ => rfl)
      · intro act wa hC hd H O K hK
        clear hd
        obtain ⟨hCT, hRL⟩ := hC
        have h136 : act.tmps.getD 136 undef = .bool (!cba) := H 1 52 136 (by kernel_rfl) rfl
        have g136 := Array.getD_eq_getD_getElem?.symm.trans h136
        have h137 : act.tmps.getD 137 undef = .bool (!cba) := H 1 53 137 (by kernel_rfl) rfl
        have g137 := Array.getD_eq_getD_getElem?.symm.trans h137
        have h133 : act.tmps.getD 133 undef = .bool true := H 1 49 133 (by kernel_rfl) rfl
        have g133 := Array.getD_eq_getD_getElem?.symm.trans h133
        have k133 := Inv.some_bool g133
        clear H O
        obtain ⟨na0, na1, na2, naf⟩ := hCT.2.1.three
        obtain ⟨nx0, nx1, nx2, nxf⟩ := hCT.2.2.1.three
        obtain ⟨ns0, ns1, ns2, nsf⟩ := hCT.2.2.2.1.three
        obtain ⟨nr0, nr1, nr2, nrf⟩ := hCT.2.2.2.2.1.three
        obtain ⟨nt0, nt1, nt2, ntf⟩ := hCT.2.2.2.2.2.1.three
        obtain ⟨nu0, nu1, nu2, nuf⟩ := hCT.2.2.2.2.2.2.1.three
        cases cba
        all_goals go_simp
        all_goals exact hK _ _ (Below.refl _ _) (fun _ => rfl)
        all_goals done
      · intro act wa hC hd H O K hK
        clear hd
        obtain ⟨hCT, hRL⟩ := hC
        have h133 : act.tmps.getD 133 undef = .bool true := H 1 49 133 (by kernel_rfl) rfl
        have g133 := Array.getD_eq_getD_getElem?.symm.trans h133
        have h138 : act.tmps.getD 138 undef = .bool true := H 1 54 138 (by kernel_rfl) rfl
        have g138 := Array.getD_eq_getD_getElem?.symm.trans h138
        clear H O
        obtain ⟨na0, na1, na2, naf⟩ := hCT.2.1.three
        obtain ⟨nx0, nx1, nx2, nxf⟩ := hCT.2.2.1.three
        obtain ⟨ns0, ns1, ns2, nsf⟩ := hCT.2.2.2.1.three
        obtain ⟨nr0, nr1, nr2, nrf⟩ := hCT.2.2.2.2.1.three
        obtain ⟨nt0, nt1, nt2, ntf⟩ := hCT.2.2.2.2.2.1.three
        obtain ⟨nu0, nu1, nu2, nuf⟩ := hCT.2.2.2.2.2.2.1.three
        go_simp
        exact hK _ _ (Below.refl _ _) (fun _ => rfl)
      · intro act wa hC hd H O K hK
        clear hd
        obtain ⟨hCT, hRL⟩ := hC
        have h139 : act.tmps.getD 139 undef = .bool true := H 1 55 139 (by kernel_rfl) rfl
        have g139 := Array.getD_eq_getD_getElem?.symm.trans h139
        clear H O
        obtain ⟨na0, na1, na2, naf⟩ := hCT.2.1.three
        obtain ⟨nx0, nx1, nx2, nxf⟩ := hCT.2.2.1.three
        obtain ⟨ns0, ns1, ns2, nsf⟩ := hCT.2.2.2.1.three
        obtain ⟨nr0, nr1, nr2, nrf⟩ := hCT.2.2.2.2.1.three
        obtain ⟨nt0, nt1, nt2, ntf⟩ := hCT.2.2.2.2.2.1.three
        obtain ⟨nu0, nu1, nu2, nuf⟩ := hCT.2.2.2.2.2.2.1.three
        go_simp
        exact hK _ _ (Below.refl _ _) (fun _ => rfl)
      · intro act wa hC hd H O K hK
        clear hd
        obtain ⟨hCT, hRL⟩ := hC
        have h2 := O 2 (by kernel_rfl)
        have g2 := Array.getD_eq_getD_getElem?.symm.trans h2
        have h140 : act.tmps.getD 140 undef = .bool true := H 1 56 140 (by kernel_rfl) rfl
        have g140 := Array.getD_eq_getD_getElem?.symm.trans h140
        have k140 := Inv.some_bool g140
        clear H O
        obtain ⟨na0, na1, na2, naf⟩ := hCT.2.1.three
        obtain ⟨nx0, nx1, nx2, nxf⟩ := hCT.2.2.1.three
        obtain ⟨ns0, ns1, ns2, nsf⟩ := hCT.2.2.2.1.three
        obtain ⟨nr0, nr1, nr2, nrf⟩ := hCT.2.2.2.2.1.three
        obtain ⟨nt0, nt1, nt2, ntf⟩ := hCT.2.2.2.2.2.1.three
        obtain ⟨nu0, nu1, nu2, nuf⟩ := hCT.2.2.2.2.2.2.1.three
        go_simp
        exact hK _ _ (Below.refl _ _) (fun _ => rfl)
      · intro act wa hC hd H O K hK
        clear hd
        obtain ⟨hCT, hRL⟩ := hC
        have h141 : act.tmps.getD 141 undef = .slice Al cs.length cl := H 1 57 141 (by kernel_rfl) rfl
        have g141 := Array.getD_eq_getD_getElem?.symm.trans h141
        have h140 : act.tmps.getD 140 undef = .bool true := H 1 56 140 (by kernel_rfl) rfl
        have g140 := Array.getD_eq_getD_getElem?.symm.trans h140
        have k140 := Inv.some_bool g140
        clear H O
        obtain ⟨na0, na1, na2, naf⟩ := hCT.2.1.three
        obtain ⟨nx0, nx1, nx2, nxf⟩ := hCT.2.2.1.three
        obtain ⟨ns0, ns1, ns2, nsf⟩ := hCT.2.2.2.1.three
        obtain ⟨nr0, nr1, nr2, nrf⟩ := hCT.2.2.2.2.1.three
        obtain ⟨nt0, nt1, nt2, ntf⟩ := hCT.2.2.2.2.2.1.three
        obtain ⟨nu0, nu1, nu2, nuf⟩ := hCT.2.2.2.2.2.2.1.three
        go_simp
        refine (Merge_any wa Al cl w.heap.size cs hRL hCT.1.size hlc hcm).mono ?_
        intro e w1 hm
        obtain ⟨rfl, hb⟩ := hm
        rw [HMG.out]
        exact hK _ _ hb (fun _ => rfl)
      · intro act wa hC hd H O K hK
        clear hd
        obtain ⟨hCT, hRL⟩ := hC
        have h2 := O 2 (by kernel_rfl)
        have g2 := Array.getD_eq_getD_getElem?.symm.trans h2
        have h140 : act.tmps.getD 140 undef = .bool true := H 1 56 140 (by kernel_rfl) rfl
        have g140 := Array.getD_eq_getD_getElem?.symm.trans h140
        have k140 := Inv.some_bool g140
        clear H O
        obtain ⟨na0, na1, na2, naf⟩ := hCT.2.1.three
        obtain ⟨nx0, nx1, nx2, nxf⟩ := hCT.2.2.1.three
        obtain ⟨ns0, ns1, ns2, nsf⟩ := hCT.2.2.2.1.three
        obtain ⟨nr0, nr1, nr2, nrf⟩ := hCT.2.2.2.2.1.three
        obtain ⟨nt0, nt1, nt2, ntf⟩ := hCT.2.2.2.2.2.1.three
        obtain ⟨nu0, nu1, nu2, nuf⟩ := hCT.2.2.2.2.2.2.1.three
        go_simp
        exact hK _ _ (Below.refl _ _) (fun _ => rfl)
      · intro act wa hC hd H O K hK
        clear hd
        obtain ⟨hCT, hRL⟩ := hC
        have h143 : act.tmps.getD 143 undef = .slice Al cs.length cl := H 1 59 143 (by kernel_rfl) rfl
        have g143 := Array.getD_eq_getD_getElem?.symm.trans h143
        have h140 : act.tmps.getD 140 undef = .bool true := H 1 56 140 (by kernel_rfl) rfl
        have g140 := Array.getD_eq_getD_getElem?.symm.trans h140
        have k140 := Inv.some_bool g140
        clear H O
        obtain ⟨na0, na1, na2, naf⟩ := hCT.2.1.three
        obtain ⟨nx0, nx1, nx2, nxf⟩ := hCT.2.2.1.three
        obtain ⟨ns0, ns1, ns2, nsf⟩ := hCT.2.2.2.1.three
        obtain ⟨nr0, nr1, nr2, nrf⟩ := hCT.2.2.2.2.1.three
        obtain ⟨nt0, nt1, nt2, ntf⟩ := hCT.2.2.2.2.2.1.three
        obtain ⟨nu0, nu1, nu2, nuf⟩ := hCT.2.2.2.2.2.2.1.three
        go_simp
        refine (RMerge_any wa Al cl w.heap.size cs hRL hCT.1.size hlc hcm).mono ?_
        intro e w1 hm
        obtain ⟨rfl, hb⟩ := hm
        rw [HMG.out]
        exact hK _ _ hb (fun _ => rfl)
      · intro act wa hC hd H O K hK
        clear hd
        obtain ⟨hCT, hRL⟩ := hC
        have h142 : act.tmps.getD 142 undef = .agg #[.int .i64 m1, .int .i64 m2, .int .i64 m3] := H 1 58 142 (by kernel_rfl) rfl
        have g142 := Array.getD_eq_getD_getElem?.symm.trans h142
        have h144 : act.tmps.getD 144 undef = .agg #[.int .i64 m1, .int .i64 m2, .int .i64 m3] := H 1 60 144 (by kernel_rfl) rfl
        have g144 := Array.getD_eq_getD_getElem?.symm.trans h144
        have h140 : act.tmps.getD 140 undef = .bool true := H 1 56 140 (by kernel_rfl) rfl
        have g140 := Array.getD_eq_getD_getElem?.symm.trans h140
        have k140 := Inv.some_bool g140
        clear H O
        obtain ⟨na0, na1, na2, naf⟩ := hCT.2.1.three
        obtain ⟨nx0, nx1, nx2, nxf⟩ := hCT.2.2.1.three
        obtain ⟨ns0, ns1, ns2, nsf⟩ := hCT.2.2.2.1.three
        obtain ⟨nr0, nr1, nr2, nrf⟩ := hCT.2.2.2.2.1.three
        obtain ⟨nt0, nt1, nt2, ntf⟩ := hCT.2.2.2.2.2.1.three
        obtain ⟨nu0, nu1, nu2, nuf⟩ := hCT.2.2.2.2.2.2.1.three
        have qq := eqc_in m1 m2 m3 m1 m2 m3 wa
        rw [eqcB_of rfl rfl rfl] at qq
        go_simp
        exact hK _ _ (Below.refl _ _) (fun _ => rfl)
      · intro act wa hC hd H O K hK
        clear hd
        obtain ⟨hCT, hRL⟩ := hC
        have h140 : act.tmps.getD 140 undef = .bool true := H 1 56 140 (by kernel_rfl) rfl
        have g140 := Array.getD_eq_getD_getElem?.symm.trans h140
        have h145 : act.tmps.getD 145 undef = .bool true := H 1 61 145 (by kernel_rfl) rfl
        have g145 := Array.getD_eq_getD_getElem?.symm.trans h145
        clear H O
        obtain ⟨na0, na1, na2, naf⟩ := hCT.2.1.three
        obtain ⟨nx0, nx1, nx2, nxf⟩ := hCT.2.2.1.three
        obtain ⟨ns0, ns1, ns2, nsf⟩ := hCT.2.2.2.1.three
        obtain ⟨nr0, nr1, nr2, nrf⟩ := hCT.2.2.2.2.1.three
        obtain ⟨nt0, nt1, nt2, ntf⟩ := hCT.2.2.2.2.2.1.three
        obtain ⟨nu0, nu1, nu2, nuf⟩ := hCT.2.2.2.2.2.2.1.three
        go_simp
        exact hK _ _ (Below.refl _ _) (fun _ => rfl)
      · intro act wa hC hd H O K hK
        clear hd
        obtain ⟨hCT, hRL⟩ := hC
        have h146 : act.tmps.getD 146 undef = .bool true := H 1 62 146 (by kernel_rfl) rfl
        have g146 := Array.getD_eq_getD_getElem?.symm.trans h146
        clear H O
        obtain ⟨na0, na1, na2, naf⟩ := hCT.2.1.three
        obtain ⟨nx0, nx1, nx2, nxf⟩ := hCT.2.2.1.three
        obtain ⟨ns0, ns1, ns2, nsf⟩ := hCT.2.2.2.1.three
        obtain ⟨nr0, nr1, nr2, nrf⟩ := hCT.2.2.2.2.1.three
        obtain ⟨nt0, nt1, nt2, ntf⟩ := hCT.2.2.2.2.2.1.three
        obtain ⟨nu0, nu1, nu2, nuf⟩ := hCT.2.2.2.2.2.2.1.three
        go_simp
        exact hK _ _ (Below.refl _ _) (fun _ => rfl)
    · intro us w' hC hF
      obtain ⟨hCT, hRL⟩ := hC
      have u10 : us 10 = .bool true := hF 63 10 rfl
      clear hF
      simp only [List.foldl]
      go_simp
      go_wp2
      go_ret
      exact ⟨by first | rfl | rw [u10], hCT.1⟩
  · skip
    go_wp2_with fail
    refine (RCovers_any _ a b c x y z).mono ?_
    rintro e w8 ⟨rfl, hb⟩
    rw [hcab]
    have HB : Below w7.heap.size w7 w8 := below_trans (by repeat' (first | exact Below.refl _ _ | refine Below.alloc ?_ ?_ _ | refine Below.setCell ?_ ?_ _ | refine Below.drew ?_ | (simp; done) | (simp; omega))) hb (Nat.le_refl _)
    clear na0 na1 na2 naf lta nx0 nx1 nx2 nxf ltx
    obtain ⟨gu, hgu⟩ : ∃ g, g = w7.heap.size := ⟨_, rfl⟩
    have HGu := Lib.hid hgu; clear hgu
    have q8u : Blk w8 gu 23 #[.int .i64 t1, .int .i64 t2, .int .i64 t3] := (Blk.new' w7 _ _ HGu.out).below hb (by simp; have := HGu.out; omega)
    rw [← HGu.out]
    have q8a := q7a.below HB q7a.lt
    have q8x := q7x.below HB q7x.lt
    have q8s := q7s.below HB q7s.lt
    have q8r := q7r.below HB q7r.lt
    have q8t := q7t.below HB q7t.lt
    have r8p := (r7p.below HB).more HB.size
    have r8q := (r7q.below HB).more HB.size
    have HW8 := Lib.hid (HW7.out.trans (HB.mono HW7.out.size))
    clear HB hb q7a q7x q7s q7r q7t r7p r7q
    obtain ⟨na0, na1, na2, naf⟩ := q8a.three
    have lta : w.heap.size < w8.heap.size := q8a.lt
    obtain ⟨nx0, nx1, nx2, nxf⟩ := q8x.three
    have ltx : (w.heap.size + 1) < w8.heap.size := q8x.lt
    have HCABX := Lib.hid hcab; clear hcab
    obtain ⟨br, hbr⟩ : ∃ u, u = rightB a b c := ⟨_, rfl⟩
    have HBR := Lib.hid hbr; clear hbr
    have HRLw := Lib.hid ((HRL.out.below HW8.out))
    have HCT := Lib.hid (show CT w gs gr gt gu a b c x y z s1 s2 s3 t1 t2 t3 Ap Aq L w8 from ⟨HW8.out, q8a, q8x, q8s, q8r, q8t, q8u, r8p, r8q⟩)
    clear na0 na1 na2 naf lta nx0 nx1 nx2 nxf ltx
    clear q8a q8x q8s q8r q8t q8u r8p r8q
    go_wp2
    refine Inv.region_below (fun i v w' => match i with
        | 0 => v = .agg #[.int .i64 s1, .int .i64 s2, .int .i64 s3]
        | 1 => v = .agg #[.int .i64 s1, .int .i64 s2, .int .i64 s3]
        | 2 => v = .bool true
        | 3 => v = .bool true
        | 4 => v = .int .i64 sd
        | 5 => v = .int .i64 sd
        | 6 => v = .bool true
        | 7 => v = .bool true
        | 8 => v = .bool true
        | 9 => v = .slice Ap L.length cp
        | 10 => v = .slice Aq L.length cq
        | 11 => v = .bool true
        | 12 => v = .bool true
        | 13 => v = .bool true
        | 14 => v = .int .i64 pd
        | 15 => v = .int .i64 pd
        | 16 => v = .bool true
        | 17 => v = .bool true
        | 18 => v = .bool true
        | 19 => v = .agg #[.int .i64 t1, .int .i64 t2, .int .i64 t3]
        | 20 => v = .agg #[.int .i64 t1, .int .i64 t2, .int .i64 t3]
        | 21 => v = .bool true
        | 22 => v = .bool true
        | 23 => v = .bool true
        | 24 => v = .int .i64 (tn : Int)
        | 25 => v = .int .i64 (tn : Int)
        | 26 => v = .bool true
        | 27 => v = .bool true
        | 28 => v = .bool true
        | 29 => v = .int .i64 (td : Int)
        | 30 => v = .int .i64 (td : Int)
        | 31 => v = .bool true
        | 32 => v = .bool true
        | 33 => v = .bool true
        | 34 => v = .agg #[.int .i64 a, .int .i64 b, .int .i64 c]
        | 35 => v = .bool br
        | 36 => v = .agg #[.int .i64 a, .int .i64 b, .int .i64 c]
        | 37 => v = .bool br
        | 38 => v = .bool true
        | 39 => v = .bool true
        | 40 => v = .bool true
        | 41 => v = .agg #[.int .i64 a, .int .i64 b, .int .i64 c]
        | 42 => v = .agg #[.int .i64 x, .int .i64 y, .int .i64 z]
        | 43 => v = .bool true
        | 44 => v = .agg #[.int .i64 a, .int .i64 b, .int .i64 c]
        | 45 => v = .agg #[.int .i64 x, .int .i64 y, .int .i64 z]
        | 46 => v = .bool true
        | 47 => v = .bool true
        | 48 => v = .bool true
        | 49 => v = .bool true
        | 50 => v = .agg #[.int .i64 a, .int .i64 b, .int .i64 c]
        | 51 => v = .agg #[.int .i64 x, .int .i64 y, .int .i64 z]
        | 52 => v = .bool false
        | 53 => v = .bool false
        | 54 => v = .bool true
        | 55 => v = .bool true
        | 56 => v = .bool true
        | 57 => v = .slice Al cs.length cl
        | 58 => v = .agg #[.int .i64 m1, .int .i64 m2, .int .i64 m3]
        | 59 => v = .slice Al cs.length cl
        | 60 => v = .agg #[.int .i64 m1, .int .i64 m2, .int .i64 m3]
        | 61 => v = .bool true
        | 62 => v = .bool true
        | 63 => v = .bool true
        | _ => True)
      (fun w' => CT w gs gr gt gu a b c x y z s1 s2 s3 t1 t2 t3 Ap Aq L w' ∧ Rd w' w.heap.size Al (cells3 cs)) 147 [84, 85, 86, 87, 88, 89, 90, 91, 92, 93, 94, 95, 96, 97, 98, 99, 100, 101, 102, 103, 104, 105, 106, 107, 108, 109, 110, 111, 112, 113, 114, 115, 116, 117, 118, 119, 120, 121, 122, 123, 124, 125, 126, 127, 128, 129, 130, 131, 132, 133, 134, 135, 136, 137, 138, 139, 140, 141, 142, 143, 144, 145, 146, 10] (by kernel_rfl) rfl (by kernel_rfl) (by kernel_rfl) ?_ ?_ ?_ ?_
    · intro v v' hC hb
      obtain ⟨hCT, hRL⟩ := hC
      exact ⟨hCT.keep hb, hRL.below (hb.mono hCT.1.size)⟩
    · exact ⟨CT.keep HCT.out (Below.refl _ _).drew, HRLw.out⟩
    · refine ⟨⟨fun _ _ _ h _ => h, ?_⟩, ⟨fun _ _ _ h _ => h, ?_⟩, ⟨fun _ _ _ h _ => h, ?_⟩, ⟨fun _ _ _ h _ => h, ?_⟩, ⟨fun _ _ _ h _ => h, ?_⟩, ⟨fun _ _ _ h _ => h, ?_⟩, ⟨fun _ _ _ h _ => h, ?_⟩, ⟨fun _ _ _ h _ => h, ?_⟩, ⟨fun _ _ _ h _ => h, ?_⟩, ⟨fun _ _ _ h _ => h, ?_⟩, ⟨fun _ _ _ h _ => h, ?_⟩, ⟨fun _ _ _ h _ => h, ?_⟩, ⟨fun _ _ _ h _ => h, ?_⟩, ⟨fun _ _ _ h _ => h, ?_⟩, ⟨fun _ _ _ h _ => h, ?_⟩, ⟨fun _ _ _ h _ => h, ?_⟩, ⟨fun _ _ _ h _ => h, ?_⟩, ⟨fun _ _ _ h _ => h, ?_⟩, ⟨fun _ _ _ h _ => h, ?_⟩, ⟨fun _ _ _ h _ => h, ?_⟩, ⟨fun _ _ _ h _ => h, ?_⟩, ⟨fun _ _ _ h _ => h, ?_⟩, ⟨fun _ _ _ h _ => h, ?_⟩, ⟨fun _ _ _ h _ => h, ?_⟩, ⟨fun _ _ _ h _ => h, ?_⟩, ⟨fun _ _ _ h _ => h, ?_⟩, ⟨fun _ _ _ h _ => h, ?_⟩, ⟨fun _ _ _ h _ => h, ?_⟩, ⟨fun _ _ _ h _ => h, ?_⟩, ⟨fun _ _ _ h _ => h, ?_⟩, ⟨fun _ _ _ h _ => h, ?_⟩, ⟨fun _ _ _ h _ => h, ?_⟩, ⟨fun _ _ _ h _ => h, ?_⟩, ⟨fun _ _ _ h _ => h, ?_⟩, ⟨fun _ _ _ h _ => h, ?_⟩, ⟨fun _ _ _ h _ => h, ?_⟩, ⟨fun _ _ _ h _ => h, ?_⟩, ⟨fun _ _ _ h _ => h, ?_⟩, ⟨fun _ _ _ h _ => h, ?_⟩, ⟨fun _ _ _ h _ => h, ?_⟩, ⟨fun _ _ _ h _ => h, ?_⟩, ⟨fun _ _ _ h _ => h, ?_⟩, ⟨fun _ _ _ h _ => h, ?_⟩, ⟨fun _ _ _ h _ => h, ?_⟩, ⟨fun _ _ _ h _ => h, ?_⟩, ⟨fun _ _ _ h _ => h, ?_⟩, ⟨fun _ _ _ h _ => h, ?_⟩, ⟨fun _ _ _ h _ => h, ?_⟩, ⟨fun _ _ _ h _ => h, ?_⟩, ⟨fun _ _ _ h _ => h, ?_⟩, ⟨fun _ _ _ h _ => h, ?_⟩, ⟨fun _ _ _ h _ => h, ?_⟩, ⟨fun _ _ _ h _ => h, ?_⟩, ⟨fun _ _ _ h _ => h, ?_⟩, ⟨fun _ _ _ h _ => h, ?_⟩, ⟨fun _ _ _ h _ => h, ?_⟩, ⟨fun _ _ _ h _ => h, ?_⟩, ⟨fun _ _ _ h _ => h, ?_⟩, ⟨fun _ _ _ h _ => h, ?_⟩, ⟨fun _ _ _ h _ => h, ?_⟩, ⟨fun _ _ _ h _ => h, ?_⟩, ⟨fun _ _ _ h _ => h, ?_⟩, ⟨fun _ _ _ h _ => h, ?_⟩, ⟨fun _ _ _ h _ => h, ?_⟩, trivial⟩
      · intro act wa hC hd H O K hK
        clear hd
        obtain ⟨hCT, hRL⟩ := hC
        have h11 := O 11 (by kernel_rfl)
        have g11 := Array.getD_eq_getD_getElem?.symm.trans h11
        clear H O
        obtain ⟨na0, na1, na2, naf⟩ := hCT.2.1.three
        obtain ⟨nx0, nx1, nx2, nxf⟩ := hCT.2.2.1.three
        obtain ⟨ns0, ns1, ns2, nsf⟩ := hCT.2.2.2.1.three
        obtain ⟨nr0, nr1, nr2, nrf⟩ := hCT.2.2.2.2.1.three
        obtain ⟨nt0, nt1, nt2, ntf⟩ := hCT.2.2.2.2.2.1.three
        obtain ⟨nu0, nu1, nu2, nuf⟩ := hCT.2.2.2.2.2.2.1.three
        go_simp
        exact hK _ _ (Below.refl _ _) (fun _ => rfl)
      · intro act wa hC hd H O K hK
        clear hd
        obtain ⟨hCT, hRL⟩ := hC
        have h13 := O 13 (by kernel_rfl)
        have g13 := Array.getD_eq_getD_getElem?.symm.trans h13
        clear H O
        obtain ⟨na0, na1, na2, naf⟩ := hCT.2.1.three
        obtain ⟨nx0, nx1, nx2, nxf⟩ := hCT.2.2.1.three
        obtain ⟨ns0, ns1, ns2, nsf⟩ := hCT.2.2.2.1.three
        obtain ⟨nr0, nr1, nr2, nrf⟩ := hCT.2.2.2.2.1.three
        obtain ⟨nt0, nt1, nt2, ntf⟩ := hCT.2.2.2.2.2.1.three
        obtain ⟨nu0, nu1, nu2, nuf⟩ := hCT.2.2.2.2.2.2.1.three
        go_simp
        exact hK _ _ (Below.refl _ _) (fun _ => rfl)
      · intro act wa hC hd H O K hK
        clear hd
        obtain ⟨hCT, hRL⟩ := hC
        have h84 : act.tmps.getD 84 undef = .agg #[.int .i64 s1, .int .i64 s2, .int .i64 s3] := H 1 0 84 (by kernel_rfl) rfl
        have g84 := Array.getD_eq_getD_getElem?.symm.trans h84
        have h85 : act.tmps.getD 85 undef = .agg #[.int .i64 s1, .int .i64 s2, .int .i64 s3] := H 1 1 85 (by kernel_rfl) rfl
        have g85 := Array.getD_eq_getD_getElem?.symm.trans h85
        clear H O
        obtain ⟨na0, na1, na2, naf⟩ := hCT.2.1.three
        obtain ⟨nx0, nx1, nx2, nxf⟩ := hCT.2.2.1.three
        obtain ⟨ns0, ns1, ns2, nsf⟩ := hCT.2.2.2.1.three
        obtain ⟨nr0, nr1, nr2, nrf⟩ := hCT.2.2.2.2.1.three
        obtain ⟨nt0, nt1, nt2, ntf⟩ := hCT.2.2.2.2.2.1.three
        obtain ⟨nu0, nu1, nu2, nuf⟩ := hCT.2.2.2.2.2.2.1.three
        have qq := eqc_in s1 s2 s3 s1 s2 s3 wa
        rw [eqcB_of rfl rfl rfl] at qq
        go_simp
        exact hK _ _ (Below.refl _ _) (fun _ => rfl)
      · intro act wa hC hd H O K hK
        clear hd
        obtain ⟨hCT, hRL⟩ := hC
        have h86 : act.tmps.getD 86 undef = .bool true := H 1 2 86 (by kernel_rfl) rfl
        have g86 := Array.getD_eq_getD_getElem?.symm.trans h86
        clear H O
        obtain ⟨na0, na1, na2, naf⟩ := hCT.2.1.three
        obtain ⟨nx0, nx1, nx2, nxf⟩ := hCT.2.2.1.three
        obtain ⟨ns0, ns1, ns2, nsf⟩ := hCT.2.2.2.1.three
        obtain ⟨nr0, nr1, nr2, nrf⟩ := hCT.2.2.2.2.1.three
        obtain ⟨nt0, nt1, nt2, ntf⟩ := hCT.2.2.2.2.2.1.three
        obtain ⟨nu0, nu1, nu2, nuf⟩ := hCT.2.2.2.2.2.2.1.three
        go_simp
        exact hK _ _ (Below.refl _ _) (fun _ => rfl)
      · intro act wa hC hd H O K hK
        clear hd
        obtain ⟨hCT, hRL⟩ := hC
        have h12 := O 12 (by kernel_rfl)
        have g12 := Array.getD_eq_getD_getElem?.symm.trans h12
        have h87 : act.tmps.getD 87 undef = .bool true := H 1 3 87 (by kernel_rfl) rfl
        have g87 := Array.getD_eq_getD_getElem?.symm.trans h87
        have k87 := Inv.some_bool g87
        clear H O
        obtain ⟨na0, na1, na2, naf⟩ := hCT.2.1.three
        obtain ⟨nx0, nx1, nx2, nxf⟩ := hCT.2.2.1.three
        obtain ⟨ns0, ns1, ns2, nsf⟩ := hCT.2.2.2.1.three
        obtain ⟨nr0, nr1, nr2, nrf⟩ := hCT.2.2.2.2.1.three
        obtain ⟨nt0, nt1, nt2, ntf⟩ := hCT.2.2.2.2.2.1.three
        obtain ⟨nu0, nu1, nu2, nuf⟩ := hCT.2.2.2.2.2.2.1.three
        go_simp
        exact hK _ _ (Below.refl _ _) (fun _ => rfl)
      · intro act wa hC hd H O K hK
        clear hd
        obtain ⟨hCT, hRL⟩ := hC
        have h14 := O 14 (by kernel_rfl)
        have g14 := Array.getD_eq_getD_getElem?.symm.trans h14
        have h87 : act.tmps.getD 87 undef = .bool true := H 1 3 87 (by kernel_rfl) rfl
        have g87 := Array.getD_eq_getD_getElem?.symm.trans h87
        have k87 := Inv.some_bool g87
        clear H O
        obtain ⟨na0, na1, na2, naf⟩ := hCT.2.1.three
        obtain ⟨nx0, nx1, nx2, nxf⟩ := hCT.2.2.1.three
        obtain ⟨ns0, ns1, ns2, nsf⟩ := hCT.2.2.2.1.three
        obtain ⟨nr0, nr1, nr2, nrf⟩ := hCT.2.2.2.2.1.three
        obtain ⟨nt0, nt1, nt2, ntf⟩ := hCT.2.2.2.2.2.1.three
        obtain ⟨nu0, nu1, nu2, nuf⟩ := hCT.2.2.2.2.2.2.1.three
        go_simp
        exact hK _ _ (Below.refl _ _) (fun _ => rfl)
      · intro act wa hC hd H O K hK
        clear hd
        obtain ⟨hCT, hRL⟩ := hC
        have h88 : act.tmps.getD 88 undef = .int .i64 sd := H 1 4 88 (by kernel_rfl) rfl
        have g88 := Array.getD_eq_getD_getElem?.symm.trans h88
        have h89 : act.tmps.getD 89 undef = .int .i64 sd := H 1 5 89 (by kernel_rfl) rfl
        have g89 := Array.getD_eq_getD_getElem?.symm.trans h89
        have h87 : act.tmps.getD 87 undef = .bool true := H 1 3 87 (by kernel_rfl) rfl
        have g87 := Array.getD_eq_getD_getElem?.symm.trans h87
        have k87 := Inv.some_bool g87
        clear H O
        obtain ⟨na0, na1, na2, naf⟩ := hCT.2.1.three
        obtain ⟨nx0, nx1, nx2, nxf⟩ := hCT.2.2.1.three
        obtain ⟨ns0, ns1, ns2, nsf⟩ := hCT.2.2.2.1.three
        obtain ⟨nr0, nr1, nr2, nrf⟩ := hCT.2.2.2.2.1.three
        obtain ⟨nt0, nt1, nt2, ntf⟩ := hCT.2.2.2.2.2.1.three
        obtain ⟨nu0, nu1, nu2, nuf⟩ := hCT.2.2.2.2.2.2.1.three
        go_simp
        exact hK _ _ (Below.refl _ _) (fun _ => rfl)
      · intro act wa hC hd H O K hK
        clear hd
        obtain ⟨hCT, hRL⟩ := hC
        have h87 : act.tmps.getD 87 undef = .bool true := H 1 3 87 (by kernel_rfl) rfl
        have g87 := Array.getD_eq_getD_getElem?.symm.trans h87
        have h90 : act.tmps.getD 90 undef = .bool true := H 1 6 90 (by kernel_rfl) rfl
        have g90 := Array.getD_eq_getD_getElem?.symm.trans h90
        clear H O
        obtain ⟨na0, na1, na2, naf⟩ := hCT.2.1.three
        obtain ⟨nx0, nx1, nx2, nxf⟩ := hCT.2.2.1.three
        obtain ⟨ns0, ns1, ns2, nsf⟩ := hCT.2.2.2.1.three
        obtain ⟨nr0, nr1, nr2, nrf⟩ := hCT.2.2.2.2.1.three
        obtain ⟨nt0, nt1, nt2, ntf⟩ := hCT.2.2.2.2.2.1.three
        obtain ⟨nu0, nu1, nu2, nuf⟩ := hCT.2.2.2.2.2.2.1.three
        go_simp
        exact hK _ _ (Below.refl _ _) (fun _ => rfl)
      · intro act wa hC hd H O K hK
        clear hd
        obtain ⟨hCT, hRL⟩ := hC
        have h91 : act.tmps.getD 91 undef = .bool true := H 1 7 91 (by kernel_rfl) rfl
        have g91 := Array.getD_eq_getD_getElem?.symm.trans h91
        clear H O
        obtain ⟨na0, na1, na2, naf⟩ := hCT.2.1.three
        obtain ⟨nx0, nx1, nx2, nxf⟩ := hCT.2.2.1.three
        obtain ⟨ns0, ns1, ns2, nsf⟩ := hCT.2.2.2.1.three
        obtain ⟨nr0, nr1, nr2, nrf⟩ := hCT.2.2.2.2.1.three
        obtain ⟨nt0, nt1, nt2, ntf⟩ := hCT.2.2.2.2.2.1.three
        obtain ⟨nu0, nu1, nu2, nuf⟩ := hCT.2.2.2.2.2.2.1.three
        go_simp
        exact hK _ _ (Below.refl _ _) (fun _ => rfl)
      · intro act wa hC hd H O K hK
        clear hd
        obtain ⟨hCT, hRL⟩ := hC
        have h15 := O 15 (by kernel_rfl)
        have g15 := Array.getD_eq_getD_getElem?.symm.trans h15
        have h92 : act.tmps.getD 92 undef = .bool true := H 1 8 92 (by kernel_rfl) rfl
        have g92 := Array.getD_eq_getD_getElem?.symm.trans h92
        have k92 := Inv.some_bool g92
        clear H O
        obtain ⟨na0, na1, na2, naf⟩ := hCT.2.1.three
        obtain ⟨nx0, nx1, nx2, nxf⟩ := hCT.2.2.1.three
        obtain ⟨ns0, ns1, ns2, nsf⟩ := hCT.2.2.2.1.three
        obtain ⟨nr0, nr1, nr2, nrf⟩ := hCT.2.2.2.2.1.three
        obtain ⟨nt0, nt1, nt2, ntf⟩ := hCT.2.2.2.2.2.1.three
        obtain ⟨nu0, nu1, nu2, nuf⟩ := hCT.2.2.2.2.2.2.1.three
        go_simp
        exact hK _ _ (Below.refl _ _) (fun _ => rfl)
      · intro act wa hC hd H O K hK
        clear hd
        obtain ⟨hCT, hRL⟩ := hC
        have h17 := O 17 (by kernel_rfl)
        have g17 := Array.getD_eq_getD_getElem?.symm.trans h17
        have h92 : act.tmps.getD 92 undef = .bool true := H 1 8 92 (by kernel_rfl) rfl
        have g92 := Array.getD_eq_getD_getElem?.symm.trans h92
        have k92 := Inv.some_bool g92
        clear H O
        obtain ⟨na0, na1, na2, naf⟩ := hCT.2.1.three
        obtain ⟨nx0, nx1, nx2, nxf⟩ := hCT.2.2.1.three
        obtain ⟨ns0, ns1, ns2, nsf⟩ := hCT.2.2.2.1.three
        obtain ⟨nr0, nr1, nr2, nrf⟩ := hCT.2.2.2.2.1.three
        obtain ⟨nt0, nt1, nt2, ntf⟩ := hCT.2.2.2.2.2.1.three
        obtain ⟨nu0, nu1, nu2, nuf⟩ := hCT.2.2.2.2.2.2.1.three
        go_simp
        exact hK _ _ (Below.refl _ _) (fun _ => rfl)
      · intro act wa hC hd H O K hK
        clear hd
        obtain ⟨hCT, hRL⟩ := hC
        have h93 : act.tmps.getD 93 undef = .slice Ap L.length cp := H 1 9 93 (by kernel_rfl) rfl
        have g93 := Array.getD_eq_getD_getElem?.symm.trans h93
        have h94 : act.tmps.getD 94 undef = .slice Aq L.length cq := H 1 10 94 (by kernel_rfl) rfl
        have g94 := Array.getD_eq_getD_getElem?.symm.trans h94
        have h92 : act.tmps.getD 92 undef = .bool true := H 1 8 92 (by kernel_rfl) rfl
        have g92 := Array.getD_eq_getD_getElem?.symm.trans h92
        have k92 := Inv.some_bool g92
        clear H O
        obtain ⟨na0, na1, na2, naf⟩ := hCT.2.1.three
        obtain ⟨nx0, nx1, nx2, nxf⟩ := hCT.2.2.1.three
        obtain ⟨ns0, ns1, ns2, nsf⟩ := hCT.2.2.2.1.three
        obtain ⟨nr0, nr1, nr2, nrf⟩ := hCT.2.2.2.2.1.three
        obtain ⟨nt0, nt1, nt2, ntf⟩ := hCT.2.2.2.2.2.1.three
        obtain ⟨nu0, nu1, nu2, nuf⟩ := hCT.2.2.2.2.2.2.1.three
        go_simp
        refine (same_at wa _ _ _ _ L L _ _ L.length L.length true hCT.2.2.2.2.2.2.2.1 hCT.2.2.2.2.2.2.2.2 (by omega) rfl rfl (by simp)).mono ?_
        rintro e w1 ⟨rfl, q, hq⟩
        have hb : Below wa.heap.size wa w1 := by rw [hq]; exact below_drewN (Below.refl _ _) q
        exact hK _ _ hb (fun _ => rfl)
      · intro act wa hC hd H O K hK
        clear hd
        obtain ⟨hCT, hRL⟩ := hC
        have h92 : act.tmps.getD 92 undef = .bool true := H 1 8 92 (by kernel_rfl) rfl
        have g92 := Array.getD_eq_getD_getElem?.symm.trans h92
        have h95 : act.tmps.getD 95 undef = .bool true := H 1 11 95 (by kernel_rfl) rfl
        have g95 := Array.getD_eq_getD_getElem?.symm.trans h95
        clear H O
        obtain ⟨na0, na1, na2, naf⟩ := hCT.2.1.three
        obtain ⟨nx0, nx1, nx2, nxf⟩ := hCT.2.2.1.three
        obtain ⟨ns0, ns1, ns2, nsf⟩ := hCT.2.2.2.1.three
        obtain ⟨nr0, nr1, nr2, nrf⟩ := hCT.2.2.2.2.1.three
        obtain ⟨nt0, nt1, nt2, ntf⟩ := hCT.2.2.2.2.2.1.three
        obtain ⟨nu0, nu1, nu2, nuf⟩ := hCT.2.2.2.2.2.2.1.three
        go_simp
        exact hK _ _ (Below.refl _ _) (fun _ => rfl)
      · intro act wa hC hd H O K hK
        clear hd
        obtain ⟨hCT, hRL⟩ := hC
        have h96 : act.tmps.getD 96 undef = .bool true := H 1 12 96 (by kernel_rfl) rfl
        have g96 := Array.getD_eq_getD_getElem?.symm.trans h96
        clear H O
        obtain ⟨na0, na1, na2, naf⟩ := hCT.2.1.three
        obtain ⟨nx0, nx1, nx2, nxf⟩ := hCT.2.2.1.three
        obtain ⟨ns0, ns1, ns2, nsf⟩ := hCT.2.2.2.1.three
        obtain ⟨nr0, nr1, nr2, nrf⟩ := hCT.2.2.2.2.1.three
        obtain ⟨nt0, nt1, nt2, ntf⟩ := hCT.2.2.2.2.2.1.three
        obtain ⟨nu0, nu1, nu2, nuf⟩ := hCT.2.2.2.2.2.2.1.three
        go_simp
        exact hK _ _ (Below.refl _ _) (fun _ => rfl)
      · intro act wa hC hd H O K hK
        clear hd
        obtain ⟨hCT, hRL⟩ := hC
        have h16 := O 16 (by kernel_rfl)
        have g16 := Array.getD_eq_getD_getElem?.symm.trans h16
        have h97 : act.tmps.getD 97 undef = .bool true := H 1 13 97 (by kernel_rfl) rfl
        have g97 := Array.getD_eq_getD_getElem?.symm.trans h97
        have k97 := Inv.some_bool g97
        clear H O
        obtain ⟨na0, na1, na2, naf⟩ := hCT.2.1.three
        obtain ⟨nx0, nx1, nx2, nxf⟩ := hCT.2.2.1.three
        obtain ⟨ns0, ns1, ns2, nsf⟩ := hCT.2.2.2.1.three
        obtain ⟨nr0, nr1, nr2, nrf⟩ := hCT.2.2.2.2.1.three
        obtain ⟨nt0, nt1, nt2, ntf⟩ := hCT.2.2.2.2.2.1.three
        obtain ⟨nu0, nu1, nu2, nuf⟩ := hCT.2.2.2.2.2.2.1.three
        go_simp
        exact hK _ _ (Below.refl _ _) (fun _ => rfl)
      · intro act wa hC hd H O K hK
        clear hd
        obtain ⟨hCT, hRL⟩ := hC
        have h18 := O 18 (by kernel_rfl)
        have g18 := Array.getD_eq_getD_getElem?.symm.trans h18
        have h97 : act.tmps.getD 97 undef = .bool true := H 1 13 97 (by kernel_rfl) rfl
        have g97 := Array.getD_eq_getD_getElem?.symm.trans h97
        have k97 := Inv.some_bool g97
        clear H O
        obtain ⟨na0, na1, na2, naf⟩ := hCT.2.1.three
        obtain ⟨nx0, nx1, nx2, nxf⟩ := hCT.2.2.1.three
        obtain ⟨ns0, ns1, ns2, nsf⟩ := hCT.2.2.2.1.three
        obtain ⟨nr0, nr1, nr2, nrf⟩ := hCT.2.2.2.2.1.three
        obtain ⟨nt0, nt1, nt2, ntf⟩ := hCT.2.2.2.2.2.1.three
        obtain ⟨nu0, nu1, nu2, nuf⟩ := hCT.2.2.2.2.2.2.1.three
        go_simp
        exact hK _ _ (Below.refl _ _) (fun _ => rfl)
      · intro act wa hC hd H O K hK
        clear hd
        obtain ⟨hCT, hRL⟩ := hC
        have h98 : act.tmps.getD 98 undef = .int .i64 pd := H 1 14 98 (by kernel_rfl) rfl
        have g98 := Array.getD_eq_getD_getElem?.symm.trans h98
        have h99 : act.tmps.getD 99 undef = .int .i64 pd := H 1 15 99 (by kernel_rfl) rfl
        have g99 := Array.getD_eq_getD_getElem?.symm.trans h99
        have h97 : act.tmps.getD 97 undef = .bool true := H 1 13 97 (by kernel_rfl) rfl
        have g97 := Array.getD_eq_getD_getElem?.symm.trans h97
        have k97 := Inv.some_bool g97
        clear H O
        obtain ⟨na0, na1, na2, naf⟩ := hCT.2.1.three
        obtain ⟨nx0, nx1, nx2, nxf⟩ := hCT.2.2.1.three
        obtain ⟨ns0, ns1, ns2, nsf⟩ := hCT.2.2.2.1.three
        obtain ⟨nr0, nr1, nr2, nrf⟩ := hCT.2.2.2.2.1.three
        obtain ⟨nt0, nt1, nt2, ntf⟩ := hCT.2.2.2.2.2.1.three
        obtain ⟨nu0, nu1, nu2, nuf⟩ := hCT.2.2.2.2.2.2.1.three
        go_simp
        exact hK _ _ (Below.refl _ _) (fun _ => rfl)
      · intro act wa hC hd H O K hK
        clear hd
        obtain ⟨hCT, hRL⟩ := hC
        have h97 : act.tmps.getD 97 undef = .bool true := H 1 13 97 (by kernel_rfl) rfl
        have g97 := Array.getD_eq_getD_getElem?.symm.trans h97
        have h100 : act.tmps.getD 100 undef = .bool true := H 1 16 100 (by kernel_rfl) rfl
        have g100 := Array.getD_eq_getD_getElem?.symm.trans h100
        clear H O
        obtain ⟨na0, na1, na2, naf⟩ := hCT.2.1.three
        obtain ⟨nx0, nx1, nx2, nxf⟩ := hCT.2.2.1.three
        obtain ⟨ns0, ns1, ns2, nsf⟩ := hCT.2.2.2.1.three
        obtain ⟨nr0, nr1, nr2, nrf⟩ := hCT.2.2.2.2.1.three
        obtain ⟨nt0, nt1, nt2, ntf⟩ := hCT.2.2.2.2.2.1.three
        obtain ⟨nu0, nu1, nu2, nuf⟩ := hCT.2.2.2.2.2.2.1.three
        go_simp
        exact hK _ _ (Below.refl _ _) (fun _ => rfl)
      · intro act wa hC hd H O K hK
        clear hd
        obtain ⟨hCT, hRL⟩ := hC
        have h101 : act.tmps.getD 101 undef = .bool true := H 1 17 101 (by kernel_rfl) rfl
        have g101 := Array.getD_eq_getD_getElem?.symm.trans h101
        clear H O
        obtain ⟨na0, na1, na2, naf⟩ := hCT.2.1.three
        obtain ⟨nx0, nx1, nx2, nxf⟩ := hCT.2.2.1.three
        obtain ⟨ns0, ns1, ns2, nsf⟩ := hCT.2.2.2.1.three
        obtain ⟨nr0, nr1, nr2, nrf⟩ := hCT.2.2.2.2.1.three
        obtain ⟨nt0, nt1, nt2, ntf⟩ := hCT.2.2.2.2.2.1.three
        obtain ⟨nu0, nu1, nu2, nuf⟩ := hCT.2.2.2.2.2.2.1.three
        go_simp
        exact hK _ _ (Below.refl _ _) (fun _ => rfl)
      · intro act wa hC hd H O K hK
        clear hd
        obtain ⟨hCT, hRL⟩ := hC
        have h19 := O 19 (by kernel_rfl)
        have g19 := Array.getD_eq_getD_getElem?.symm.trans h19
        have h102 : act.tmps.getD 102 undef = .bool true := H 1 18 102 (by kernel_rfl) rfl
        have g102 := Array.getD_eq_getD_getElem?.symm.trans h102
        have k102 := Inv.some_bool g102
        clear H O
        obtain ⟨na0, na1, na2, naf⟩ := hCT.2.1.three
        obtain ⟨nx0, nx1, nx2, nxf⟩ := hCT.2.2.1.three
        obtain ⟨ns0, ns1, ns2, nsf⟩ := hCT.2.2.2.1.three
        obtain ⟨nr0, nr1, nr2, nrf⟩ := hCT.2.2.2.2.1.three
        obtain ⟨nt0, nt1, nt2, ntf⟩ := hCT.2.2.2.2.2.1.three
        obtain ⟨nu0, nu1, nu2, nuf⟩ := hCT.2.2.2.2.2.2.1.three
        go_simp
        exact hK _ _ (Below.refl _ _) (fun _ => rfl)
      · intro act wa hC hd H O K hK
        clear hd
        obtain ⟨hCT, hRL⟩ := hC
        have h22 := O 22 (by kernel_rfl)
        have g22 := Array.getD_eq_getD_getElem?.symm.trans h22
        have h102 : act.tmps.getD 102 undef = .bool true := H 1 18 102 (by kernel_rfl) rfl
        have g102 := Array.getD_eq_getD_getElem?.symm.trans h102
        have k102 := Inv.some_bool g102
        clear H O
        obtain ⟨na0, na1, na2, naf⟩ := hCT.2.1.three
        obtain ⟨nx0, nx1, nx2, nxf⟩ := hCT.2.2.1.three
        obtain ⟨ns0, ns1, ns2, nsf⟩ := hCT.2.2.2.1.three
        obtain ⟨nr0, nr1, nr2, nrf⟩ := hCT.2.2.2.2.1.three
        obtain ⟨nt0, nt1, nt2, ntf⟩ := hCT.2.2.2.2.2.1.three
        obtain ⟨nu0, nu1, nu2, nuf⟩ := hCT.2.2.2.2.2.2.1.three
        go_simp
        exact hK _ _ (Below.refl _ _) (fun _ => rfl)
      · intro act wa hC hd H O K hK
        clear hd
        obtain ⟨hCT, hRL⟩ := hC
        have h103 : act.tmps.getD 103 undef = .agg #[.int .i64 t1, .int .i64 t2, .int .i64 t3] := H 1 19 103 (by kernel_rfl) rfl
        have g103 := Array.getD_eq_getD_getElem?.symm.trans h103
        have h104 : act.tmps.getD 104 undef = .agg #[.int .i64 t1, .int .i64 t2, .int .i64 t3] := H 1 20 104 (by kernel_rfl) rfl
        have g104 := Array.getD_eq_getD_getElem?.symm.trans h104
        have h102 : act.tmps.getD 102 undef = .bool true := H 1 18 102 (by kernel_rfl) rfl
        have g102 := Array.getD_eq_getD_getElem?.symm.trans h102
        have k102 := Inv.some_bool g102
        clear H O
        obtain ⟨na0, na1, na2, naf⟩ := hCT.2.1.three
        obtain ⟨nx0, nx1, nx2, nxf⟩ := hCT.2.2.1.three
        obtain ⟨ns0, ns1, ns2, nsf⟩ := hCT.2.2.2.1.three
        obtain ⟨nr0, nr1, nr2, nrf⟩ := hCT.2.2.2.2.1.three
        obtain ⟨nt0, nt1, nt2, ntf⟩ := hCT.2.2.2.2.2.1.three
        obtain ⟨nu0, nu1, nu2, nuf⟩ := hCT.2.2.2.2.2.2.1.three
        have qq := eqc_in t1 t2 t3 t1 t2 t3 wa
        rw [eqcB_of rfl rfl rfl] at qq
        go_simp
        exact hK _ _ (Below.refl _ _) (fun _ => rfl)
      · intro act wa hC hd H O K hK
        clear hd
        obtain ⟨hCT, hRL⟩ := hC
        have h102 : act.tmps.getD 102 undef = .bool true := H 1 18 102 (by kernel_rfl) rfl
        have g102 := Array.getD_eq_getD_getElem?.symm.trans h102
        have h105 : act.tmps.getD 105 undef = .bool true := H 1 21 105 (by kernel_rfl) rfl
        have g105 := Array.getD_eq_getD_getElem?.symm.trans h105
        clear H O
        obtain ⟨na0, na1, na2, naf⟩ := hCT.2.1.three
        obtain ⟨nx0, nx1, nx2, nxf⟩ := hCT.2.2.1.three
        obtain ⟨ns0, ns1, ns2, nsf⟩ := hCT.2.2.2.1.three
        obtain ⟨nr0, nr1, nr2, nrf⟩ := hCT.2.2.2.2.1.three
        obtain ⟨nt0, nt1, nt2, ntf⟩ := hCT.2.2.2.2.2.1.three
        obtain ⟨nu0, nu1, nu2, nuf⟩ := hCT.2.2.2.2.2.2.1.three
        go_simp
        exact hK _ _ (Below.refl _ _) (fun _ => rfl)
      · intro act wa hC hd H O K hK
        clear hd
        obtain ⟨hCT, hRL⟩ := hC
        have h106 : act.tmps.getD 106 undef = .bool true := H 1 22 106 (by kernel_rfl) rfl
        have g106 := Array.getD_eq_getD_getElem?.symm.trans h106
        clear H O
        obtain ⟨na0, na1, na2, naf⟩ := hCT.2.1.three
        obtain ⟨nx0, nx1, nx2, nxf⟩ := hCT.2.2.1.three
        obtain ⟨ns0, ns1, ns2, nsf⟩ := hCT.2.2.2.1.three
        obtain ⟨nr0, nr1, nr2, nrf⟩ := hCT.2.2.2.2.1.three
        obtain ⟨nt0, nt1, nt2, ntf⟩ := hCT.2.2.2.2.2.1.three
        obtain ⟨nu0, nu1, nu2, nuf⟩ := hCT.2.2.2.2.2.2.1.three
        go_simp
        exact hK _ _ (Below.refl _ _) (fun _ => rfl)
      · intro act wa hC hd H O K hK
        clear hd
        obtain ⟨hCT, hRL⟩ := hC
        have h20 := O 20 (by kernel_rfl)
        have g20 := Array.getD_eq_getD_getElem?.symm.trans h20
        have h107 : act.tmps.getD 107 undef = .bool true := H 1 23 107 (by kernel_rfl) rfl
        have g107 := Array.getD_eq_getD_getElem?.symm.trans h107
        have k107 := Inv.some_bool g107
        clear H O
        obtain ⟨na0, na1, na2, naf⟩ := hCT.2.1.three
        obtain ⟨nx0, nx1, nx2, nxf⟩ := hCT.2.2.1.three
        obtain ⟨ns0, ns1, ns2, nsf⟩ := hCT.2.2.2.1.three
        obtain ⟨nr0, nr1, nr2, nrf⟩ := hCT.2.2.2.2.1.three
        obtain ⟨nt0, nt1, nt2, ntf⟩ := hCT.2.2.2.2.2.1.three
        obtain ⟨nu0, nu1, nu2, nuf⟩ := hCT.2.2.2.2.2.2.1.three
        go_simp
        exact hK _ _ (Below.refl _ _) (fun _ => rfl)
      · intro act wa hC hd H O K hK
        clear hd
        obtain ⟨hCT, hRL⟩ := hC
        have h23 := O 23 (by kernel_rfl)
        have g23 := Array.getD_eq_getD_getElem?.symm.trans h23
        have h107 : act.tmps.getD 107 undef = .bool true := H 1 23 107 (by kernel_rfl) rfl
        have g107 := Array.getD_eq_getD_getElem?.symm.trans h107
        have k107 := Inv.some_bool g107
        clear H O
        obtain ⟨na0, na1, na2, naf⟩ := hCT.2.1.three
        obtain ⟨nx0, nx1, nx2, nxf⟩ := hCT.2.2.1.three
        obtain ⟨ns0, ns1, ns2, nsf⟩ := hCT.2.2.2.1.three
        obtain ⟨nr0, nr1, nr2, nrf⟩ := hCT.2.2.2.2.1.three
        obtain ⟨nt0, nt1, nt2, ntf⟩ := hCT.2.2.2.2.2.1.three
        obtain ⟨nu0, nu1, nu2, nuf⟩ := hCT.2.2.2.2.2.2.1.three
        go_simp
        exact hK _ _ (Below.refl _ _) (fun _ => rfl)
      · intro act wa hC hd H O K hK
        clear hd
        obtain ⟨hCT, hRL⟩ := hC
        have h108 : act.tmps.getD 108 undef = .int .i64 (tn : Int) := H 1 24 108 (by kernel_rfl) rfl
        have g108 := Array.getD_eq_getD_getElem?.symm.trans h108
        have h109 : act.tmps.getD 109 undef = .int .i64 (tn : Int) := H 1 25 109 (by kernel_rfl) rfl
        have g109 := Array.getD_eq_getD_getElem?.symm.trans h109
        have h107 : act.tmps.getD 107 undef = .bool true := H 1 23 107 (by kernel_rfl) rfl
        have g107 := Array.getD_eq_getD_getElem?.symm.trans h107
        have k107 := Inv.some_bool g107
        clear H O
        obtain ⟨na0, na1, na2, naf⟩ := hCT.2.1.three
        obtain ⟨nx0, nx1, nx2, nxf⟩ := hCT.2.2.1.three
        obtain ⟨ns0, ns1, ns2, nsf⟩ := hCT.2.2.2.1.three
        obtain ⟨nr0, nr1, nr2, nrf⟩ := hCT.2.2.2.2.1.three
        obtain ⟨nt0, nt1, nt2, ntf⟩ := hCT.2.2.2.2.2.1.three
        obtain ⟨nu0, nu1, nu2, nuf⟩ := hCT.2.2.2.2.2.2.1.three
        go_simp
        exact hK _ _ (Below.refl _ _) (fun _ => rfl)
      · intro act wa hC hd H O K hK
        clear hd
        obtain ⟨hCT, hRL⟩ := hC
        have h107 : act.tmps.getD 107 undef = .bool true := H 1 23 107 (by kernel_rfl) rfl
        have g107 := Array.getD_eq_getD_getElem?.symm.trans h107
        have h110 : act.tmps.getD 110 undef = .bool true := H 1 26 110 (by kernel_rfl) rfl
        have g110 := Array.getD_eq_getD_getElem?.symm.trans h110
        clear H O
        obtain ⟨na0, na1, na2, naf⟩ := hCT.2.1.three
        obtain ⟨nx0, nx1, nx2, nxf⟩ := hCT.2.2.1.three
        obtain ⟨ns0, ns1, ns2, nsf⟩ := hCT.2.2.2.1.three
        obtain ⟨nr0, nr1, nr2, nrf⟩ := hCT.2.2.2.2.1.three
        obtain ⟨nt0, nt1, nt2, ntf⟩ := hCT.2.2.2.2.2.1.three
        obtain ⟨nu0, nu1, nu2, nuf⟩ := hCT.2.2.2.2.2.2.1.three
        go_simp
        exact hK _ _ (Below.refl _ _) (fun _ => rfl)
      · intro act wa hC hd H O K hK
        clear hd
        obtain ⟨hCT, hRL⟩ := hC
        have h111 : act.tmps.getD 111 undef = .bool true := H 1 27 111 (by kernel_rfl) rfl
        have g111 := Array.getD_eq_getD_getElem?.symm.trans h111
        clear H O
        obtain ⟨na0, na1, na2, naf⟩ := hCT.2.1.three
        obtain ⟨nx0, nx1, nx2, nxf⟩ := hCT.2.2.1.three
        obtain ⟨ns0, ns1, ns2, nsf⟩ := hCT.2.2.2.1.three
        obtain ⟨nr0, nr1, nr2, nrf⟩ := hCT.2.2.2.2.1.three
        obtain ⟨nt0, nt1, nt2, ntf⟩ := hCT.2.2.2.2.2.1.three
        obtain ⟨nu0, nu1, nu2, nuf⟩ := hCT.2.2.2.2.2.2.1.three
        go_simp
        exact hK _ _ (Below.refl _ _) (fun _ => rfl)
      · intro act wa hC hd H O K hK
        clear hd
        obtain ⟨hCT, hRL⟩ := hC
        have h21 := O 21 (by kernel_rfl)
        have g21 := Array.getD_eq_getD_getElem?.symm.trans h21
        have h112 : act.tmps.getD 112 undef = .bool true := H 1 28 112 (by kernel_rfl) rfl
        have g112 := Array.getD_eq_getD_getElem?.symm.trans h112
        have k112 := Inv.some_bool g112
        clear H O
        obtain ⟨na0, na1, na2, naf⟩ := hCT.2.1.three
        obtain ⟨nx0, nx1, nx2, nxf⟩ := hCT.2.2.1.three
        obtain ⟨ns0, ns1, ns2, nsf⟩ := hCT.2.2.2.1.three
        obtain ⟨nr0, nr1, nr2, nrf⟩ := hCT.2.2.2.2.1.three
        obtain ⟨nt0, nt1, nt2, ntf⟩ := hCT.2.2.2.2.2.1.three
        obtain ⟨nu0, nu1, nu2, nuf⟩ := hCT.2.2.2.2.2.2.1.three
        go_simp
        exact hK _ _ (Below.refl _ _) (fun _ => rfl)
      · intro act wa hC hd H O K hK
        clear hd
        obtain ⟨hCT, hRL⟩ := hC
        have h24 := O 24 (by kernel_rfl)
        have g24 := Array.getD_eq_getD_getElem?.symm.trans h24
        have h112 : act.tmps.getD 112 undef = .bool true := H 1 28 112 (by kernel_rfl) rfl
        have g112 := Array.getD_eq_getD_getElem?.symm.trans h112
        have k112 := Inv.some_bool g112
        clear H O
        obtain ⟨na0, na1, na2, naf⟩ := hCT.2.1.three
        obtain ⟨nx0, nx1, nx2, nxf⟩ := hCT.2.2.1.three
        obtain ⟨ns0, ns1, ns2, nsf⟩ := hCT.2.2.2.1.three
        obtain ⟨nr0, nr1, nr2, nrf⟩ := hCT.2.2.2.2.1.three
        obtain ⟨nt0, nt1, nt2, ntf⟩ := hCT.2.2.2.2.2.1.three
        obtain ⟨nu0, nu1, nu2, nuf⟩ := hCT.2.2.2.2.2.2.1.three
        go_simp
        exact hK _ _ (Below.refl _ _) (fun _ => rfl)
      · intro act wa hC hd H O K hK
        clear hd
        obtain ⟨hCT, hRL⟩ := hC
        have h113 : act.tmps.getD 113 undef = .int .i64 (td : Int) := H 1 29 113 (by kernel_rfl) rfl
        have g113 := Array.getD_eq_getD_getElem?.symm.trans h113
        have h114 : act.tmps.getD 114 undef = .int .i64 (td : Int) := H 1 30 114 (by kernel_rfl) rfl
        have g114 := Array.getD_eq_getD_getElem?.symm.trans h114
        have h112 : act.tmps.getD 112 undef = .bool true := H 1 28 112 (by kernel_rfl) rfl
        have g112 := Array.getD_eq_getD_getElem?.symm.trans h112
        have k112 := Inv.some_bool g112
        clear H O
        obtain ⟨na0, na1, na2, naf⟩ := hCT.2.1.three
        obtain ⟨nx0, nx1, nx2, nxf⟩ := hCT.2.2.1.three
        obtain ⟨ns0, ns1, ns2, nsf⟩ := hCT.2.2.2.1.three
        obtain ⟨nr0, nr1, nr2, nrf⟩ := hCT.2.2.2.2.1.three
        obtain ⟨nt0, nt1, nt2, ntf⟩ := hCT.2.2.2.2.2.1.three
        obtain ⟨nu0, nu1, nu2, nuf⟩ := hCT.2.2.2.2.2.2.1.three
        go_simp
        exact hK _ _ (Below.refl _ _) (fun _ => rfl)
      · intro act wa hC hd H O K hK
        clear hd
        obtain ⟨hCT, hRL⟩ := hC
        have h112 : act.tmps.getD 112 undef = .bool true := H 1 28 112 (by kernel_rfl) rfl
        have g112 := Array.getD_eq_getD_getElem?.symm.trans h112
        have h115 : act.tmps.getD 115 undef = .bool true := H 1 31 115 (by kernel_rfl) rfl
        have g115 := Array.getD_eq_getD_getElem?.symm.trans h115
        clear H O
        obtain ⟨na0, na1, na2, naf⟩ := hCT.2.1.three
        obtain ⟨nx0, nx1, nx2, nxf⟩ := hCT.2.2.1.three
        obtain ⟨ns0, ns1, ns2, nsf⟩ := hCT.2.2.2.1.three
        obtain ⟨nr0, nr1, nr2, nrf⟩ := hCT.2.2.2.2.1.three
        obtain ⟨nt0, nt1, nt2, ntf⟩ := hCT.2.2.2.2.2.1.three
        obtain ⟨nu0, nu1, nu2, nuf⟩ := hCT.2.2.2.2.2.2.1.three
        go_simp
        exact hK _ _ (Below.refl _ _) (fun _ => rfl)
      · intro act wa hC hd H O K hK
        clear hd
        obtain ⟨hCT, hRL⟩ := hC
        have h116 : act.tmps.getD 116 undef = .bool true := H 1 32 116 (by kernel_rfl) rfl
        have g116 := Array.getD_eq_getD_getElem?.symm.trans h116
        clear H O
        obtain ⟨na0, na1, na2, naf⟩ := hCT.2.1.three
        obtain ⟨nx0, nx1, nx2, nxf⟩ := hCT.2.2.1.three
        obtain ⟨ns0, ns1, ns2, nsf⟩ := hCT.2.2.2.1.three
        obtain ⟨nr0, nr1, nr2, nrf⟩ := hCT.2.2.2.2.1.three
        obtain ⟨nt0, nt1, nt2, ntf⟩ := hCT.2.2.2.2.2.1.three
        obtain ⟨nu0, nu1, nu2, nuf⟩ := hCT.2.2.2.2.2.2.1.three
        go_simp
        exact hK _ _ (Below.refl _ _) (fun _ => rfl)
      · intro act wa hC hd H O K hK
        clear hd
        obtain ⟨hCT, hRL⟩ := hC
        have h5 := O 5 (by kernel_rfl)
        have g5 := Array.getD_eq_getD_getElem?.symm.trans h5
        have h117 : act.tmps.getD 117 undef = .bool true := H 1 33 117 (by kernel_rfl) rfl
        have g117 := Array.getD_eq_getD_getElem?.symm.trans h117
        have k117 := Inv.some_bool g117
        clear H O
        obtain ⟨na0, na1, na2, naf⟩ := hCT.2.1.three
        obtain ⟨nx0, nx1, nx2, nxf⟩ := hCT.2.2.1.three
        obtain ⟨ns0, ns1, ns2, nsf⟩ := hCT.2.2.2.1.three
        obtain ⟨nr0, nr1, nr2, nrf⟩ := hCT.2.2.2.2.1.three
        obtain ⟨nt0, nt1, nt2, ntf⟩ := hCT.2.2.2.2.2.1.three
        obtain ⟨nu0, nu1, nu2, nuf⟩ := hCT.2.2.2.2.2.2.1.three
        go_simp
        exact hK _ _ (Below.refl _ _) (fun _ => rfl)
      · intro act wa hC hd H O K hK
        clear hd
        obtain ⟨hCT, hRL⟩ := hC
        have h118 : act.tmps.getD 118 undef = .agg #[.int .i64 a, .int .i64 b, .int .i64 c] := H 1 34 118 (by kernel_rfl) rfl
        have g118 := Array.getD_eq_getD_getElem?.symm.trans h118
        have h117 : act.tmps.getD 117 undef = .bool true := H 1 33 117 (by kernel_rfl) rfl
        have g117 := Array.getD_eq_getD_getElem?.symm.trans h117
        have k117 := Inv.some_bool g117
        clear H O
        obtain ⟨na0, na1, na2, naf⟩ := hCT.2.1.three
        obtain ⟨nx0, nx1, nx2, nxf⟩ := hCT.2.2.1.three
        obtain ⟨ns0, ns1, ns2, nsf⟩ := hCT.2.2.2.1.three
        obtain ⟨nr0, nr1, nr2, nrf⟩ := hCT.2.2.2.2.1.three
        obtain ⟨nt0, nt1, nt2, ntf⟩ := hCT.2.2.2.2.2.1.three
        obtain ⟨nu0, nu1, nu2, nuf⟩ := hCT.2.2.2.2.2.2.1.three
        go_simp
        refine (Right_any _ a b c).mono ?_
        rintro e w1 ⟨rfl, hb⟩
        rw [← HBR.out]
        exact hK _ _ hb (fun _ => rfl)
      · intro act wa hC hd H O K hK
        clear hd
        obtain ⟨hCT, hRL⟩ := hC
        have h5 := O 5 (by kernel_rfl)
        have g5 := Array.getD_eq_getD_getElem?.symm.trans h5
        have h117 : act.tmps.getD 117 undef = .bool true := H 1 33 117 (by kernel_rfl) rfl
        have g117 := Array.getD_eq_getD_getElem?.symm.trans h117
        have k117 := Inv.some_bool g117
        clear H O
        obtain ⟨na0, na1, na2, naf⟩ := hCT.2.1.three
        obtain ⟨nx0, nx1, nx2, nxf⟩ := hCT.2.2.1.three
        obtain ⟨ns0, ns1, ns2, nsf⟩ := hCT.2.2.2.1.three
        obtain ⟨nr0, nr1, nr2, nrf⟩ := hCT.2.2.2.2.1.three
        obtain ⟨nt0, nt1, nt2, ntf⟩ := hCT.2.2.2.2.2.1.three
        obtain ⟨nu0, nu1, nu2, nuf⟩ := hCT.2.2.2.2.2.2.1.three
        go_simp
        exact hK _ _ (Below.refl _ _) (fun _ => rfl)
      · intro act wa hC hd H O K hK
        clear hd
        obtain ⟨hCT, hRL⟩ := hC
        have h120 : act.tmps.getD 120 undef = .agg #[.int .i64 a, .int .i64 b, .int .i64 c] := H 1 36 120 (by kernel_rfl) rfl
        have g120 := Array.getD_eq_getD_getElem?.symm.trans h120
        have h117 : act.tmps.getD 117 undef = .bool true := H 1 33 117 (by kernel_rfl) rfl
        have g117 := Array.getD_eq_getD_getElem?.symm.trans h117
        have k117 := Inv.some_bool g117
        clear H O
        obtain ⟨na0, na1, na2, naf⟩ := hCT.2.1.three
        obtain ⟨nx0, nx1, nx2, nxf⟩ := hCT.2.2.1.three
        obtain ⟨ns0, ns1, ns2, nsf⟩ := hCT.2.2.2.1.three
        obtain ⟨nr0, nr1, nr2, nrf⟩ := hCT.2.2.2.2.1.three
        obtain ⟨nt0, nt1, nt2, ntf⟩ := hCT.2.2.2.2.2.1.three
        obtain ⟨nu0, nu1, nu2, nuf⟩ := hCT.2.2.2.2.2.2.1.three
        go_simp
        refine (RRight_any _ a b c).mono ?_
        rintro e w1 ⟨rfl, hb⟩
        rw [← HBR.out]
        exact hK _ _ hb (fun _ => rfl)
      · intro act wa hC hd H O K hK
        clear hd
        obtain ⟨hCT, hRL⟩ := hC
        have h119 : act.tmps.getD 119 undef = .bool br := H 1 35 119 (by kernel_rfl) rfl
        have g119 := Array.getD_eq_getD_getElem?.symm.trans h119
        have h121 : act.tmps.getD 121 undef = .bool br := H 1 37 121 (by kernel_rfl) rfl
        have g121 := Array.getD_eq_getD_getElem?.symm.trans h121
        have h117 : act.tmps.getD 117 undef = .bool true := H 1 33 117 (by kernel_rfl) rfl
        have g117 := Array.getD_eq_getD_getElem?.symm.trans h117
        have k117 := Inv.some_bool g117
        clear H O
        obtain ⟨na0, na1, na2, naf⟩ := hCT.2.1.three
        obtain ⟨nx0, nx1, nx2, nxf⟩ := hCT.2.2.1.three
        obtain ⟨ns0, ns1, ns2, nsf⟩ := hCT.2.2.2.1.three
        obtain ⟨nr0, nr1, nr2, nrf⟩ := hCT.2.2.2.2.1.three
        obtain ⟨nt0, nt1, nt2, ntf⟩ := hCT.2.2.2.2.2.1.three
        obtain ⟨nu0, nu1, nu2, nuf⟩ := hCT.2.2.2.2.2.2.1.three
        cases br
        all_goals go_simp
        all_goals exact hK _ _ (Below.refl _ _) (fun _ => rfl)
        all_goals done
      · intro act wa hC hd H O K hK
        clear hd
        obtain ⟨hCT, hRL⟩ := hC
        have h117 : act.tmps.getD 117 undef = .bool true := H 1 33 117 (by kernel_rfl) rfl
        have g117 := Array.getD_eq_getD_getElem?.symm.trans h117
        have h122 : act.tmps.getD 122 undef = .bool true := H 1 38 122 (by kernel_rfl) rfl
        have g122 := Array.getD_eq_getD_getElem?.symm.trans h122
        clear H O
        obtain ⟨na0, na1, na2, naf⟩ := hCT.2.1.three
        obtain ⟨nx0, nx1, nx2, nxf⟩ := hCT.2.2.1.three
        obtain ⟨ns0, ns1, ns2, nsf⟩ := hCT.2.2.2.1.three
        obtain ⟨nr0, nr1, nr2, nrf⟩ := hCT.2.2.2.2.1.three
        obtain ⟨nt0, nt1, nt2, ntf⟩ := hCT.2.2.2.2.2.1.three
        obtain ⟨nu0, nu1, nu2, nuf⟩ := hCT.2.2.2.2.2.2.1.three
        go_simp
        exact hK _ _ (Below.refl _ _) (fun _ => rfl)
      · intro act wa hC hd H O K hK
        clear hd
        obtain ⟨hCT, hRL⟩ := hC
        have h123 : act.tmps.getD 123 undef = .bool true := H 1 39 123 (by kernel_rfl) rfl
        have g123 := Array.getD_eq_getD_getElem?.symm.trans h123
        clear H O
        obtain ⟨na0, na1, na2, naf⟩ := hCT.2.1.three
        obtain ⟨nx0, nx1, nx2, nxf⟩ := hCT.2.2.1.three
        obtain ⟨ns0, ns1, ns2, nsf⟩ := hCT.2.2.2.1.three
        obtain ⟨nr0, nr1, nr2, nrf⟩ := hCT.2.2.2.2.1.three
        obtain ⟨nt0, nt1, nt2, ntf⟩ := hCT.2.2.2.2.2.1.three
        obtain ⟨nu0, nu1, nu2, nuf⟩ := hCT.2.2.2.2.2.2.1.three
        go_simp
        exact hK _ _ (Below.refl _ _) (fun _ => rfl)
      · intro act wa hC hd H O K hK
        clear hd
        obtain ⟨hCT, hRL⟩ := hC
        have h5 := O 5 (by kernel_rfl)
        have g5 := Array.getD_eq_getD_getElem?.symm.trans h5
        have h124 : act.tmps.getD 124 undef = .bool true := H 1 40 124 (by kernel_rfl) rfl
        have g124 := Array.getD_eq_getD_getElem?.symm.trans h124
        have k124 := Inv.some_bool g124
        clear H O
        obtain ⟨na0, na1, na2, naf⟩ := hCT.2.1.three
        obtain ⟨nx0, nx1, nx2, nxf⟩ := hCT.2.2.1.three
        obtain ⟨ns0, ns1, ns2, nsf⟩ := hCT.2.2.2.1.three
        obtain ⟨nr0, nr1, nr2, nrf⟩ := hCT.2.2.2.2.1.three
        obtain ⟨nt0, nt1, nt2, ntf⟩ := hCT.2.2.2.2.2.1.three
        obtain ⟨nu0, nu1, nu2, nuf⟩ := hCT.2.2.2.2.2.2.1.three
        go_simp
        exact hK _ _ (Below.refl _ _) (fun _ => rfl)
      · intro act wa hC hd H O K hK
        clear hd
        obtain ⟨hCT, hRL⟩ := hC
        have h6 := O 6 (by kernel_rfl)
        have g6 := Array.getD_eq_getD_getElem?.symm.trans h6
        have h124 : act.tmps.getD 124 undef = .bool true := H 1 40 124 (by kernel_rfl) rfl
        have g124 := Array.getD_eq_getD_getElem?.symm.trans h124
        have k124 := Inv.some_bool g124
        clear H O
        obtain ⟨na0, na1, na2, naf⟩ := hCT.2.1.three
        obtain ⟨nx0, nx1, nx2, nxf⟩ := hCT.2.2.1.three
        obtain ⟨ns0, ns1, ns2, nsf⟩ := hCT.2.2.2.1.three
        obtain ⟨nr0, nr1, nr2, nrf⟩ := hCT.2.2.2.2.1.three
        obtain ⟨nt0, nt1, nt2, ntf⟩ := hCT.2.2.2.2.2.1.three
        obtain ⟨nu0, nu1, nu2, nuf⟩ := hCT.2.2.2.2.2.2.1.three
        go_simp
        exact hK _ _ (Below.refl _ _) (fun _ => rfl)
      · intro act wa hC hd H O K hK
        clear hd
        obtain ⟨hCT, hRL⟩ := hC
        have h125 : act.tmps.getD 125 undef = .agg #[.int .i64 a, .int .i64 b, .int .i64 c] := H 1 41 125 (by kernel_rfl) rfl
        have g125 := Array.getD_eq_getD_getElem?.symm.trans h125
        have h126 : act.tmps.getD 126 undef = .agg #[.int .i64 x, .int .i64 y, .int .i64 z] := H 1 42 126 (by kernel_rfl) rfl
        have g126 := Array.getD_eq_getD_getElem?.symm.trans h126
        have h124 : act.tmps.getD 124 undef = .bool true := H 1 40 124 (by kernel_rfl) rfl
        have g124 := Array.getD_eq_getD_getElem?.symm.trans h124
        have k124 := Inv.some_bool g124
        clear H O
        obtain ⟨na0, na1, na2, naf⟩ := hCT.2.1.three
        obtain ⟨nx0, nx1, nx2, nxf⟩ := hCT.2.2.1.three
        obtain ⟨ns0, ns1, ns2, nsf⟩ := hCT.2.2.2.1.three
        obtain ⟨nr0, nr1, nr2, nrf⟩ := hCT.2.2.2.2.1.three
        obtain ⟨nt0, nt1, nt2, ntf⟩ := hCT.2.2.2.2.2.1.three
        obtain ⟨nu0, nu1, nu2, nuf⟩ := hCT.2.2.2.2.2.2.1.three
        go_simp
        refine (Covers_any _ a b c x y z).mono ?_
        rintro e w1 ⟨rfl, hb⟩
        rw [HCABX.out]
        exact hK _ _ hb (fun _ => rfl)
      · intro act wa hC hd H O K hK
        clear hd
        obtain ⟨hCT, hRL⟩ := hC
        have h5 := O 5 (by kernel_rfl)
        have g5 := Array.getD_eq_getD_getElem?.symm.trans h5
        have h124 : act.tmps.getD 124 undef = .bool true := H 1 40 124 (by kernel_rfl) rfl
        have g124 := Array.getD_eq_getD_getElem?.symm.trans h124
        have k124 := Inv.some_bool g124
        clear H O
        obtain ⟨na0, na1, na2, naf⟩ := hCT.2.1.three
        obtain ⟨nx0, nx1, nx2, nxf⟩ := hCT.2.2.1.three
        obtain ⟨ns0, ns1, ns2, nsf⟩ := hCT.2.2.2.1.three
        obtain ⟨nr0, nr1, nr2, nrf⟩ := hCT.2.2.2.2.1.three
        obtain ⟨nt0, nt1, nt2, ntf⟩ := hCT.2.2.2.2.2.1.three
        obtain ⟨nu0, nu1, nu2, nuf⟩ := hCT.2.2.2.2.2.2.1.three
        go_simp
        exact hK _ _ (Below.refl _ _) (fun _ => rfl)
      · intro act wa hC hd H O K hK
        clear hd
        obtain ⟨hCT, hRL⟩ := hC
        have h6 := O 6 (by kernel_rfl)
        have g6 := Array.getD_eq_getD_getElem?.symm.trans h6
        have h124 : act.tmps.getD 124 undef = .bool true := H 1 40 124 (by kernel_rfl) rfl
        have g124 := Array.getD_eq_getD_getElem?.symm.trans h124
        have k124 := Inv.some_bool g124
        clear H O
        obtain ⟨na0, na1, na2, naf⟩ := hCT.2.1.three
        obtain ⟨nx0, nx1, nx2, nxf⟩ := hCT.2.2.1.three
        obtain ⟨ns0, ns1, ns2, nsf⟩ := hCT.2.2.2.1.three
        obtain ⟨nr0, nr1, nr2, nrf⟩ := hCT.2.2.2.2.1.three
        obtain ⟨nt0, nt1, nt2, ntf⟩ := hCT.2.2.2.2.2.1.three
        obtain ⟨nu0, nu1, nu2, nuf⟩ := hCT.2.2.2.2.2.2.1.three
        go_simp
        exact hK _ _ (Below.refl _ _) (fun _ => rfl)
      · intro act wa hC hd H O K hK
        clear hd
        obtain ⟨hCT, hRL⟩ := hC
        have h128 : act.tmps.getD 128 undef = .agg #[.int .i64 a, .int .i64 b, .int .i64 c] := H 1 44 128 (by kernel_rfl) rfl
        have g128 := Array.getD_eq_getD_getElem?.symm.trans h128
        have h129 : act.tmps.getD 129 undef = .agg #[.int .i64 x, .int .i64 y, .int .i64 z] := H 1 45 129 (by kernel_rfl) rfl
        have g129 := Array.getD_eq_getD_getElem?.symm.trans h129
        have h124 : act.tmps.getD 124 undef = .bool true := H 1 40 124 (by kernel_rfl) rfl
        have g124 := Array.getD_eq_getD_getElem?.symm.trans h124
        have k124 := Inv.some_bool g124
        clear H O
        obtain ⟨na0, na1, na2, naf⟩ := hCT.2.1.three
        obtain ⟨nx0, nx1, nx2, nxf⟩ := hCT.2.2.1.three
        obtain ⟨ns0, ns1, ns2, nsf⟩ := hCT.2.2.2.1.three
        obtain ⟨nr0, nr1, nr2, nrf⟩ := hCT.2.2.2.2.1.three
        obtain ⟨nt0, nt1, nt2, ntf⟩ := hCT.2.2.2.2.2.1.three
        obtain ⟨nu0, nu1, nu2, nuf⟩ := hCT.2.2.2.2.2.2.1.three
        go_simp
        refine (RCovers_any _ a b c x y z).mono ?_
        rintro e w1 ⟨rfl, hb⟩
        rw [HCABX.out]
        exact hK _ _ hb (fun _ => rfl)
      · intro act wa hC hd H O K hK
        clear hd
        obtain ⟨hCT, hRL⟩ := hC
        have h127 : act.tmps.getD 127 undef = .bool true := H 1 43 127 (by kernel_rfl) rfl
        have g127 := Array.getD_eq_getD_getElem?.symm.trans h127
        have h130 : act.tmps.getD 130 undef = .bool true := H 1 46 130 (by kernel_rfl) rfl
        have g130 := Array.getD_eq_getD_getElem?.symm.trans h130
        have h124 : act.tmps.getD 124 undef = .bool true := H 1 40 124 (by kernel_rfl) rfl
        have g124 := Array.getD_eq_getD_getElem?.symm.trans h124
        have k124 := Inv.some_bool g124
        clear H O
        obtain ⟨na0, na1, na2, naf⟩ := hCT.2.1.three
        obtain ⟨nx0, nx1, nx2, nxf⟩ := hCT.2.2.1.three
        obtain ⟨ns0, ns1, ns2, nsf⟩ := hCT.2.2.2.1.three
        obtain ⟨nr0, nr1, nr2, nrf⟩ := hCT.2.2.2.2.1.three
        obtain ⟨nt0, nt1, nt2, ntf⟩ := hCT.2.2.2.2.2.1.three
        obtain ⟨nu0, nu1, nu2, nuf⟩ := hCT.2.2.2.2.2.2.1.three
        go_simp
        exact hK _ _ (Below.refl _ _) (fun _ => rfl)
      · intro act wa hC hd H O K hK
        clear hd
        obtain ⟨hCT, hRL⟩ := hC
        have h124 : act.tmps.getD 124 undef = .bool true := H 1 40 124 (by kernel_rfl) rfl
        have g124 := Array.getD_eq_getD_getElem?.symm.trans h124
        have h131 : act.tmps.getD 131 undef = .bool true := H 1 47 131 (by kernel_rfl) rfl
        have g131 := Array.getD_eq_getD_getElem?.symm.trans h131
        clear H O
        obtain ⟨na0, na1, na2, naf⟩ := hCT.2.1.three
        obtain ⟨nx0, nx1, nx2, nxf⟩ := hCT.2.2.1.three
        obtain ⟨ns0, ns1, ns2, nsf⟩ := hCT.2.2.2.1.three
        obtain ⟨nr0, nr1, nr2, nrf⟩ := hCT.2.2.2.2.1.three
        obtain ⟨nt0, nt1, nt2, ntf⟩ := hCT.2.2.2.2.2.1.three
        obtain ⟨nu0, nu1, nu2, nuf⟩ := hCT.2.2.2.2.2.2.1.three
        go_simp
        exact hK _ _ (Below.refl _ _) (fun _ => rfl)
      · intro act wa hC hd H O K hK
        clear hd
        obtain ⟨hCT, hRL⟩ := hC
        have h132 : act.tmps.getD 132 undef = .bool true := H 1 48 132 (by kernel_rfl) rfl
        have g132 := Array.getD_eq_getD_getElem?.symm.trans h132
        clear H O
        obtain ⟨na0, na1, na2, naf⟩ := hCT.2.1.three
        obtain ⟨nx0, nx1, nx2, nxf⟩ := hCT.2.2.1.three
        obtain ⟨ns0, ns1, ns2, nsf⟩ := hCT.2.2.2.1.three
        obtain ⟨nr0, nr1, nr2, nrf⟩ := hCT.2.2.2.2.1.three
        obtain ⟨nt0, nt1, nt2, ntf⟩ := hCT.2.2.2.2.2.1.three
        obtain ⟨nu0, nu1, nu2, nuf⟩ := hCT.2.2.2.2.2.2.1.three
        go_simp
        exact hK _ _ (Below.refl _ _) (fun _ => rfl)
      · intro act wa hC hd H O K hK
        clear hd
        obtain ⟨hCT, hRL⟩ := hC
        have h5 := O 5 (by kernel_rfl)
        have g5 := Array.getD_eq_getD_getElem?.symm.trans h5
        have h133 : act.tmps.getD 133 undef = .bool true := H 1 49 133 (by kernel_rfl) rfl
        have g133 := Array.getD_eq_getD_getElem?.symm.trans h133
        have k133 := Inv.some_bool g133
        clear H O
        obtain ⟨na0, na1, na2, naf⟩ := hCT.2.1.three
        obtain ⟨nx0, nx1, nx2, nxf⟩ := hCT.2.2.1.three
        obtain ⟨ns0, ns1, ns2, nsf⟩ := hCT.2.2.2.1.three
        obtain ⟨nr0, nr1, nr2, nrf⟩ := hCT.2.2.2.2.1.three
        obtain ⟨nt0, nt1, nt2, ntf⟩ := hCT.2.2.2.2.2.1.three
        obtain ⟨nu0, nu1, nu2, nuf⟩ := hCT.2.2.2.2.2.2.1.three
        go_simp
        exact hK _ _ (Below.refl _ _) (fun _ => rfl)
      · intro act wa hC hd H O K hK
        clear hd
        obtain ⟨hCT, hRL⟩ := hC
        have h6 := O 6 (by kernel_rfl)
        have g6 := Array.getD_eq_getD_getElem?.symm.trans h6
        have h133 : act.tmps.getD 133 undef = .bool true := H 1 49 133 (by kernel_rfl) rfl
        have g133 := Array.getD_eq_getD_getElem?.symm.trans h133
        have k133 := Inv.some_bool g133
        clear H O
        obtain ⟨na0, na1, na2, naf⟩ := hCT.2.1.three
        obtain ⟨nx0, nx1, nx2, nxf⟩ := hCT.2.2.1.three
        obtain ⟨ns0, ns1, ns2, nsf⟩ := hCT.2.2.2.1.three
        obtain ⟨nr0, nr1, nr2, nrf⟩ := hCT.2.2.2.2.1.three
        obtain ⟨nt0, nt1, nt2, ntf⟩ := hCT.2.2.2.2.2.1.three
        obtain ⟨nu0, nu1, nu2, nuf⟩ := hCT.2.2.2.2.2.2.1.three
        go_simp
        exact hK _ _ (Below.refl _ _) (fun _ => rfl)
      · intro act wa hC hd H O K hK
        clear hd
        obtain ⟨hCT, hRL⟩ := hC
        have h134 : act.tmps.getD 134 undef = .agg #[.int .i64 a, .int .i64 b, .int .i64 c] := H 1 50 134 (by kernel_rfl) rfl
        have g134 := Array.getD_eq_getD_getElem?.symm.trans h134
        have h135 : act.tmps.getD 135 undef = .agg #[.int .i64 x, .int .i64 y, .int .i64 z] := H 1 51 135 (by kernel_rfl) rfl
        have g135 := Array.getD_eq_getD_getElem?.symm.trans h135
        have h133 : act.tmps.getD 133 undef = .bool true := H 1 49 133 (by kernel_rfl) rfl
        have g133 := Array.getD_eq_getD_getElem?.symm.trans h133
        have k133 := Inv.some_bool g133
        clear H O
        obtain ⟨na0, na1, na2, naf⟩ := hCT.2.1.three
        obtain ⟨nx0, nx1, nx2, nxf⟩ := hCT.2.2.1.three
        obtain ⟨ns0, ns1, ns2, nsf⟩ := hCT.2.2.2.1.three
        obtain ⟨nr0, nr1, nr2, nrf⟩ := hCT.2.2.2.2.1.three
        obtain ⟨nt0, nt1, nt2, ntf⟩ := hCT.2.2.2.2.2.1.three
        obtain ⟨nu0, nu1, nu2, nuf⟩ := hCT.2.2.2.2.2.2.1.three
        go_simp
        refine (Beside_any _ a b c x y z).mono ?_
        rintro e w1 ⟨rfl, hb⟩
        rw [besB_t HCABX.out]
        exact hK _ _ hb (fun _ => rfl)
      · intro act wa hC hd H O K hK
        clear hd
        obtain ⟨hCT, hRL⟩ := hC
        have h25 := O 25 (by kernel_rfl)
        have g25 := Array.getD_eq_getD_getElem?.symm.trans h25
        have h133 : act.tmps.getD 133 undef = .bool true := H 1 49 133 (by kernel_rfl) rfl
        have g133 := Array.getD_eq_getD_getElem?.symm.trans h133
        have k133 := Inv.some_bool g133
        clear H O
        obtain ⟨na0, na1, na2, naf⟩ := hCT.2.1.three
        obtain ⟨nx0, nx1, nx2, nxf⟩ := hCT.2.2.1.three
        obtain ⟨ns0, ns1, ns2, nsf⟩ := hCT.2.2.2.1.three
        obtain ⟨nr0, nr1, nr2, nrf⟩ := hCT.2.2.2.2.1.three
        obtain ⟨nt0, nt1, nt2, ntf⟩ := hCT.2.2.2.2.2.1.three
        obtain ⟨nu0, nu1, nu2, nuf⟩ := hCT.2.2.2.2.2.2.1.three
        go_simp
        exact hK _ _ (Below.refl _ _) (fun _ => rfl)
      · intro act wa hC hd H O K hK
        clear hd
        obtain ⟨hCT, hRL⟩ := hC
        have h136 : act.tmps.getD 136 undef = .bool false := H 1 52 136 (by kernel_rfl) rfl
        have g136 := Array.getD_eq_getD_getElem?.symm.trans h136
        have h137 : act.tmps.getD 137 undef = .bool false := H 1 53 137 (by kernel_rfl) rfl
        have g137 := Array.getD_eq_getD_getElem?.symm.trans h137
        have h133 : act.tmps.getD 133 undef = .bool true := H 1 49 133 (by kernel_rfl) rfl
        have g133 := Array.getD_eq_getD_getElem?.symm.trans h133
        have k133 := Inv.some_bool g133
        clear H O
        obtain ⟨na0, na1, na2, naf⟩ := hCT.2.1.three
        obtain ⟨nx0, nx1, nx2, nxf⟩ := hCT.2.2.1.three
        obtain ⟨ns0, ns1, ns2, nsf⟩ := hCT.2.2.2.1.three
        obtain ⟨nr0, nr1, nr2, nrf⟩ := hCT.2.2.2.2.1.three
        obtain ⟨nt0, nt1, nt2, ntf⟩ := hCT.2.2.2.2.2.1.three
        obtain ⟨nu0, nu1, nu2, nuf⟩ := hCT.2.2.2.2.2.2.1.three
        go_simp
        exact hK _ _ (Below.refl _ _) (fun _ => rfl)
      · intro act wa hC hd H O K hK
        clear hd
        obtain ⟨hCT, hRL⟩ := hC
        have h133 : act.tmps.getD 133 undef = .bool true := H 1 49 133 (by kernel_rfl) rfl
        have g133 := Array.getD_eq_getD_getElem?.symm.trans h133
        have h138 : act.tmps.getD 138 undef = .bool true := H 1 54 138 (by kernel_rfl) rfl
        have g138 := Array.getD_eq_getD_getElem?.symm.trans h138
        clear H O
        obtain ⟨na0, na1, na2, naf⟩ := hCT.2.1.three
        obtain ⟨nx0, nx1, nx2, nxf⟩ := hCT.2.2.1.three
        obtain ⟨ns0, ns1, ns2, nsf⟩ := hCT.2.2.2.1.three
        obtain ⟨nr0, nr1, nr2, nrf⟩ := hCT.2.2.2.2.1.three
        obtain ⟨nt0, nt1, nt2, ntf⟩ := hCT.2.2.2.2.2.1.three
        obtain ⟨nu0, nu1, nu2, nuf⟩ := hCT.2.2.2.2.2.2.1.three
        go_simp
        exact hK _ _ (Below.refl _ _) (fun _ => rfl)
      · intro act wa hC hd H O K hK
        clear hd
        obtain ⟨hCT, hRL⟩ := hC
        have h139 : act.tmps.getD 139 undef = .bool true := H 1 55 139 (by kernel_rfl) rfl
        have g139 := Array.getD_eq_getD_getElem?.symm.trans h139
        clear H O
        obtain ⟨na0, na1, na2, naf⟩ := hCT.2.1.three
        obtain ⟨nx0, nx1, nx2, nxf⟩ := hCT.2.2.1.three
        obtain ⟨ns0, ns1, ns2, nsf⟩ := hCT.2.2.2.1.three
        obtain ⟨nr0, nr1, nr2, nrf⟩ := hCT.2.2.2.2.1.three
        obtain ⟨nt0, nt1, nt2, ntf⟩ := hCT.2.2.2.2.2.1.three
        obtain ⟨nu0, nu1, nu2, nuf⟩ := hCT.2.2.2.2.2.2.1.three
        go_simp
        exact hK _ _ (Below.refl _ _) (fun _ => rfl)
      · intro act wa hC hd H O K hK
        clear hd
        obtain ⟨hCT, hRL⟩ := hC
        have h2 := O 2 (by kernel_rfl)
        have g2 := Array.getD_eq_getD_getElem?.symm.trans h2
        have h140 : act.tmps.getD 140 undef = .bool true := H 1 56 140 (by kernel_rfl) rfl
        have g140 := Array.getD_eq_getD_getElem?.symm.trans h140
        have k140 := Inv.some_bool g140
        clear H O
        obtain ⟨na0, na1, na2, naf⟩ := hCT.2.1.three
        obtain ⟨nx0, nx1, nx2, nxf⟩ := hCT.2.2.1.three
        obtain ⟨ns0, ns1, ns2, nsf⟩ := hCT.2.2.2.1.three
        obtain ⟨nr0, nr1, nr2, nrf⟩ := hCT.2.2.2.2.1.three
        obtain ⟨nt0, nt1, nt2, ntf⟩ := hCT.2.2.2.2.2.1.three
        obtain ⟨nu0, nu1, nu2, nuf⟩ := hCT.2.2.2.2.2.2.1.three
        go_simp
        exact hK _ _ (Below.refl _ _) (fun _ => rfl)
      · intro act wa hC hd H O K hK
        clear hd
        obtain ⟨hCT, hRL⟩ := hC
        have h141 : act.tmps.getD 141 undef = .slice Al cs.length cl := H 1 57 141 (by kernel_rfl) rfl
        have g141 := Array.getD_eq_getD_getElem?.symm.trans h141
        have h140 : act.tmps.getD 140 undef = .bool true := H 1 56 140 (by kernel_rfl) rfl
        have g140 := Array.getD_eq_getD_getElem?.symm.trans h140
        have k140 := Inv.some_bool g140
        clear H O
        obtain ⟨na0, na1, na2, naf⟩ := hCT.2.1.three
        obtain ⟨nx0, nx1, nx2, nxf⟩ := hCT.2.2.1.three
        obtain ⟨ns0, ns1, ns2, nsf⟩ := hCT.2.2.2.1.three
        obtain ⟨nr0, nr1, nr2, nrf⟩ := hCT.2.2.2.2.1.three
        obtain ⟨nt0, nt1, nt2, ntf⟩ := hCT.2.2.2.2.2.1.three
        obtain ⟨nu0, nu1, nu2, nuf⟩ := hCT.2.2.2.2.2.2.1.three
        go_simp
        refine (Merge_any wa Al cl w.heap.size cs hRL hCT.1.size hlc hcm).mono ?_
        intro e w1 hm
        obtain ⟨rfl, hb⟩ := hm
        rw [HMG.out]
        exact hK _ _ hb (fun _ => rfl)
      · intro act wa hC hd H O K hK
        clear hd
        obtain ⟨hCT, hRL⟩ := hC
        have h2 := O 2 (by kernel_rfl)
        have g2 := Array.getD_eq_getD_getElem?.symm.trans h2
        have h140 : act.tmps.getD 140 undef = .bool true := H 1 56 140 (by kernel_rfl) rfl
        have g140 := Array.getD_eq_getD_getElem?.symm.trans h140
        have k140 := Inv.some_bool g140
        clear H O
        obtain ⟨na0, na1, na2, naf⟩ := hCT.2.1.three
        obtain ⟨nx0, nx1, nx2, nxf⟩ := hCT.2.2.1.three
        obtain ⟨ns0, ns1, ns2, nsf⟩ := hCT.2.2.2.1.three
        obtain ⟨nr0, nr1, nr2, nrf⟩ := hCT.2.2.2.2.1.three
        obtain ⟨nt0, nt1, nt2, ntf⟩ := hCT.2.2.2.2.2.1.three
        obtain ⟨nu0, nu1, nu2, nuf⟩ := hCT.2.2.2.2.2.2.1.three
        go_simp
        exact hK _ _ (Below.refl _ _) (fun _ => rfl)
      · intro act wa hC hd H O K hK
        clear hd
        obtain ⟨hCT, hRL⟩ := hC
        have h143 : act.tmps.getD 143 undef = .slice Al cs.length cl := H 1 59 143 (by kernel_rfl) rfl
        have g143 := Array.getD_eq_getD_getElem?.symm.trans h143
        have h140 : act.tmps.getD 140 undef = .bool true := H 1 56 140 (by kernel_rfl) rfl
        have g140 := Array.getD_eq_getD_getElem?.symm.trans h140
        have k140 := Inv.some_bool g140
        clear H O
        obtain ⟨na0, na1, na2, naf⟩ := hCT.2.1.three
        obtain ⟨nx0, nx1, nx2, nxf⟩ := hCT.2.2.1.three
        obtain ⟨ns0, ns1, ns2, nsf⟩ := hCT.2.2.2.1.three
        obtain ⟨nr0, nr1, nr2, nrf⟩ := hCT.2.2.2.2.1.three
        obtain ⟨nt0, nt1, nt2, ntf⟩ := hCT.2.2.2.2.2.1.three
        obtain ⟨nu0, nu1, nu2, nuf⟩ := hCT.2.2.2.2.2.2.1.three
        go_simp
        refine (RMerge_any wa Al cl w.heap.size cs hRL hCT.1.size hlc hcm).mono ?_
        intro e w1 hm
        obtain ⟨rfl, hb⟩ := hm
        rw [HMG.out]
        exact hK _ _ hb (fun _ => rfl)
      · intro act wa hC hd H O K hK
        clear hd
        obtain ⟨hCT, hRL⟩ := hC
        have h142 : act.tmps.getD 142 undef = .agg #[.int .i64 m1, .int .i64 m2, .int .i64 m3] := H 1 58 142 (by kernel_rfl) rfl
        have g142 := Array.getD_eq_getD_getElem?.symm.trans h142
        have h144 : act.tmps.getD 144 undef = .agg #[.int .i64 m1, .int .i64 m2, .int .i64 m3] := H 1 60 144 (by kernel_rfl) rfl
        have g144 := Array.getD_eq_getD_getElem?.symm.trans h144
        have h140 : act.tmps.getD 140 undef = .bool true := H 1 56 140 (by kernel_rfl) rfl
        have g140 := Array.getD_eq_getD_getElem?.symm.trans h140
        have k140 := Inv.some_bool g140
        clear H O
        obtain ⟨na0, na1, na2, naf⟩ := hCT.2.1.three
        obtain ⟨nx0, nx1, nx2, nxf⟩ := hCT.2.2.1.three
        obtain ⟨ns0, ns1, ns2, nsf⟩ := hCT.2.2.2.1.three
        obtain ⟨nr0, nr1, nr2, nrf⟩ := hCT.2.2.2.2.1.three
        obtain ⟨nt0, nt1, nt2, ntf⟩ := hCT.2.2.2.2.2.1.three
        obtain ⟨nu0, nu1, nu2, nuf⟩ := hCT.2.2.2.2.2.2.1.three
        have qq := eqc_in m1 m2 m3 m1 m2 m3 wa
        rw [eqcB_of rfl rfl rfl] at qq
        go_simp
        exact hK _ _ (Below.refl _ _) (fun _ => rfl)
      · intro act wa hC hd H O K hK
        clear hd
        obtain ⟨hCT, hRL⟩ := hC
        have h140 : act.tmps.getD 140 undef = .bool true := H 1 56 140 (by kernel_rfl) rfl
        have g140 := Array.getD_eq_getD_getElem?.symm.trans h140
        have h145 : act.tmps.getD 145 undef = .bool true := H 1 61 145 (by kernel_rfl) rfl
        have g145 := Array.getD_eq_getD_getElem?.symm.trans h145
        clear H O
        obtain ⟨na0, na1, na2, naf⟩ := hCT.2.1.three
        obtain ⟨nx0, nx1, nx2, nxf⟩ := hCT.2.2.1.three
        obtain ⟨ns0, ns1, ns2, nsf⟩ := hCT.2.2.2.1.three
        obtain ⟨nr0, nr1, nr2, nrf⟩ := hCT.2.2.2.2.1.three
        obtain ⟨nt0, nt1, nt2, ntf⟩ := hCT.2.2.2.2.2.1.three
        obtain ⟨nu0, nu1, nu2, nuf⟩ := hCT.2.2.2.2.2.2.1.three
        go_simp
        exact hK _ _ (Below.refl _ _) (fun _ => rfl)
      · intro act wa hC hd H O K hK
        clear hd
        obtain ⟨hCT, hRL⟩ := hC
        have h146 : act.tmps.getD 146 undef = .bool true := H 1 62 146 (by kernel_rfl) rfl
        have g146 := Array.getD_eq_getD_getElem?.symm.trans h146
        clear H O
        obtain ⟨na0, na1, na2, naf⟩ := hCT.2.1.three
        obtain ⟨nx0, nx1, nx2, nxf⟩ := hCT.2.2.1.three
        obtain ⟨ns0, ns1, ns2, nsf⟩ := hCT.2.2.2.1.three
        obtain ⟨nr0, nr1, nr2, nrf⟩ := hCT.2.2.2.2.1.three
        obtain ⟨nt0, nt1, nt2, ntf⟩ := hCT.2.2.2.2.2.1.three
        obtain ⟨nu0, nu1, nu2, nuf⟩ := hCT.2.2.2.2.2.2.1.three
        go_simp
        exact hK _ _ (Below.refl _ _) (fun _ => rfl)
    · intro us w' hC hF
      obtain ⟨hCT, hRL⟩ := hC
      have u10 : us 10 = .bool true := hF 63 10 rfl
      clear hF
      simp only [List.foldl]
      go_simp
      go_wp2
      go_ret
      exact ⟨by first | rfl | rw [u10], hCT.1⟩
end Go.Proofs.Ytignfhdblakcfaa
