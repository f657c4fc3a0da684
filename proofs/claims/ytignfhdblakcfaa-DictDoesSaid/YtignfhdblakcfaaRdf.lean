/- packetboatref05.Dict: comes, where eight keys are known. -/
import Derived.Test.YtignfhdblakcfaaRdc
import Derived.StillTailTactics
import Derived.Deep.Cut
namespace Go.Proofs.Ytignfhdblakcfaa
open Go.ChangeShapes Go.WideShapes Go.ChangeAt Go.RowKit Go.Maps
set_option linter.unusedVariables false
set_option linter.unusedSimpArgs false

theorem own_some {w : World} {B n c : Nat} {e : TypeId} {A : Option Addr} {xs : List Value} (h : w.ownsRow B e 1 (.slice A n c) n xs) (hn : 0 < n) : ∃ r, A = some ⟨r, 0, none⟩ ∧ B ≤ r := by
  rcases h.2 with ⟨hv, _⟩ | ⟨g, cap, cur, hv, hb, _⟩
  · injection hv with _ h2 _; omega
  · injection hv with h1 _ _; exact ⟨g, h1, hb⟩
/-- what the loop leaves as it was -/
def RW (w : World) (g : Nat) (A : Option Addr) (c : Nat) (ks : List ByteArray) (A2 : Option Addr) (c2 : Nat) (ws : List Nat) (nv : Value) (wr : World) : Prop :=
  Blk wr g 50 #[.slice A 8 c, .slice A2 8 c2, nv] ∧ wr.ownsRow 0 9 1 (.slice A 8 c) 8 (ks.map .string) ∧ wr.ownsRow 0 3 1 (.slice A2 8 c2) 8 (i64s ws) ∧ Only (fun j => j = g) w wr
def MinR (ws : List Nat) (s4 s5 : Value) : Prop := ∃ f j : Nat, s4 = .int .i64 (f : Int) ∧ s5 = .int .i64 (j : Int) ∧ 1 ≤ j ∧ j ≤ 8 ∧ f < j ∧ ∀ a, a < j → ws[f]?.getD 0 ≤ ws[a]?.getD 0
theorem MinR.step {ws : List Nat} {f j : Nat} (h1 : 1 ≤ j) (hj : j < 8) (hf : f < j) (h : Hid (∀ a, a < j → ws[f]?.getD 0 ≤ ws[a]?.getD 0)) : (ws[j]?.getD 0 < ws[f]?.getD 0 → MinR ws (.int .i64 (j : Int)) (.int .i64 ((j : Int) + 1))) ∧ (¬ ws[j]?.getD 0 < ws[f]?.getD 0 → MinR ws (.int .i64 (f : Int)) (.int .i64 ((j : Int) + 1))) := by
  refine ⟨fun hlt => ⟨j, j + 1, rfl, by go_num, by omega, by omega, by omega, fun a ha => ?_⟩, fun hge => ⟨f, j + 1, rfl, by go_num, by omega, by omega, by omega, fun a ha => ?_⟩⟩
  · by_cases e : a = j
    · rw [e]; exact Nat.le_refl _
    · have := h.out a (by omega); omega
  · by_cases e : a = j
    · rw [e]; omega
    · exact h.out a (by omega)
theorem rcome_turn {w wr w2 W3 w4 W5 : World} {g f now : Nat} {U : Nat → Prop} {A A2 : Option Addr} {c c2 r3 c3 r5 c5 : Nat} {ks : List ByteArray} {ws : List Nat} {k : ByteArray} (hn : ks.length = 8) (hn2 : ws.length = 8) (hf : f < 8)
    (hU : ∀ j, U j ↔ (j = g ∨ (Value.slice A 8 c).ownBlock = some j ∨ (Value.slice A2 8 c2).ownBlock = some j)) (hO : Only (fun j => j = g) w wr) (hg : g < wr.heap.size)
    (hb2 : Below wr.heap.size wr w2) (ho2 : w2.ownsRow wr.heap.size 9 1 (.slice (some ⟨r3, 0, none⟩) 8 c3) 8 (ks.map .string)) (hW3 : w2.setCell ⟨g, 0, none⟩ (.slice (some ⟨r3, 0, none⟩) 8 c3) = W3)
    (hb4 : Below W3.heap.size W3 w4) (ho4 : w4.ownsRow W3.heap.size 3 1 (.slice (some ⟨r5, 0, none⟩) 8 c5) 8 (i64s ws)) (hW5 : w4.setCell ⟨g, 1, none⟩ (.slice (some ⟨r5, 0, none⟩) 8 c5) = W5)
    (hk5 : Blk W5 g 50 #[.slice (some ⟨r3, 0, none⟩) 8 c3, .slice (some ⟨r5, 0, none⟩) 8 c5, .int .i64 ((now : Int) + 1)]) :
    RComePost w g U (ks.set f k) (ws.set f (now + 1)) (now + 1) (.returned (.tuple #[])) (((W5.setCell ⟨r3, f, none⟩ (.string k)).drew).setCell ⟨r5, f, none⟩ (.int .i64 ((now : Int) + 1))) := by
  have hs3 : W3.heap.size = w2.heap.size := by rw [← hW3]; simp [World.setCell]
  have hs5 : W5.heap.size = w4.heap.size := by rw [← hW5]; simp [World.setCell]
  have hr3 := ho2.lt r3 rfl
  have hr5 := ho4.lt r5 rfl
  have h2 := hb2.size
  have h4 := hb4.size
  have n1 : r3 ≠ g := by omega
  have n2 : r5 ≠ g := by omega
  have n3 : r3 ≠ r5 := by omega
  have q3 : W5.ownsRow wr.heap.size 9 1 (.slice (some ⟨r3, 0, none⟩) 8 c3) 8 (ks.map .string) := by
    rw [← hW5]
    refine ((Only.refl (fun j => j = g) w4).set rfl 1 _).own (own_below (w := W3) ?_ hb4) (fun j hj hjg => by injection hj with hj; exact n1 (hj.trans hjg))
    rw [← hW3]
    exact ((Only.refl (fun j => j = g) w2).set rfl 0 _).own ho2 (fun j hj hjg => by injection hj with hj; exact n1 (hj.trans hjg))
  have q5 : W5.ownsRow W3.heap.size 3 1 (.slice (some ⟨r5, 0, none⟩) 8 c5) 8 (i64s ws) := by
    rw [← hW5]
    exact ((Only.refl (fun j => j = g) w4).set rfl 1 _).own ho4 (fun j hj hjg => by injection hj with hj; exact n2 (hj.trans hjg))
  have o3 := own_set (u := .string k) q3 hf
  have o3' := ((Only.refl (fun j => j = r5) (W5.setCell ⟨r3, f, none⟩ (.string k))).set rfl f (.int .i64 ((now : Int) + 1))).own o3 (fun j hj hjg => by injection hj with hj; exact n3 (hj.trans hjg))
  have o5 := own_set (u := .int .i64 ((now : Int) + 1)) (((Only.refl (fun j => j = r3) W5).set rfl f (.string k)).own q5 (fun j hj hjg => by injection hj with hj; exact n3 (hjg.symm.trans hj.symm))) hf
  have k5 := (hk5.far (p := ⟨r3, f, none⟩) (fun h => n1 h.symm) (.string k)).drew.far (p := ⟨r5, f, none⟩) (fun h => n2 h.symm) (.int .i64 ((now : Int) + 1))
  have hO3 : Only (fun j => j = g) w W3 := by
    rw [← hW3]
    exact (hO.trans (Only.of_below (S := fun j => j = g) hb2) (Sub.refl _ _)).set rfl 0 _
  have hO5 : Only (fun j => j = g) w W5 := by
    rw [← hW5]
    exact (hO3.trans (Only.of_below (S := fun j => j = g) hb4) (Sub.refl _ _)).set rfl 1 _
  refine ⟨rfl, fun j => j = g ∨ (Value.slice (some ⟨r3, 0, none⟩) 8 c3).ownBlock = some j ∨ (Value.slice (some ⟨r5, 0, none⟩) 8 c5).ownBlock = some j, ⟨some ⟨r3, 0, none⟩, c3, some ⟨r5, 0, none⟩, c5, ?_, ?_, ?_, fun j => ?_⟩, ?_, ?_⟩
  · rw [List.length_set, List.length_set, hn, hn2]; exact k5
  · rw [List.length_set, hn, List.map_set]; exact own_base o3' (Nat.zero_le _)
  · rw [List.length_set, hn2]
    unfold i64s at o5 ⊢
    rw [List.map_set]
    exact own_base o5 (Nat.zero_le _)
  · rw [List.length_set, List.length_set, hn, hn2]; first | exact Iff.rfl | skip
  · have hsz := hO.size
    rintro j (rfl | hj | hj)
    · exact .inl ((hU _).2 (.inl rfl))
    · injection hj with hj; exact .inr (by have : r3 = j := hj; omega)
    · injection hj with hj; exact .inr (by have : r5 = j := hj; omega)
  · have hsz := hO.size
    have h6 : Only (fun j => j = g ∨ j = r3 ∨ j = r5) w (((W5.setCell ⟨r3, f, none⟩ (.string k)).drew).setCell ⟨r5, f, none⟩ (.int .i64 ((now : Int) + 1))) :=
      (((hO5.mono (T := fun j => j = g ∨ j = r3 ∨ j = r5) (fun j _ hj => .inl hj)).set (.inr (.inl rfl)) f (.string k)).drew).set (.inr (.inr rfl)) f _
    refine h6.mono (fun j hj hjj => ?_)
    rcases hjj with rfl | rfl | rfl
    · exact (hU _).2 (.inl rfl)
    · omega
    · omega
set_option maxRecDepth 100000 in
set_option maxHeartbeats 8000000 in
theorem rcome_full (w : World) (g : Nat) (U : Nat → Prop) (ks : List ByteArray) (ws : List Nat) (now e : Nat) (k : ByteArray) (h : RDM w g U ks ws now) (hl : ks.length = 8) (hw : ws.length = ks.length) (hnow : now ≤ 1000000) (hbd : ∀ x ∈ ws, x ≤ 2000000)
    (hmin : ∀ f, f < 8 → (∀ a, a < 8 → ws[f]?.getD 0 ≤ ws[a]?.getD 0) → f = e) :
    Calls Try.prog 66 #[.pointer (some ⟨g, 0, none⟩), .string k] w (RComePost w g U (ks.set e k) (ws.set e (now + 1)) (now + 1)) := by
  obtain ⟨i0, hi, hz0, hz1, hz2⟩ := info_parts infoStr
  obtain ⟨j0, hj, hy0, hy1, hy2⟩ := info_parts infoI64
  obtain ⟨A, c, A2, c2, h1, h2, h3, h4⟩ := h
  rw [hw, hl] at h1 h3 h4
  rw [hl] at h2
  have HN := Lib.hid hl; have HN2 := Lib.hid (hw.trans hl); have H4 := Lib.hid h4; have HMIN := Lib.hid hmin; have HBD := Lib.hid hbd
  obtain ⟨c0, c1, c2', cf⟩ := Blk.three h1
  have H1 := Lib.hid h1; have H2 := Lib.hid h2; have H3 := Lib.hid h3
  clear h1 h2 h3 h4 hl hw hmin hbd
  go_enter Try.func66, Try.ntmps66
  go_upto_region 1 with fail
  generalize hW1 : w.setCell ⟨g, 2, none⟩ (.int .i64 ((now : Int) + 1)) = W1
  have hO1 : Only (fun j => j = g) w W1 := by rw [← hW1]; exact (Only.refl (fun j => j = g) w).set rfl 2 _
  have hk1 : Blk W1 g 50 #[.slice A 8 c, .slice A2 8 c2, .int .i64 ((now : Int) + 1)] := by rw [← hW1]; exact H1.out.set 2 _
  have START := Lib.hid (show RW w g A c ks A2 c2 ws (.int .i64 ((now : Int) + 1)) W1 from ⟨hk1, hO1.own H2.out (fun b hb hbg => own_ne_blk H2.out H1.out (by decide) b hb hbg), hO1.own H3.out (fun b hb hbg => own_ne_blk H3.out H1.out (by decide) b hb hbg), hO1⟩)
  obtain ⟨d0, d1, d2, df⟩ := Blk.three hk1
  clear hW1 hO1 hk1 c0 c1 c2' cf
  have M0 := Lib.hid (show MinR ws (.int .i64 0) (.int .i64 1) from ⟨0, 1, rfl, rfl, by omega, by omega, by omega, fun a ha => by rw [show a = 0 by omega]; exact Nat.le_refl _⟩)
  go_wp2
  go_loopw [4, 5] (fun s4 s5 wr => MinR ws s4 s5 ∧ RW w g A c ks A2 c2 ws (.int .i64 ((now : Int) + 1)) wr) (fun _ s5 _ => 8 - (intOf s5).toNat)
  case atStart => exact ⟨M0.out, START.out⟩
  case round =>
    clear START M0 d0 d1 d2 df
    obtain ⟨⟨f, j, rfl, rfl, hj1, hj8, hfj, hall⟩, hrw⟩ := hrel
    have HRW := Lib.hid hrw; have HALL := Lib.hid hall
    obtain ⟨d0, d1, d2, df⟩ := Blk.three hrw.1
    clear hrw hall
    by_cases hlt : j < 8
    · have hst := MinR.step hj1 hlt hfj HALL
      obtain ⟨A9, c9, hv, hnc, hcm, -, hr, -⟩ := own_form HRW.out.2.2.1
      injection hv with e1 _ e2
      subst e1 e2
      have hwl := HN2.out
      obtain ⟨r, o, rfl, -, hc⟩ := hr (by intro h0; have h5 := congrArg List.length h0; rw [i64s_length, hwl] at h5; simp at h5)
      obtain ⟨x, hx⟩ : ∃ x, ws[j]?.getD 0 = x := ⟨_, rfl⟩
      obtain ⟨y, hy⟩ : ∃ y, ws[f]?.getD 0 = y := ⟨_, rfl⟩
      have x0 := hc j (.int .i64 (x : Int)) (by unfold i64s; rw [List.getElem?_map, List.getElem?_eq_getElem (by omega)]; rw [← hx, List.getElem?_eq_getElem (by omega)]; rfl)
      have y0 := hc f (.int .i64 (y : Int)) (by unfold i64s; rw [List.getElem?_map, List.getElem?_eq_getElem (by omega)]; rw [← hy, List.getElem?_eq_getElem (by omega)]; rfl)
      rw [hx, hy] at hst
      have HST := Lib.hid hst
      have hjI : (j : Int) < 8 := by omega
      have hfI : (f : Int) < 8 := by omega
      clear hst hx hy hc hr hwl hcm hnc
      by_cases hxy : x < y
      · have hxI : (x : Int) < (y : Int) := by omega
        have HXY := Lib.hid hxy
        clear hxy
        go_wp2
        go_quiet (fail)
        go_wp2
        go_roundw
        case rel => exact ⟨HST.out.1 HXY.out, HRW.out.1.drewN _, HRW.out.2.1, HRW.out.2.2.1, HRW.out.2.2.2.drewN _⟩
        case measure => simp [intOf]; omega
      · have hxI : ¬ (x : Int) < (y : Int) := by omega
        have HXY := Lib.hid hxy
        clear hxy
        go_wp2
        go_quiet (fail)
        go_wp2
        go_roundw
        case rel => exact ⟨HST.out.2 HXY.out, HRW.out.1.drewN _, HRW.out.2.1, HRW.out.2.2.1, HRW.out.2.2.2.drewN _⟩
        case measure => simp [intOf]; omega
    · obtain rfl : j = 8 := by omega
      obtain rfl : f = e := HMIN.out f (by omega) HALL.out
      have hf8 : f < 8 := hfj
      have HG := Lib.hid HRW.out.1.lt
      have hgl : g < wr.heap.size := HG.out
      obtain ⟨A', c', hv, -, -, -, hr, hno⟩ := own_form HRW.out.2.1
      injection hv with e1 _ e2
      subst e1 e2
      have RK := Lib.hid hr; have HNO := Lib.hid hno
      have HLN : Hid ((ks.map Value.string).length = 8) := Lib.hid (by rw [List.length_map, HN.out])
      have HLW : Hid ((i64s ws).length = 8) := Lib.hid (by rw [i64s_length, HN2.out])
      have ho1 := own_lit0 wr 9 wr.heap.size (Nat.le_refl _)
      have tok1 : True := trivial
      clear hr hno hlt HALL HMIN
      go_upto_region 11 with (at_builtin; have _t := tok1; go_must (refine app_own rfl (.tmp 67) (.tmp 71) 47 rfl wr.heap.size 9 i0 (.string ⟨#[]⟩) 16 Try.underlying47 hi hz0 hz1 hz2 rfl (.slice (some ⟨wr.heap.size, 0, none⟩) 0 0) 0 [] rfl ho1 _ A 8 c (ks.map Value.string) rfl HLN.out (RK.out.alloc _) HNO.out (strs_one _) (by unfold maxLen; omega) (by omega) (by simp) ?_; intro v2 w2 ho2 hg2 _hne2; obtain ⟨A3, c3, rfl, -, -, -, -, -⟩ := own_form ho2; have HO2 := Lib.hid ho2; have HB2 := Lib.hid (below_own (B := wr.heap.size) ho1 hg2 (Nat.le_refl _) (by simp)); have hk2 := (HRW.out.1.alloc (.cells #[] 9)).below HB2.out HG.out; obtain ⟨e0, e1, e2, ef⟩ := Blk.three hk2; have HK2 := Lib.hid hk2; have hgl2 : g < w2.heap.size := hk2.lt; clear ho2 hg2 ho1 tok1 _t _hne2 hk2))
      have ho2 := HO2.out
      rw [Nat.zero_add, List.nil_append] at ho2
      obtain ⟨r3, rfl, hr3⟩ := own_some ho2 (by omega)
      have HO2' := Lib.hid ho2
      have HB2' := Lib.hid (((Below.refl _ wr).alloc (Nat.le_refl _) (.cells #[] 9)).trans HB2.out)
      generalize hW3 : w2.setCell ⟨g, 0, none⟩ (.slice (some ⟨r3, 0, none⟩) 8 c3) = W3
      have hk3 : Blk W3 g 50 #[.slice (some ⟨r3, 0, none⟩) 8 c3, .slice A2 8 c2, .int .i64 ((now : Int) + 1)] := by rw [← hW3]; exact HK2.out.set 0 _
      have hgr3 : g < wr.heap.size := HG.out
      have O3 : Hid (W3.ownsRow 0 3 1 (.slice A2 8 c2) 8 (i64s ws)) := Lib.hid (by
        rw [← hW3]
        exact ((Only.refl (fun j => j = g) w2).set rfl 0 _).own (own_below HRW.out.2.2.1 HB2'.out) (fun b hb hbg => own_ne_blk HRW.out.2.2.1 HRW.out.1 (by decide) b hb hbg))
      have O3s : Hid (W3.ownsRow wr.heap.size 9 1 (.slice (some ⟨r3, 0, none⟩) 8 c3) 8 (ks.map .string)) := Lib.hid (by
        rw [← hW3]
        exact ((Only.refl (fun j => j = g) w2).set rfl 0 _).own ho2 (fun b hb hbg => by have := (ho2.lt b hb).1; omega))
      have K3 := Lib.hid hk3; have HW3 := Lib.hid hW3
      have hgl3 : g < W3.heap.size := hk3.lt
      have HGL3 := Lib.hid hgl3
      clear hW3 hk3 ho2 HO2 HB2 e0 e1 e2 ef hgl2 d0 d1 d2 df
      obtain ⟨f0, f1, f2, ff⟩ := Blk.three K3.out
      obtain ⟨A'', c'', hv, -, -, -, hr, hno⟩ := own_form O3.out
      injection hv with e1' _ e2'
      subst e1' e2'
      have R3 := Lib.hid hr; have HNO3 := Lib.hid hno
      have ho1 := own_lit0 W3 3 W3.heap.size (Nat.le_refl _)
      have tok1 : True := trivial
      clear hr hno

      go_upto_region 12 with (at_builtin; have _t := tok1; go_must (refine app_own rfl (.tmp 76) (.tmp 80) 48 rfl W3.heap.size 3 j0 (.int .i64 0) 8 Try.underlying48 hj hy0 hy1 hy2 rfl (.slice (some ⟨W3.heap.size, 0, none⟩) 0 0) 0 [] rfl ho1 _ A2 8 c2 (i64s ws) rfl HLW.out (R3.out.alloc _) HNO3.out (i64s_one _) (by unfold maxLen; omega) (by omega) (by simp) ?_; intro v4 w4 ho4 hg4 _hne4; obtain ⟨A5, c5, rfl, -, -, -, -, -⟩ := own_form ho4; have HO4 := Lib.hid ho4; have HB4 := Lib.hid (below_own (B := W3.heap.size) ho1 hg4 (Nat.le_refl _) (by simp)); have hk4 := (K3.out.alloc (.cells #[] 3)).below HB4.out HGL3.out; obtain ⟨e0, e1, e2, ef⟩ := Blk.three hk4; have HK4 := Lib.hid hk4; have hgl4 : g < w4.heap.size := hk4.lt; clear ho4 hg4 ho1 tok1 _t _hne4 hk4))
      have ho4 := HO4.out
      rw [Nat.zero_add, List.nil_append] at ho4
      obtain ⟨r5, rfl, hr5⟩ := own_some ho4 (by omega)
      have HO4' := Lib.hid ho4
      have HB4' := Lib.hid (((Below.refl _ W3).alloc (Nat.le_refl _) (.cells #[] 3)).trans HB4.out)
      generalize hW5 : w4.setCell ⟨g, 1, none⟩ (.slice (some ⟨r5, 0, none⟩) 8 c5) = W5
      have hk5 : Blk W5 g 50 #[.slice (some ⟨r3, 0, none⟩) 8 c3, .slice (some ⟨r5, 0, none⟩) 8 c5, .int .i64 ((now : Int) + 1)] := by rw [← hW5]; exact HK4.out.set 1 _
      have q3 : W5.ownsRow wr.heap.size 9 1 (.slice (some ⟨r3, 0, none⟩) 8 c3) 8 (ks.map .string) := by
        rw [← hW5]
        exact ((Only.refl (fun j => j = g) w4).set rfl 1 _).own (own_below O3s.out HB4'.out) (fun b hb hbg => by have := (O3s.out.lt b hb).1; omega)
      have q5 : W5.ownsRow W3.heap.size 3 1 (.slice (some ⟨r5, 0, none⟩) 8 c5) 8 (i64s ws) := by
        rw [← hW5]
        exact ((Only.refl (fun j => j = g) w4).set rfl 1 _).own ho4 (fun b hb hbg => by have := (ho4.lt b hb).1; omega)
      have n1 : r3 ≠ g := by have := (O3s.out.lt r3 rfl).1; omega
      have n2 : r5 ≠ g := by have := (ho4.lt r5 rfl).1; omega
      have n3 : r3 ≠ r5 := by have := (ho4.lt r5 rfl).1; have := (O3s.out.lt r3 rfl).2; omega
      have n4 : g ≠ r3 := fun h => n1 h.symm
      have n5 : g ≠ r5 := fun h => n2 h.symm
      have n6 : r5 ≠ r3 := fun h => n3 h.symm
      obtain ⟨y0, y1⟩ := own_cell (i := f) q3 hf8 (List.getElem?_eq_getElem (by rw [HLN.out]; exact hf8))
      obtain ⟨g0, g1, g2, gf⟩ := Blk.three hk5
      have HP := Lib.hid (rcome_turn (k := k) HN.out HN2.out hf8 H4.out HRW.out.2.2.2 HG.out HB2'.out HO2'.out HW3.out HB4'.out HO4'.out hW5 hk5)
      have hfI8 : (f : Int) < 8 := by omega
      have HK5 := Lib.hid hk5; have HQ5 := Lib.hid q5
      clear hW5 hk5 q3 q5 ho4 HO4 HB4 e0 e1 e2 ef f0 f1 f2 ff hgl3 hgl4
      obtain ⟨ya, hya⟩ : ∃ ya, (List.map Value.string ks)[f]'(by rw [HLN.out]; exact hf8) = ya := ⟨_, rfl⟩
      rw [hya] at y0
      clear hya
      go_upto_region 13 with fail
      generalize hW6 : W5.setCell ⟨r3, f, none⟩ (.string k) = W6
      have hk6 : Blk W6 g 50 #[.slice (some ⟨r3, 0, none⟩) 8 c3, .slice (some ⟨r5, 0, none⟩) 8 c5, .int .i64 ((now : Int) + 1)] := by rw [← hW6]; exact HK5.out.far n4 _
      have q6 : W6.ownsRow W3.heap.size 3 1 (.slice (some ⟨r5, 0, none⟩) 8 c5) 8 (i64s ws) := by
        rw [← hW6]
        exact ((Only.refl (fun j => j = r3) W5).set rfl f _).own HQ5.out (fun b hb hbg => by injection hb with hb; exact n3 (hbg.symm.trans hb.symm))
      obtain ⟨g0, g1, g2, gf⟩ := Blk.three hk6
      obtain ⟨z0, z1⟩ := own_cell (i := f) q6 hf8 (List.getElem?_eq_getElem (by rw [HLW.out]; exact hf8))
      obtain ⟨za, hza⟩ : ∃ za, (i64s ws)[f]'(by rw [HLW.out]; exact hf8) = za := ⟨_, rfl⟩
      rw [hza] at z0
      have HW6 := Lib.hid hW6
      clear hW6 hk6 q6 y0 y1 hza
      go_still_tail 10, (by kernel_rfl)
      change wpList _ _ _ _ _ W6.drew
      go_wp2
      go_end0
      have hp := HP.out
      rw [HW6.out] at hp
      exact hp
end Go.Proofs.Ytignfhdblakcfaa
