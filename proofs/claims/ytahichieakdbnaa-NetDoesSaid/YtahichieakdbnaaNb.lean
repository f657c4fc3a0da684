/- law 21's awake; callers' forms. -/
import Derived.Test.YtahichieakdbnaaNz
import Derived.Lib.SlBytesConst
import Derived.Lib.SmallJoins
namespace Go.Proofs.Ytahichieakdbnaa
open Go.ChangeShapes Go.WideShapes Go.ChangeAt Go.RowKit Go.Maps
set_option linter.unusedVariables false
set_option linter.unusedSimpArgs false

theorem NRes_at {w : World} {g : Nat} {S : Nat → Prop} {r : Bool × List Snt} {b : Bool} {row' : List Snt} {en : Ending} {w' : World} (h : NRes w g S r en w') (hr : r = (b, row')) : en = .returned (.bool b) ∧ ∃ S', NetM w' g S' row' ∧ Turned w S S' w' := by subst hr; exact h
theorem NTk_at {w : World} {g : Nat} {S : Nat → Prop} {r : (Let × Bool) × List Snt} {to : Int} {bs : List Nat} {n : Nat} {b : Bool} {row' : List Snt} {en : Ending} {w' : World} (h : ∃ A c, en = .returned (.tuple #[.agg #[.int .i64 r.1.1.1, .slice A r.1.1.2.length c], .bool r.1.2]) ∧ NetM w' g S r.2 ∧ Turned w S S w' ∧ MadeO w' S (.slice A r.1.1.2.length c) r.1.1.2 r.1.1.2.length) (hr : r = (((to, bs), b), row')) (hn : bs.length = n) : ∃ A c, en = .returned (.tuple #[.agg #[.int .i64 to, .slice A n c], .bool b]) ∧ NetM w' g S row' ∧ Turned w S S w' ∧ MadeO w' S (.slice A n c) bs n := by subst hr hn; exact h
theorem Rd.mark (w : World) (t : TypeId) (bs : List Nat) (cs : Array Value) (fr : Nat × Nat) (e : u8s bs = cs.toList) (g : Nat) (hg : g = w.heap.size) : Rd (w.alloc (.cells cs t fr)) (g + 1) (some ⟨g, 0, none⟩) (u8s bs) := fun _ => by
  subst hg
  refine ⟨w.heap.size, 0, rfl, by omega, fun k v hv => ?_⟩
  rw [Nat.zero_add, World.cell?_alloc_mark]
  rw [e] at hv
  simpa using hv
theorem NetM.not_blk {w : World} {g : Nat} {S : Nat → Prop} {row : List Snt} (h : NetM w g S row) {q : Nat} {t : TypeId} {cs : Array Value} (hb : Blk w q t cs) (h0 : t ≠ 138) (h1 : t ≠ 141) : ¬ S q := by
  obtain ⟨v, ms, k1, k2, k3, k4⟩ := h
  intro hs
  rcases (k4 q).1 hs with rfl | hj
  · unfold Blk at hb k1
    rw [hb] at k1
    injection k1 with h3
    injection h3 with _ h _
    exact h0 h
  · exact own_ne_blk k2 hb (fun h => h1 h.symm) _ hj rfl
theorem Rd.of_blk {w : World} {g : Nat} {t : TypeId} {cs : Array Value} {bs : List Nat} (h : Blk w g t cs) (e : u8s bs = cs.toList) : Rd w w.heap.size (some ⟨g, 0, none⟩) (u8s bs) := fun _ => by
  refine ⟨g, 0, rfl, h.lt, fun k v hv => ?_⟩
  rw [h.cell]
  rw [e] at hv
  simpa using hv
def TrueN (w : World) (e : Ending) (w' : World) : Prop := e = .returned (.bool true) ∧ Below w.heap.size w w'
set_option maxRecDepth 100000 in
set_option maxHeartbeats 8000000 in
theorem awake21_any (w : World) : Calls Try.prog 51 #[] w (TrueN w) := by
  have kc := fun (w : World) (C : Array Value) (n c : Nat) => Lib.run_convert_bytes_const (P := Try.prog) w 32 5 C n c Try.underlying32 Try.underlying5
  go_enter Try.func51, Try.ntmps51
  go_wp2_with fail
  refine (NNew_any w).mono ?_
  rintro en w1 ⟨g, S1, rfl, hd, hS, hb⟩
  have D1 := Lib.hid hd; have A1 := Lib.hid hS; have B1 := Lib.hid hb
  clear hd hS hb
  go_wp2_with fail
  generalize hW : w1.alloc (.cells #[.int .u8 97] 5 (1, 2)) = w2
  have hb : Below w1.heap.size w1 w2 := by rw [← hW]; exact (Below.refl _ w1).alloc (by simp <;> omega) _
  have D2 := Lib.hid (D1.out.below hb); have A2 := A1; have B2 := Lib.hid (B1.out.trans (hb.mono B1.out.size))
  have Z2 : Hid (Rd w2 w2.heap.size (some ⟨w1.heap.size, 0, none⟩) (u8s [97])) := Lib.hid (by rw [← hW]; exact (Rd.mark w1 5 [97] #[.int .u8 97] (1, 2) rfl (w1.heap.size) (by simp)).more (by simp <;> omega))
  clear hb hW
  refine (NSend_any w2 g S1 [] 0 (some ⟨w1.heap.size, 0, none⟩) 1 1 [97] D2.out Z2.out (by decide) rfl (by omega) (by omega) (fun h => by cases h) (by decide)).mono ?_
  intro en w3 hres
  obtain ⟨rfl, S3, hd, hT⟩ := NRes_at hres (b := true) (row' := [((0, [97]), false)]) (by kernel_rfl)
  have D3 := Lib.hid hd; have A3 := Lib.hid (hT.1.above B2.out.size A2.out); have B3 := Lib.hid (B2.out.trans (hT.2.to_below B2.out.size A2.out))
  clear hd hT hres
  go_wp2_with fail
  generalize hW : w3.alloc (.cells #[.int .u8 98] 5 (1, 2)) = w4
  have hb : Below w3.heap.size w3 w4 := by rw [← hW]; exact (Below.refl _ w3).alloc (by simp <;> omega) _
  have D4 := Lib.hid (D3.out.below hb); have A4 := A3; have B4 := Lib.hid (B3.out.trans (hb.mono B3.out.size))
  have Z4 : Hid (Rd w4 w4.heap.size (some ⟨w3.heap.size, 0, none⟩) (u8s [98])) := Lib.hid (by rw [← hW]; exact (Rd.mark w3 5 [98] #[.int .u8 98] (1, 2) rfl (w3.heap.size) (by simp)).more (by simp <;> omega))
  clear hb hW
  refine (NSend_any w4 g S3 [((0, [97]), false)] 3 (some ⟨w3.heap.size, 0, none⟩) 1 1 [98] D4.out Z4.out (by decide) rfl (by omega) (by omega) (fun h => by cases h) (by decide)).mono ?_
  intro en w5 hres
  obtain ⟨rfl, S5, hd, hT⟩ := NRes_at hres (b := true) (row' := [((0, [97]), false), ((3, [98]), false)]) (by kernel_rfl)
  have D5 := Lib.hid hd; have A5 := Lib.hid (hT.1.above B4.out.size A4.out); have B5 := Lib.hid (B4.out.trans (hT.2.to_below B4.out.size A4.out))
  clear hd hT hres
  go_wp2_with fail
  refine (NSend_any w5 g S5 [((0, [97]), false), ((3, [98]), false)] 4 none 0 0 [] D5.out (Rd.nil _ _ _) (by simp) rfl (by omega) (by omega) (fun _ => rfl) (by decide)).mono ?_
  intro en w6 hres
  obtain ⟨rfl, S6, hd, hT⟩ := NRes_at hres (b := false) (row' := [((0, [97]), false), ((3, [98]), false)]) (by kernel_rfl)
  have D6 := Lib.hid hd; have A6 := Lib.hid (hT.1.above B5.out.size A5.out); have B6 := Lib.hid (B5.out.trans (hT.2.to_below B5.out.size A5.out))
  clear hd hT hres
  go_wp2_with fail
  refine (NDbl_any w6 g S6 [((0, [97]), false), ((3, [98]), false)] 0 D6.out (by omega) (by omega) (by decide) (by decide)).mono ?_
  intro en w7 hres
  obtain ⟨rfl, S7, hd, hT⟩ := NRes_at hres (b := true) (row' := [((0, [97]), false), ((3, [98]), false), ((0, [97]), false)]) (by kernel_rfl)
  have D7 := Lib.hid hd; have A7 := Lib.hid (hT.1.above B6.out.size A6.out); have B7 := Lib.hid (B6.out.trans (hT.2.to_below B6.out.size A6.out))
  clear hd hT hres
  go_wp2_with fail
  refine (NTake_any w7 g S7 [((0, [97]), false), ((3, [98]), false), ((0, [97]), false)] 4 D7.out (by omega) (by omega) (by decide) (by decide)).mono ?_
  intro en w8 hres
  obtain ⟨RL, CL, rfl, hd, hT, hm⟩ := NTk_at hres (to := 3) (bs := [98]) (n := 1) (b := true) (row' := [((0, [97]), false), ((0, [97]), false)]) (by kernel_rfl) rfl
  have D8 := Lib.hid hd; have A8 := Lib.hid (hT.1.above B7.out.size A7.out); have B8 := Lib.hid (B7.out.trans (hT.2.to_below B7.out.size A7.out))
  have ML8 := Lib.hid hm
  clear hd hT hres hm
  go_wp2_with fail
  generalize hW : w8.alloc (.cells #[.int .i64 3, .slice RL 1 CL] 98) = w9
  have hb : Below w8.heap.size w8 w9 := by rw [← hW]; exact (Below.refl _ w8).alloc (by simp <;> omega) _
  have ML9 := Lib.hid (ML8.out.below hb)
  have D9 := Lib.hid (D8.out.below hb); have A9 := A8; have B9 := Lib.hid (B8.out.trans (hb.mono B8.out.size))
  have KL9 : Hid (Blk w9 (w8.heap.size) 98 #[.int .i64 3, .slice RL 1 CL]) := Lib.hid (by rw [← hW]; exact (Blk.new' w8 98 #[.int .i64 3, .slice RL 1 CL] (g := w8.heap.size) (by simp)))
  clear hb hW
  refine (NTake_any w9 g S7 [((0, [97]), false), ((0, [97]), false)] (-1) D9.out (by omega) (by omega) (by decide) (by decide)).mono ?_
  intro en w10 hres
  obtain ⟨RN, CN, rfl, hd, hT, hm⟩ := NTk_at hres (to := 0) (bs := []) (n := 0) (b := false) (row' := [((0, [97]), false), ((0, [97]), false)]) (by kernel_rfl) rfl
  have KL10 := Lib.hid (hT.2.blk KL9.out (D9.out.not_blk KL9.out (by decide) (by decide)))
  have ML10 := Lib.hid (ML9.out.turn hT)
  have D10 := Lib.hid hd; have A10 := Lib.hid (hT.1.above B9.out.size A9.out); have B10 := Lib.hid (B9.out.trans (hT.2.to_below B9.out.size A9.out))
  have MN10 := Lib.hid hm
  clear hd hT hres hm
  go_wp2_with fail
  generalize hW : w10.alloc (.cells #[.int .i64 0, .slice RN 0 CN] 98) = w11
  have hb : Below w10.heap.size w10 w11 := by rw [← hW]; exact (Below.refl _ w10).alloc (by simp <;> omega) _
  have KL11 := Lib.hid (KL10.out.below hb KL10.out.lt)
  have ML11 := Lib.hid (ML10.out.below hb)
  have MN11 := Lib.hid (MN10.out.below hb)
  have D11 := Lib.hid (D10.out.below hb); have A11 := A10; have B11 := Lib.hid (B10.out.trans (hb.mono B10.out.size))
  clear hb hW
  refine (NTurn_any w11 g S7 [((0, [97]), false), ((0, [97]), false)] 1 0 1 D11.out (by omega) (by omega) (by omega) (by omega) (by omega) (by decide) (by decide)).mono ?_
  intro en w12 hres
  obtain ⟨rfl, S12, hd, hT⟩ := NRes_at hres (b := true) (row' := [((0, [97]), false), ((0, [96]), true)]) (by kernel_rfl)
  have KL12 := Lib.hid (hT.2.blk KL11.out (D11.out.not_blk KL11.out (by decide) (by decide)))
  have ML12 := Lib.hid (ML11.out.turn hT)
  have MN12 := Lib.hid (MN11.out.turn hT)
  have D12 := Lib.hid hd; have A12 := Lib.hid (hT.1.above B11.out.size A11.out); have B12 := Lib.hid (B11.out.trans (hT.2.to_below B11.out.size A11.out))
  clear hd hT hres
  go_wp2_with fail
  refine (NTurn_any w12 g S12 [((0, [97]), false), ((0, [96]), true)] 1 1 1 D12.out (by omega) (by omega) (by omega) (by omega) (by omega) (by decide) (by decide)).mono ?_
  intro en w13 hres
  obtain ⟨rfl, S13, hd, hT⟩ := NRes_at hres (b := false) (row' := [((0, [97]), false), ((0, [96]), true)]) (by kernel_rfl)
  have KL13 := Lib.hid (hT.2.blk KL12.out (D12.out.not_blk KL12.out (by decide) (by decide)))
  have ML13 := Lib.hid (ML12.out.turn hT)
  have MN13 := Lib.hid (MN12.out.turn hT)
  have D13 := Lib.hid hd; have A13 := Lib.hid (hT.1.above B12.out.size A12.out); have B13 := Lib.hid (B12.out.trans (hT.2.to_below B12.out.size A12.out))
  clear hd hT hres
  go_wp2_with fail
  refine (NTurn_any w13 g S13 [((0, [97]), false), ((0, [96]), true)] 0 99 1 D13.out (by omega) (by omega) (by omega) (by omega) (by omega) (by decide) (by decide)).mono ?_
  intro en w14 hres
  obtain ⟨rfl, S14, hd, hT⟩ := NRes_at hres (b := true) (row' := [((0, [97]), false), ((0, [96]), true)]) (by kernel_rfl)
  have KL14 := Lib.hid (hT.2.blk KL13.out (D13.out.not_blk KL13.out (by decide) (by decide)))
  have ML14 := Lib.hid (ML13.out.turn hT)
  have MN14 := Lib.hid (MN13.out.turn hT)
  have D14 := Lib.hid hd; have A14 := Lib.hid (hT.1.above B13.out.size A13.out); have B14 := Lib.hid (B13.out.trans (hT.2.to_below B13.out.size A13.out))
  clear hd hT hres
  go_wp2_with fail
  refine (NAll_any w14 g S14 [((0, [97]), false), ((0, [96]), true)] D14.out (by decide) (by decide)).mono ?_
  rintro en w15 ⟨vA, rfl, hL, hb⟩
  have KL15 := Lib.hid (KL14.out.below hb KL14.out.lt)
  have ML15 := Lib.hid (ML14.out.below hb)
  have MN15 := Lib.hid (MN14.out.below hb)
  have D15 := Lib.hid (D14.out.below hb); have A15 := A14; have B15 := Lib.hid (B14.out.trans (hb.mono B14.out.size))
  obtain ⟨AA, cA, rfl, hLA, -, -⟩ := hL.toL.letR hb.size
  have LA := Lib.hid hLA
  clear hL hLA hb
  have hst := run_str (P := Try.prog) w15 (src := 32) (dst := 9) (e := 5) (c := CL) Try.underlying32 Try.underlying5 Try.underlying9 ML15.out.1.parts.1 (n := 1) rfl
  have hs98 : str [98] = ⟨#[98]⟩ := by kernel_rfl
  rw [hs98] at hst
  have kl0 := KL15.out.cell 0
  have kl1 := KL15.out.cell 1
  simp at kl0 kl1
  have kll := KL15.out.lt
  go_wp2_with fail
  refine (NLen_any w15 g S14 [((0, [97]), false), ((0, [96]), true)] D15.out).mono ?_
  rintro en w' ⟨rfl, rfl⟩
  clear hst kl0 kl1
  go_wp2_with fail
  refine (Lown_any w15 AA 2 cA [(0, [97]), (0, [96])] LA.out rfl (by omega)).mono ?_
  rintro en w16 ⟨vB, rfl, hL, hb⟩
  have KL16 := Lib.hid (KL15.out.below hb KL15.out.lt)
  have ML16 := Lib.hid (ML15.out.below hb)
  have MN16 := Lib.hid (MN15.out.below hb)
  have D16 := Lib.hid (D15.out.below hb); have A16 := A15; have B16 := Lib.hid (B15.out.trans (hb.mono B15.out.size))
  obtain ⟨AB, cB, rfl, hLB, -, -⟩ := hL.letR hb.size
  have LB := Lib.hid hLB
  clear hL hLB hb
  have kc2 := Go.Joins.run_convert_bytes_const_at (P := Try.prog) (w16.alloc (.cells #[.int .u8 97] 5 (1, 2))) 32 5 #[.int .u8 96] 1 1 (w16.heap.size + 1) (by simp) Try.underlying32 Try.underlying5
  simp at kc2
  go_wp2_with fail
  generalize hW : ((w16.alloc (.cells #[.int .u8 97] 5 (1, 2))).alloc (.cells #[.int .u8 96] 5 (1, 2))).alloc (.cells #[.int .i64 0, .slice (some ⟨w16.heap.size, 0, none⟩) 1 1, .int .i64 0, .slice (some ⟨w16.heap.size + 1, 0, none⟩) 1 1] 103) = w17
  have hb : Below w16.heap.size w16 w17 := by rw [← hW]; exact (((Below.refl _ w16).alloc (by simp <;> omega) _).alloc (by simp <;> omega) _).alloc (by simp <;> omega) _
  have KL17 := Lib.hid (KL16.out.below hb KL16.out.lt)
  have ML17 := Lib.hid (ML16.out.below hb)
  have MN17 := Lib.hid (MN16.out.below hb)
  have D17 := Lib.hid (D16.out.below hb); have A17 := A16; have B17 := Lib.hid (B16.out.trans (hb.mono B16.out.size))
  have Y17 : Hid (Rd w17 w17.heap.size (some ⟨w16.heap.size, 0, none⟩) (u8s [97])) := Lib.hid (by rw [← hW]; exact (Rd.below (Rd.mark w16 5 [97] #[.int .u8 97] (1, 2) rfl (w16.heap.size) (by simp)) (((Below.refl (w16.heap.size + 1) _).alloc (by simp <;> omega) _).alloc (by simp <;> omega) _)).more (by simp <;> omega))
  have X17 : Hid (Rd w17 w17.heap.size (some ⟨w16.heap.size + 1, 0, none⟩) (u8s [96])) := Lib.hid (by rw [← hW]; exact (Rd.below (Rd.mark (w16.alloc (.cells #[.int .u8 97] 5 (1, 2))) 5 [96] #[.int .u8 96] (1, 2) rfl (w16.heap.size + 1) (by simp)) ((Below.refl (w16.heap.size + 1 + 1) _).alloc (by simp <;> omega) _)).more (by simp <;> omega))
  have V17 : Hid (Blk w17 (w16.heap.size + 2) 103 #[.int .i64 0, .slice (some ⟨w16.heap.size, 0, none⟩) 1 1, .int .i64 0, .slice (some ⟨w16.heap.size + 1, 0, none⟩) 1 1]) := Lib.hid (by rw [← hW]; exact (Blk.new' ((w16.alloc (.cells #[.int .u8 97] 5 (1, 2))).alloc (.cells #[.int .u8 96] 5 (1, 2))) 103 #[.int .i64 0, .slice (some ⟨w16.heap.size, 0, none⟩) 1 1, .int .i64 0, .slice (some ⟨w16.heap.size + 1, 0, none⟩) 1 1] (g := w16.heap.size + 2) (by simp)))
  have HBV := Lib.hid hb
  clear hb hW
  have hLV : LetR w17 w17.heap.size (some ⟨w16.heap.size + 2, 0, none⟩) [(0, [97]), (0, [96])] := fun _ => by
    refine ⟨w16.heap.size + 2, 0, rfl, V17.out.lt, fun k a hk => ?_⟩
    match k, hk with
    | 0, hk =>
      simp at hk; subst hk
      exact ⟨_, rfl, ⟨_, 1, rfl, Y17.out, by decide, by decide, (fun h => by cases h), by decide⟩, fun j u hu => by
        have h := V17.out.cell (0 + 0 * 2 + j)
        rw [h]
        match j, hu with
        | 0, hu => simpa using hu
        | 1, hu => simpa using hu⟩
    | 1, hk =>
      simp at hk; subst hk
      exact ⟨_, rfl, ⟨_, 1, rfl, X17.out, by decide, by decide, (fun h => by cases h), by decide⟩, fun j u hu => by
        have h := V17.out.cell (0 + 1 * 2 + j)
        rw [h]
        match j, hu with
        | 0, hu => simpa using hu
        | 1, hu => simpa using hu⟩
  have LV := Lib.hid hLV; have LB2 := Lib.hid (LetR.step LB.out (show Below w16.heap.size w16 w17 from HBV.out))
  clear hLV
  refine (LSame_any w17 AB (some ⟨w16.heap.size + 2, 0, none⟩) 2 2 cB 2 [(0, [97]), (0, [96])] [(0, [97]), (0, [96])] LB2.out LV.out rfl rfl (by omega) (by omega)).mono ?_
  rintro en w18 ⟨rfl, hb⟩
  have HP := Lib.hid (show TrueN w (.returned (.bool true)) w18 from ⟨rfl, B17.out.trans (hb.mono B17.out.size)⟩)
  rw [show decide ([((0 : Int), [97]), (0, [96])] = [((0 : Int), [97]), (0, [96])]) = true by decide]
  clear hb
  go_wp2
  go_ret
  exact HP.out
end Go.Proofs.Ytahichieakdbnaa
