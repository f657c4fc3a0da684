/- packetboatref03.Same. -/
import Derived.Test.YtignfhdblakcfaaDoorSc
import Derived.Test.YtignfhdblakcfaaDoorSame
import Derived.Test.YtignfhdblakcfaaDoorInv
namespace Go.Proofs.YtignfhdblakcfaaDoor
open Go.ChangeShapes Go.WideShapes Go.ChangeAt Go.RowKit
set_option linter.unusedVariables false
set_option linter.unusedSimpArgs false

def RSmPost (w : World) (b : Bool) (e : Ending) (w' : World) : Prop := e = .returned (.bool b) ∧ Below w.heap.size w w'
def RSmRel (w : World) (ps rs : List (List Nat)) (s5 : Value) (wr : World) : Prop := ∃ k : Nat, s5 = .int .i64 (k : Int) ∧ k ≤ ps.length ∧ Hid (∀ j, j < k → ps[j]? = rs[j]?) ∧ Below w.heap.size w wr
theorem rsm_all {ps rs : List (List Nat)} (hl : ps.length = rs.length) (h : ∀ j, j < ps.length → ps[j]? = rs[j]?) : ps = rs := by
  apply List.ext_getElem? 
  intro i
  by_cases hi : i < ps.length
  · exact h i hi
  · rw [List.getElem?_eq_none (by omega), List.getElem?_eq_none (by omega)]
set_option maxHeartbeats 1000000 in
set_option maxRecDepth 100000 in
theorem RSame_any (w : World) (A1 A2 : Option Addr) (c1 c2 n1 n2 : Nat) (ps rs : List (List Nat)) (h1 : RowsB w w.heap.size A1 ps) (h2 : RowsB w w.heap.size A2 rs) (hn1 : ps.length = n1) (hn2 : rs.length = n2) (hl : n1 ≤ 1000000) (hc1 : n1 ≤ c1) (hc2 : n2 ≤ c2) (hm1 : c1 ≤ maxLen) (hm2 : c2 ≤ maxLen) (x : Bool) (hx : decide (ps = rs) = x) :
    Calls Tryd.prog 17 #[.slice A1 n1 c1, .slice A2 n2 c2] w (RSmPost w x) := by
  unfold maxLen at hm1 hm2
  subst hn1 hn2
  by_cases hne : ps.length = rs.length
  · have H1 := Lib.hid h1; have H2 := Lib.hid h2; have HX := Lib.hid hx; have HNE := Lib.hid hne
    rw [← hne]
    clear h1 h2 hx
    have HB0 := Lib.hid (Below.refl w.heap.size w)
    rw [← hne] at hc2
    clear hne
    go_enter Tryd.func17, Tryd.ntmps17
    go_wp2
    go_loopw [5] (fun s5 wr => RSmRel w ps rs s5 wr) (fun s5 _ => ps.length - (intOf s5).toNat)
    case atStart => exact ⟨0, rfl, by omega, Lib.hid (fun j hj => absurd hj (by omega)), HB0.out⟩
    case round =>
      obtain ⟨k, rfl, hk, hall, hbel⟩ := hrel
      have HB := Lib.hid hbel
      by_cases hlt : k < ps.length
      · obtain ⟨g1, o1, P1, q1, p, rfl, hg1, hp, d1, hr1, hl1, hm1', -, hb1⟩ := (H1.out.below hbel).row hlt
        obtain ⟨g2, o2, P2, q2, r, rfl, hg2, hp2, d2, hr2, hl2, hm2', -, hb2⟩ := (H2.out.below hbel).row (k := k) (by rw [← HNE.out]; exact hlt)
        have hw1 : g1 < wr.heap.size := World.block_lt_of_cell? _ _ d1
        have hw2 : g2 < wr.heap.size := World.block_lt_of_cell? _ _ d2
        have hlt2 : (k : Int) < (ps.length : Int) := by omega
        obtain ⟨lp, hlp⟩ : ∃ lp, p.length = lp := ⟨_, rfl⟩
        obtain ⟨lr, hlr⟩ : ∃ lr, r.length = lr := ⟨_, rfl⟩
        rw [hlp] at d1 hl1
        rw [hlr] at d2 hl2
        have HCO := Lib.hid (And.intro d1 (And.intro d2 (And.intro hr1 (And.intro hr2 hbel))))
        have HLP := Lib.hid hlp; have HLR := Lib.hid hlr
        obtain ⟨bb, hbb⟩ : ∃ bb, decide (p = r) = bb := ⟨_, rfl⟩
        have HBB := Lib.hid hbb
        have hpm : p.length ≤ maxLen := by rw [hlp]; omega
        have HP := Lib.hid hp; have HP2 := Lib.hid hp2
        clear d1 d2 hr1 hr2 hbel hlp hlr hbb hb1 hb2 hp hp2
        go_wp2
        refine Inv.region_below (fun i v w' => match i with
            | 0 => v = .slice (some ⟨g1, o1, none⟩) ps.length c1
            | 1 => v = .int .i64 (k : Int)
            | 2 => v = .pointer (some ⟨g1, o1 + k, none⟩)
            | 3 => v = .slice P1 lp q1
            | 4 => v = .slice (some ⟨g2, o2, none⟩) ps.length c2
            | 5 => v = .int .i64 (k : Int)
            | 6 => v = .pointer (some ⟨g2, o2 + k, none⟩)
            | 7 => v = .slice P2 lr q2
            | 8 => v = .bool bb
            | 9 => v = .bool (!bb)
            | _ => True)
          (fun w' => w'.cell? ⟨g1, o1 + k, none⟩ = some (.slice P1 lp q1) ∧ w'.cell? ⟨g2, o2 + k, none⟩ = some (.slice P2 lr q2) ∧ Rd w' w.heap.size P1 (u8s p) ∧ Rd w' w.heap.size P2 (u8s r) ∧ Below w.heap.size w w') 27 [17, 18, 19, 20, 21, 22, 23, 24, 25, 26] (by kernel_rfl) rfl (by kernel_rfl) (by kernel_rfl) ?_ ?_ ?_ ?_
        · intro v v' hC hb
          obtain ⟨hc1', hc2', hq1, hq2, hB⟩ := hC
          have hsz := hB.size; exact ⟨(hb.cell (by simp; omega)).trans hc1', (hb.cell (by simp; omega)).trans hc2', hq1.below (hb.mono hsz), hq2.below (hb.mono hsz), hB.trans (hb.mono hsz)⟩
        · exact ⟨HCO.out.1, HCO.out.2.1, HCO.out.2.2.1.drew, HCO.out.2.2.2.1.drew, HCO.out.2.2.2.2.drew⟩
        · refine ⟨⟨fun _ _ _ h _ => h, ?_⟩, ⟨fun _ _ _ h _ => h, ?_⟩, ⟨fun _ _ _ h _ => h, ?_⟩, ⟨fun _ _ _ h _ => h, ?_⟩, ⟨fun _ _ _ h _ => h, ?_⟩, ⟨fun _ _ _ h _ => h, ?_⟩, ⟨fun _ _ _ h _ => h, ?_⟩, ⟨fun _ _ _ h _ => h, ?_⟩, ⟨fun _ _ _ h _ => h, ?_⟩, ⟨fun _ _ _ h _ => h, ?_⟩, trivial⟩
          · intro act wa hC hd H O K hK
            clear hd
            obtain ⟨hc1', hc2', hq1, hq2, hB⟩ := hC
            have h0 := O 0 (by kernel_rfl)
            have g0 := Array.getD_eq_getD_getElem?.symm.trans h0
            clear H O
            go_simp
            exact hK _ _ (Below.refl _ _) (fun _ => rfl)
          · intro act wa hC hd H O K hK
            clear hd
            obtain ⟨hc1', hc2', hq1, hq2, hB⟩ := hC
            have h5 := O 5 (by kernel_rfl)
            have g5 := Array.getD_eq_getD_getElem?.symm.trans h5
            clear H O
            go_simp
            exact hK _ _ (Below.refl _ _) (fun _ => rfl)
          · intro act wa hC hd H O K hK
            clear hd
            obtain ⟨hc1', hc2', hq1, hq2, hB⟩ := hC
            have h17 : act.tmps.getD 17 undef = .slice (some ⟨g1, o1, none⟩) ps.length c1 := H 1 0 17 (by kernel_rfl) rfl
            have g17 := Array.getD_eq_getD_getElem?.symm.trans h17
            have h18 : act.tmps.getD 18 undef = .int .i64 (k : Int) := H 1 1 18 (by kernel_rfl) rfl
            have g18 := Array.getD_eq_getD_getElem?.symm.trans h18
            clear H O
            go_simp
            exact hK _ _ (Below.refl _ _) (fun _ => rfl)
          · intro act wa hC hd H O K hK
            clear hd
            obtain ⟨hc1', hc2', hq1, hq2, hB⟩ := hC
            have h19 : act.tmps.getD 19 undef = .pointer (some ⟨g1, o1 + k, none⟩) := H 1 2 19 (by kernel_rfl) rfl
            have g19 := Array.getD_eq_getD_getElem?.symm.trans h19
            clear H O
            go_simp
            exact hK _ _ (Below.refl _ _) (fun _ => rfl)
          · intro act wa hC hd H O K hK
            clear hd
            obtain ⟨hc1', hc2', hq1, hq2, hB⟩ := hC
            have h1 := O 1 (by kernel_rfl)
            have g1 := Array.getD_eq_getD_getElem?.symm.trans h1
            clear H O
            go_simp
            exact hK _ _ (Below.refl _ _) (fun _ => rfl)
          · intro act wa hC hd H O K hK
            clear hd
            obtain ⟨hc1', hc2', hq1, hq2, hB⟩ := hC
            have h5 := O 5 (by kernel_rfl)
            have g5 := Array.getD_eq_getD_getElem?.symm.trans h5
            clear H O
            go_simp
            exact hK _ _ (Below.refl _ _) (fun _ => rfl)
          · intro act wa hC hd H O K hK
            clear hd
            obtain ⟨hc1', hc2', hq1, hq2, hB⟩ := hC
            have h21 : act.tmps.getD 21 undef = .slice (some ⟨g2, o2, none⟩) ps.length c2 := H 1 4 21 (by kernel_rfl) rfl
            have g21 := Array.getD_eq_getD_getElem?.symm.trans h21
            have h22 : act.tmps.getD 22 undef = .int .i64 (k : Int) := H 1 5 22 (by kernel_rfl) rfl
            have g22 := Array.getD_eq_getD_getElem?.symm.trans h22
            clear H O
            go_simp
            exact hK _ _ (Below.refl _ _) (fun _ => rfl)
          · intro act wa hC hd H O K hK
            clear hd
            obtain ⟨hc1', hc2', hq1, hq2, hB⟩ := hC
            have h23 : act.tmps.getD 23 undef = .pointer (some ⟨g2, o2 + k, none⟩) := H 1 6 23 (by kernel_rfl) rfl
            have g23 := Array.getD_eq_getD_getElem?.symm.trans h23
            clear H O
            go_simp
            exact hK _ _ (Below.refl _ _) (fun _ => rfl)
          · intro act wa hC hd H O K hK
            clear hd
            obtain ⟨hc1', hc2', hq1, hq2, hB⟩ := hC
            have h20 : act.tmps.getD 20 undef = .slice P1 lp q1 := H 1 3 20 (by kernel_rfl) rfl
            have g20 := Array.getD_eq_getD_getElem?.symm.trans h20
            have h24 : act.tmps.getD 24 undef = .slice P2 lr q2 := H 1 7 24 (by kernel_rfl) rfl
            have g24 := Array.getD_eq_getD_getElem?.symm.trans h24
            clear H O
            go_simp
            refine (same_at wa P1 P2 q1 q2 p r _ _ lp lr bb hq1 hq2 hpm HLP.out HLR.out HBB.out).mono ?_
            rintro e w1 ⟨rfl, y, hy⟩
            have hb : Below wa.heap.size wa w1 := by rw [hy]; exact below_drewN (Below.refl _ _) y
            exact hK _ _ hb (fun _ => rfl)
          · intro act wa hC hd H O K hK
            clear hd
            obtain ⟨hc1', hc2', hq1, hq2, hB⟩ := hC
            have h25 : act.tmps.getD 25 undef = .bool bb := H 1 8 25 (by kernel_rfl) rfl
            have g25 := Array.getD_eq_getD_getElem?.symm.trans h25
            clear H O
            go_simp
            exact hK _ _ (Below.refl _ _) (fun _ => rfl)
        · intro us w' hC hF
          obtain ⟨hc1', hc2', hq1, hq2, hB⟩ := hC
          have u26 : us 26 = .bool (!bb) := hF 9 26 rfl
          clear hF
          simp only [List.foldl]
          go_simp
          cases bb
          · have hne2 : p ≠ r := of_decide_eq_false HBB.out
            have HPP := Lib.hid (show RSmPost w x (.returned (.bool false)) w' from ⟨by
              rw [← HX.out]
              have : ps ≠ rs := by rintro rfl; have e := HP.out.symm.trans HP2.out; injection e with e; exact hne2 e
              simp [this], hB⟩)
            clear hq1 hq2 hB hc1' hc2'
            go_wp2
            go_ret
            exact HPP.out
          · have heq : p = r := of_decide_eq_true HBB.out
            have R := Lib.hid (show RSmRel w ps rs (.int .i64 ((k : Int) + 1)) w' from ⟨k + 1, by go_num, hlt, Lib.hid (fun j hj => by
              by_cases hjk : j = k
              · subst hjk; rw [HP.out, HP2.out, heq]
              · exact hall.out j (by omega)), hB⟩)
            clear hq1 hq2 hB hc1' hc2'
            go_wp2
            go_roundw
            case rel => exact R.out
            case measure => simp [intOf]; omega
      · obtain rfl : k = ps.length := by omega
        have HPP := Lib.hid (show RSmPost w x (.returned (.bool true)) wr from ⟨by rw [← HX.out, rsm_all HNE.out hall.out]; simp, hbel⟩)
        clear hbel
        go_wp2
        go_ret
        exact HPP.out
  · have HPP := Lib.hid (show RSmPost w x (.returned (.bool false)) w from ⟨by
      rw [← hx]
      have : ps ≠ rs := by rintro rfl; exact hne rfl
      simp [this], Below.refl _ _⟩)
    clear h1 h2 hx
    go_enter Tryd.func17, Tryd.ntmps17
    go_wp2
    go_ret
    exact HPP.out
end Go.Proofs.YtignfhdblakcfaaDoor
