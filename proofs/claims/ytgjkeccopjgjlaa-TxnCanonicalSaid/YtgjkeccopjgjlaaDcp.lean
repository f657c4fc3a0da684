/- dict: Reset, Copy. -/
import Derived.Test.YtgjkeccopjgjlaaDpt
import Derived.Test.YtgjkeccopjgjlaaInv
namespace Go.Proofs.Ytgjkeccopjgjlaa
open Go.ChangeShapes Go.WideShapes Go.ChangeAt Go.RowKit Go.Maps
set_option linter.unusedVariables false
set_option linter.unusedSimpArgs false

def DCls (w : World) (g : Nat) (A : Option Addr) (c e m : Nat) (ks : List ByteArray) (D : Dm.DU) (w' : World) : Prop :=
  Blk w' g 106 (dcs (.slice A ks.length c) e m) ∧ w'.ownsRow 0 9 1 (.slice A ks.length c) ks.length (ks.map .string) ∧ w'.ownsMap Try.prog 9 (plainElem Try.prog 3) m 8 D ∧ Below w.heap.size w w'
theorem DCls.keep {w w1 w2 : World} {g : Nat} {A : Option Addr} {c e m : Nat} {ks : List ByteArray} {D : Dm.DU} (h : DCls w g A c e m ks D w1) (hb : Below w1.heap.size w1 w2) : DCls w g A c e m ks D w2 :=
  ⟨h.1.below hb h.1.lt, own_below h.2.1 hb, (Only.of_below (S := fun _ => False) hb).map h.2.2.1 (fun h => h), h.2.2.2.trans (hb.mono h.2.2.2.size)⟩
theorem map_below {w1 w2 : World} {m n : Nat} {D : Dm.DU} (h : w1.ownsMap Try.prog 9 (plainElem Try.prog 3) m n D) (hb : Below w1.heap.size w1 w2) : w2.ownsMap Try.prog 9 (plainElem Try.prog 3) m n D :=
  (Only.of_below (S := fun _ => False) hb).map h (fun h => h)
def DCopyPost (w : World) (ks : List ByteArray) (e : Nat) (en : Ending) (w' : World) : Prop := ∃ g S, en = .returned (.pointer (some ⟨g, 0, none⟩)) ∧ DictM w' g S ks e ∧ (∀ j, S j → w.heap.size ≤ j) ∧ Below w.heap.size w w'
set_option maxHeartbeats 2000000 in
set_option maxRecDepth 100000 in
theorem DCopy_any (w : World) (g : Nat) (S : Nat → Prop) (ks : List ByteArray) (e : Nat) (h : DictM w g S ks e) :
    Calls Try.prog 54 #[.pointer (some ⟨g, 0, none⟩)] w (DCopyPost w ks e) := by
  obtain ⟨v, m, D, h1, h2, h3, h4, h5, h6⟩ := h
  have hlen := h5.2.1
  obtain ⟨A, c, rfl, hnc, hcm, -, hr, hnone⟩ := own_form h2
  have HC := Lib.hid (show DCls w g A c e m ks D w from ⟨h1, h2, h3, Below.refl _ _⟩)
  have H4 := Lib.hid h4; have H5 := Lib.hid h5
  clear h1 h2 h3 h4 h5 h6 hr
  go_enter Try.func54, Try.ntmps54
  go_wp2
  refine Inv.region_below (fun i v w' => match i with
      | 0 => v = .pointer (some ⟨g, 0, none⟩)
      | 1 => v = .pointer (some ⟨g, 0, none⟩)
      | 2 => v = .pointer (some ⟨g, 0, none⟩)
      | 3 => v = .slice A ks.length c
      | 4 => ∃ A' c', v = .slice A' ks.length c' ∧ w'.ownsRow w.heap.size 9 1 (.slice A' ks.length c') ks.length (ks.map .string)
      | 5 => v = .pointer (some ⟨g, 0, none⟩)
      | 6 => v = .pointer (some ⟨g, 0, none⟩)
      | 7 => v = .pointer (some ⟨g, 1, none⟩)
      | 8 => v = .int .i64 (e : Int)
      | 9 => v = .pointer (some ⟨g, 0, none⟩)
      | 10 => v = .pointer (some ⟨g, 0, none⟩)
      | 11 => v = .pointer (some ⟨g, 2, none⟩)
      | 12 => v = .map (some m)
      | 13 => ∃ m2, v = .map (some m2) ∧ w'.ownsMap Try.prog 9 (plainElem Try.prog 3) m2 8 D ∧ w.heap.size ≤ m2
      | 14 => ∃ A' c' m2, v = .agg #[.slice A' ks.length c', .int .i64 (e : Int), .map (some m2)] ∧ w'.ownsRow w.heap.size 9 1 (.slice A' ks.length c') ks.length (ks.map .string) ∧ w'.ownsMap Try.prog 9 (plainElem Try.prog 3) m2 8 D ∧ w.heap.size ≤ m2
      | 15 => ∃ g2 A' c' m2, v = .pointer (some ⟨g2, 0, none⟩) ∧ Blk w' g2 106 (dcs (.slice A' ks.length c') e m2) ∧ w'.ownsRow w.heap.size 9 1 (.slice A' ks.length c') ks.length (ks.map .string) ∧ w'.ownsMap Try.prog 9 (plainElem Try.prog 3) m2 8 D ∧ w.heap.size ≤ m2 ∧ w.heap.size ≤ g2
      | 16 => ∃ g2 A' c' m2, v = .pointer (some ⟨g2, 0, none⟩) ∧ Blk w' g2 106 (dcs (.slice A' ks.length c') e m2) ∧ w'.ownsRow w.heap.size 9 1 (.slice A' ks.length c') ks.length (ks.map .string) ∧ w'.ownsMap Try.prog 9 (plainElem Try.prog 3) m2 8 D ∧ w.heap.size ≤ m2 ∧ w.heap.size ≤ g2
      | _ => True)
    (fun w' => DCls w g A c e m ks D w') 19 [3, 4, 5, 6, 7, 8, 9, 10, 11, 12, 13, 14, 15, 16, 17, 18, 2] (by kernel_rfl) rfl (by kernel_rfl) (by kernel_rfl) ?_ ?_ ?_ ?_
  · intro v v' hC hb
    obtain hC := hC
    exact hC.keep hb
  · exact DCls.keep HC.out (Below.refl _ _).drew
  · refine ⟨⟨fun _ _ _ h _ => h, ?_⟩, ⟨fun _ _ _ h _ => h, ?_⟩, ⟨fun _ _ _ h _ => h, ?_⟩, ⟨fun _ _ _ h _ => h, ?_⟩, ⟨fun v w w' ⟨A', c', h1, h2⟩ hb => ⟨A', c', h1, own_below h2 hb⟩, ?_⟩, ⟨fun _ _ _ h _ => h, ?_⟩, ⟨fun _ _ _ h _ => h, ?_⟩, ⟨fun _ _ _ h _ => h, ?_⟩, ⟨fun _ _ _ h _ => h, ?_⟩, ⟨fun _ _ _ h _ => h, ?_⟩, ⟨fun _ _ _ h _ => h, ?_⟩, ⟨fun _ _ _ h _ => h, ?_⟩, ⟨fun _ _ _ h _ => h, ?_⟩, ⟨fun v w w' ⟨m2, h1, h2, h3⟩ hb => ⟨m2, h1, map_below h2 hb, h3⟩, ?_⟩, ⟨fun v w w' ⟨A', c', m2, h1, h2, h3, h4⟩ hb => ⟨A', c', m2, h1, own_below h2 hb, map_below h3 hb, h4⟩, ?_⟩, ⟨fun v w w' ⟨g2, A', c', m2, h1, h0, h2, h3, h4, h5⟩ hb => ⟨g2, A', c', m2, h1, h0.below hb h0.lt, own_below h2 hb, map_below h3 hb, h4, h5⟩, ?_⟩, ⟨fun v w w' ⟨g2, A', c', m2, h1, h0, h2, h3, h4, h5⟩ hb => ⟨g2, A', c', m2, h1, h0.below hb h0.lt, own_below h2 hb, map_below h3 hb, h4, h5⟩, ?_⟩, trivial⟩
    · intro act wa hC hd H O K hK
      clear hd
      obtain hC := hC
      have h0 := O 0 (by kernel_rfl)
      have g0 := Array.getD_eq_getD_getElem?.symm.trans h0
      clear H O
      obtain ⟨c0, c1, c2, cf⟩ := Blk.three hC.1
      go_simp
      exact hK _ _ (Below.refl _ _) (fun _ => rfl)
    · intro act wa hC hd H O K hK
      clear hd
      obtain hC := hC
      have h3 : act.tmps.getD 3 undef = .pointer (some ⟨g, 0, none⟩) := H 1 0 3 (by kernel_rfl) rfl
      have g3 := Array.getD_eq_getD_getElem?.symm.trans h3
      clear H O
      obtain ⟨c0, c1, c2, cf⟩ := Blk.three hC.1
      go_simp
      exact hK _ _ (Below.refl _ _) (fun _ => rfl)
    · intro act wa hC hd H O K hK
      clear hd
      obtain hC := hC
      have h4 : act.tmps.getD 4 undef = .pointer (some ⟨g, 0, none⟩) := H 1 1 4 (by kernel_rfl) rfl
      have g4 := Array.getD_eq_getD_getElem?.symm.trans h4
      clear H O
      obtain ⟨c0, c1, c2, cf⟩ := Blk.three hC.1
      go_simp
      exact hK _ _ (Below.refl _ _) (fun _ => rfl)
    · intro act wa hC hd H O K hK
      clear hd
      obtain hC := hC
      have h5 : act.tmps.getD 5 undef = .pointer (some ⟨g, 0, none⟩) := H 1 2 5 (by kernel_rfl) rfl
      have g5 := Array.getD_eq_getD_getElem?.symm.trans h5
      clear H O
      obtain ⟨c0, c1, c2, cf⟩ := Blk.three hC.1
      go_simp
      exact hK _ _ (Below.refl _ _) (fun _ => rfl)
    · intro act wa hC hd H O K hK
      clear hd
      obtain hC := hC
      have h6 : act.tmps.getD 6 undef = .slice A ks.length c := H 1 3 6 (by kernel_rfl) rfl
      have g6 := Array.getD_eq_getD_getElem?.symm.trans h6
      clear H O
      obtain ⟨c0, c1, c2, cf⟩ := Blk.three hC.1
      go_simp
      refine (CloneS_any wa A c ks hC.2.1 (by omega)).mono ?_
      rintro e1 w1 ⟨A', c', rfl, ho, hb⟩
      exact hK _ _ hb (fun _ => ⟨A', c', rfl, own_base ho hC.2.2.2.size⟩)
    · intro act wa hC hd H O K hK
      clear hd
      obtain hC := hC
      have h0 := O 0 (by kernel_rfl)
      have g0 := Array.getD_eq_getD_getElem?.symm.trans h0
      clear H O
      obtain ⟨c0, c1, c2, cf⟩ := Blk.three hC.1
      go_simp
      exact hK _ _ (Below.refl _ _) (fun _ => rfl)
    · intro act wa hC hd H O K hK
      clear hd
      obtain hC := hC
      have h8 : act.tmps.getD 8 undef = .pointer (some ⟨g, 0, none⟩) := H 1 5 8 (by kernel_rfl) rfl
      have g8 := Array.getD_eq_getD_getElem?.symm.trans h8
      clear H O
      obtain ⟨c0, c1, c2, cf⟩ := Blk.three hC.1
      go_simp
      exact hK _ _ (Below.refl _ _) (fun _ => rfl)
    · intro act wa hC hd H O K hK
      clear hd
      obtain hC := hC
      have h9 : act.tmps.getD 9 undef = .pointer (some ⟨g, 0, none⟩) := H 1 6 9 (by kernel_rfl) rfl
      have g9 := Array.getD_eq_getD_getElem?.symm.trans h9
      clear H O
      obtain ⟨c0, c1, c2, cf⟩ := Blk.three hC.1
      go_simp
      exact hK _ _ (Below.refl _ _) (fun _ => rfl)
    · intro act wa hC hd H O K hK
      clear hd
      obtain hC := hC
      have h10 : act.tmps.getD 10 undef = .pointer (some ⟨g, 1, none⟩) := H 1 7 10 (by kernel_rfl) rfl
      have g10 := Array.getD_eq_getD_getElem?.symm.trans h10
      clear H O
      obtain ⟨c0, c1, c2, cf⟩ := Blk.three hC.1
      go_simp
      exact hK _ _ (Below.refl _ _) (fun _ => rfl)
    · intro act wa hC hd H O K hK
      clear hd
      obtain hC := hC
      have h0 := O 0 (by kernel_rfl)
      have g0 := Array.getD_eq_getD_getElem?.symm.trans h0
      clear H O
      obtain ⟨c0, c1, c2, cf⟩ := Blk.three hC.1
      go_simp
      exact hK _ _ (Below.refl _ _) (fun _ => rfl)
    · intro act wa hC hd H O K hK
      clear hd
      obtain hC := hC
      have h12 : act.tmps.getD 12 undef = .pointer (some ⟨g, 0, none⟩) := H 1 9 12 (by kernel_rfl) rfl
      have g12 := Array.getD_eq_getD_getElem?.symm.trans h12
      clear H O
      obtain ⟨c0, c1, c2, cf⟩ := Blk.three hC.1
      go_simp
      exact hK _ _ (Below.refl _ _) (fun _ => rfl)
    · intro act wa hC hd H O K hK
      clear hd
      obtain hC := hC
      have h13 : act.tmps.getD 13 undef = .pointer (some ⟨g, 0, none⟩) := H 1 10 13 (by kernel_rfl) rfl
      have g13 := Array.getD_eq_getD_getElem?.symm.trans h13
      clear H O
      obtain ⟨c0, c1, c2, cf⟩ := Blk.three hC.1
      go_simp
      exact hK _ _ (Below.refl _ _) (fun _ => rfl)
    · intro act wa hC hd H O K hK
      clear hd
      obtain hC := hC
      have h14 : act.tmps.getD 14 undef = .pointer (some ⟨g, 2, none⟩) := H 1 11 14 (by kernel_rfl) rfl
      have g14 := Array.getD_eq_getD_getElem?.symm.trans h14
      clear H O
      obtain ⟨c0, c1, c2, cf⟩ := Blk.three hC.1
      go_simp
      exact hK _ _ (Below.refl _ _) (fun _ => rfl)
    · intro act wa hC hd H O K hK
      clear hd
      obtain hC := hC
      have h15 : act.tmps.getD 15 undef = .map (some m) := H 1 12 15 (by kernel_rfl) rfl
      have g15 := Array.getD_eq_getD_getElem?.symm.trans h15
      clear H O
      obtain ⟨c0, c1, c2, cf⟩ := Blk.three hC.1
      go_simp
      have hcon := AnyW.maps_Clone_owns Try.laysMclone 9 (plainElem Try.prog 3) m 8 D wa hC.2.2.1
      change Calls Try.prog 69 _ _ _ at hcon
      refine hcon.mono ?_
      rintro e1 w1 ⟨rfl, hm1, -, hb⟩
      exact hK _ _ hb (fun _ => ⟨wa.heap.size, rfl, hm1, hC.2.2.2.size⟩)
    · intro act wa hC hd H O K hK
      clear hd
      obtain hC := hC
      have h7 : ∃ A' c', act.tmps.getD 7 undef = .slice A' ks.length c' ∧ wa.ownsRow w.heap.size 9 1 (.slice A' ks.length c') ks.length (ks.map .string) := H 1 4 7 (by kernel_rfl) rfl
      obtain ⟨A7, c7, h7, ho7⟩ := h7
      have h11 : act.tmps.getD 11 undef = .int .i64 (e : Int) := H 1 8 11 (by kernel_rfl) rfl
      have g11 := Array.getD_eq_getD_getElem?.symm.trans h11
      have h16 : ∃ m2, act.tmps.getD 16 undef = .map (some m2) ∧ wa.ownsMap Try.prog 9 (plainElem Try.prog 3) m2 8 D ∧ w.heap.size ≤ m2 := H 1 13 16 (by kernel_rfl) rfl
      obtain ⟨m2, h16, hm16, hl16⟩ := h16
      clear H O
      obtain ⟨c0, c1, c2, cf⟩ := Blk.three hC.1
      have g7 := Array.getD_eq_getD_getElem?.symm.trans h7
      have g16 := Array.getD_eq_getD_getElem?.symm.trans h16
      go_simp
      exact hK _ _ (Below.refl _ _) (fun _ => ⟨A7, c7, m2, rfl, ho7, hm16, hl16⟩)
    · intro act wa hC hd H O K hK
      clear hd
      obtain hC := hC
      have h17 : ∃ A' c' m2, act.tmps.getD 17 undef = .agg #[.slice A' ks.length c', .int .i64 (e : Int), .map (some m2)] ∧ wa.ownsRow w.heap.size 9 1 (.slice A' ks.length c') ks.length (ks.map .string) ∧ wa.ownsMap Try.prog 9 (plainElem Try.prog 3) m2 8 D ∧ w.heap.size ≤ m2 := H 1 14 17 (by kernel_rfl) rfl
      obtain ⟨A7, c7, m2, h17, ho7, hm16, hl16⟩ := h17
      clear H O
      obtain ⟨c0, c1, c2, cf⟩ := Blk.three hC.1
      have g17 := Array.getD_eq_getD_getElem?.symm.trans h17
      go_simp
      exact hK _ _ ((Below.refl _ _).alloc (Nat.le_refl _) _) (fun _ => ⟨wa.heap.size, A7, c7, m2, rfl, Blk.new _ _ _, own_below ho7 ((Below.refl _ _).alloc (Nat.le_refl _) _), map_below hm16 ((Below.refl _ _).alloc (Nat.le_refl _) _), hl16, hC.2.2.2.size⟩)
    · intro act wa hC hd H O K hK
      clear hd
      obtain hC := hC
      have h18 : ∃ g2 A' c' m2, act.tmps.getD 18 undef = .pointer (some ⟨g2, 0, none⟩) ∧ Blk wa g2 106 (dcs (.slice A' ks.length c') e m2) ∧ wa.ownsRow w.heap.size 9 1 (.slice A' ks.length c') ks.length (ks.map .string) ∧ wa.ownsMap Try.prog 9 (plainElem Try.prog 3) m2 8 D ∧ w.heap.size ≤ m2 ∧ w.heap.size ≤ g2 := H 1 15 18 (by kernel_rfl) rfl
      obtain ⟨g2, A7, c7, m2, h18, hk18, ho7, hm16, hl16, hl18⟩ := h18
      clear H O
      obtain ⟨c0, c1, c2, cf⟩ := Blk.three hC.1
      have g18 := Array.getD_eq_getD_getElem?.symm.trans h18
      go_simp
      exact hK _ _ (Below.refl _ _) (fun _ => ⟨g2, A7, c7, m2, rfl, hk18, ho7, hm16, hl16, hl18⟩)
  · intro us w' hC hF
    obtain hC := hC
    have u2 : ∃ g2 A' c' m2, us 2 = .pointer (some ⟨g2, 0, none⟩) ∧ Blk w' g2 106 (dcs (.slice A' ks.length c') e m2) ∧ w'.ownsRow w.heap.size 9 1 (.slice A' ks.length c') ks.length (ks.map .string) ∧ w'.ownsMap Try.prog 9 (plainElem Try.prog 3) m2 8 D ∧ w.heap.size ≤ m2 ∧ w.heap.size ≤ g2 := hF 16 2 rfl
    obtain ⟨g2, A7, c7, m2, u2v, hk18, ho7, hm16, hl16, hl18⟩ := u2
    clear hF
    simp only [List.foldl]
    go_simp
    have HP := Lib.hid (show DCopyPost w ks e (.returned (.pointer (some ⟨g2, 0, none⟩))) w' from ⟨g2, fun j => j = g2 ∨ j = m2 ∨ (Value.slice A7 ks.length c7).ownBlock = some j, rfl, ⟨_, m2, D, hk18, own_base ho7 (Nat.zero_le _), hm16, H4.out, H5.out, fun j => Iff.rfl⟩, fun j hj => by
      rcases hj with rfl | rfl | hj
      · exact hl18
      · exact hl16
      · exact (ho7.lt j hj).1, hC.2.2.2⟩)
    clear hk18 ho7 hm16 hC
    go_wp2
    go_ret
    exact HP.out
end Go.Proofs.Ytgjkeccopjgjlaa
