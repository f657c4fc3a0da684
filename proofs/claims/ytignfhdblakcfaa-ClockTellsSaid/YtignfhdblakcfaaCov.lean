/- clock.Covers and clock.Beside. -/
import Derived.Test.YtignfhdblakcfaaMrg
import Derived.Test.YtignfhdblakcfaaEqc
namespace Go.Proofs.Ytignfhdblakcfaa
open Go.ChangeShapes Go.WideShapes Go.ChangeAt Go.RowKit
set_option linter.unusedVariables false
set_option linter.unusedSimpArgs false

theorem Merge2_at (w : World) (g : Nat) (a b c x y z : Int) (hr : Rd w (g + 1) (some ⟨g, 0, none⟩) (cells3 [(a, b, c), (x, y, z)])) (hg : g < w.heap.size) :
    Calls Try.prog 25 #[.slice (some ⟨g, 0, none⟩) 2 2] w fun e w' => e = .returned (.agg #[.int .i64 (max a x), .int .i64 (max b y), .int .i64 (max c z)]) ∧ Below w.heap.size w w' :=
  Merge_any w _ 2 (g + 1) [(a, b, c), (x, y, z)] hr hg (by simp) (by simp [maxLen])
theorem cov_max {a b c x y z : Int} : eqcB (max a x) (max b y) (max c z) a b c = covB a b c x y z := by
  unfold covB eqcB
  congr 1
  apply propext
  constructor
  · rintro ⟨h1, h2, h3⟩; omega
  · rintro ⟨h1, h2, h3⟩; omega
set_option maxRecDepth 100000 in
set_option maxHeartbeats 1000000 in
theorem Covers_any (w : World) (a b c x y z : Int) :
    Calls Try.prog 23 #[.agg #[.int .i64 a, .int .i64 b, .int .i64 c], .agg #[.int .i64 x, .int .i64 y, .int .i64 z]] w (BoolPost w (covB a b c x y z)) := by
  go_enter Try.func23, Try.ntmps23
  go_wp2
  refine Inv.region_below (fun i v w' => match i with
      | 0 => v = .agg #[.int .i64 a, .int .i64 b, .int .i64 c]
      | 1 => v = .agg #[.int .i64 x, .int .i64 y, .int .i64 z]
      | 2 => ∃ g, v = .slice (some ⟨g, 0, none⟩) 2 2 ∧ g < w'.heap.size ∧ Rd w' (g + 1) (some ⟨g, 0, none⟩) (cells3 [(a, b, c), (x, y, z)])
      | 3 => v = .agg #[.int .i64 (max a x), .int .i64 (max b y), .int .i64 (max c z)]
      | 4 => v = .agg #[.int .i64 a, .int .i64 b, .int .i64 c]
      | 5 => v = .bool (covB a b c x y z)
      | 6 => v = .bool (covB a b c x y z)
      | _ => True)
    (fun w' => Below w.heap.size w w' ∧ w'.cell? ⟨w.heap.size, 0, none⟩ = some (.int .i64 a) ∧ w'.cell? ⟨w.heap.size, 1, none⟩ = some (.int .i64 b) ∧ w'.cell? ⟨w.heap.size, 2, none⟩ = some (.int .i64 c) ∧ w'.cell? ⟨w.heap.size + 1, 0, none⟩ = some (.int .i64 x) ∧ w'.cell? ⟨w.heap.size + 1, 1, none⟩ = some (.int .i64 y) ∧ w'.cell? ⟨w.heap.size + 1, 2, none⟩ = some (.int .i64 z)) 11 [5, 6, 7, 8, 9, 10, 4] (by kernel_rfl) rfl (by kernel_rfl) (by kernel_rfl) ?_ ?_ ?_ ?_
  · intro v v' hC hb
    obtain ⟨hB, c0, c1, c2, c3, c4, c5⟩ := hC
    exact ⟨hB.trans (hb.mono hB.size), (hb.cell (World.block_lt_of_cell? _ _ c0)).trans c0, (hb.cell (World.block_lt_of_cell? _ _ c1)).trans c1, (hb.cell (World.block_lt_of_cell? _ _ c2)).trans c2, (hb.cell (World.block_lt_of_cell? _ _ c3)).trans c3, (hb.cell (World.block_lt_of_cell? _ _ c4)).trans c4, (hb.cell (World.block_lt_of_cell? _ _ c5)).trans c5⟩
  · refine ⟨((((Below.refl _ _).alloc (Nat.le_refl _) _).alloc (by simp) _).drew), ?_, ?_, ?_, ?_, ?_, ?_⟩ <;> go_simp
  · refine ⟨⟨fun _ _ _ h _ => h, ?_⟩, ⟨fun _ _ _ h _ => h, ?_⟩, ⟨fun v w w' ⟨g, h1, h2, h3⟩ hb => ⟨g, h1, Nat.lt_of_lt_of_le h2 hb.size, h3.below (hb.mono (by omega))⟩, ?_⟩, ⟨fun _ _ _ h _ => h, ?_⟩, ⟨fun _ _ _ h _ => h, ?_⟩, ⟨fun _ _ _ h _ => h, ?_⟩, ⟨fun _ _ _ h _ => h, ?_⟩, trivial⟩
    · intro act wa hC hd H O K hK
      clear hd
      obtain ⟨hB, c0, c1, c2, c3, c4, c5⟩ := hC
      have h2 := O 2 (by kernel_rfl)
      have g2 := Array.getD_eq_getD_getElem?.symm.trans h2
      clear H O
      go_simp
      exact hK _ _ (Below.refl _ _) (fun _ => rfl)
    · intro act wa hC hd H O K hK
      clear hd
      obtain ⟨hB, c0, c1, c2, c3, c4, c5⟩ := hC
      have h3 := O 3 (by kernel_rfl)
      have g3 := Array.getD_eq_getD_getElem?.symm.trans h3
      clear H O
      go_simp
      exact hK _ _ (Below.refl _ _) (fun _ => rfl)
    · intro act wa hC hd H O K hK
      clear hd
      obtain ⟨hB, c0, c1, c2, c3, c4, c5⟩ := hC
      have h5 : act.tmps.getD 5 undef = .agg #[.int .i64 a, .int .i64 b, .int .i64 c] := H 1 0 5 (by kernel_rfl) rfl
      have g5 := Array.getD_eq_getD_getElem?.symm.trans h5
      have h6 : act.tmps.getD 6 undef = .agg #[.int .i64 x, .int .i64 y, .int .i64 z] := H 1 1 6 (by kernel_rfl) rfl
      have g6 := Array.getD_eq_getD_getElem?.symm.trans h6
      clear H O
      go_simp
      exact hK _ _ ((Below.refl _ _).alloc (Nat.le_refl _) _) (fun _ => ⟨wa.heap.size, rfl, by simp, Rd.new wa _ _⟩)
    · intro act wa hC hd H O K hK
      clear hd
      obtain ⟨hB, c0, c1, c2, c3, c4, c5⟩ := hC
      have h7 : ∃ g, act.tmps.getD 7 undef = .slice (some ⟨g, 0, none⟩) 2 2 ∧ g < wa.heap.size ∧ Rd wa (g + 1) (some ⟨g, 0, none⟩) (cells3 [(a, b, c), (x, y, z)]) := H 1 2 7 (by kernel_rfl) rfl
      obtain ⟨g, h7, hg, hr⟩ := h7
      clear H O
      go_simp
      refine (Merge2_at wa g a b c x y z hr hg).mono ?_
      rintro e w1 ⟨rfl, hb⟩
      exact hK _ _ hb (fun _ => rfl)
    · intro act wa hC hd H O K hK
      clear hd
      obtain ⟨hB, c0, c1, c2, c3, c4, c5⟩ := hC
      have h2 := O 2 (by kernel_rfl)
      have g2 := Array.getD_eq_getD_getElem?.symm.trans h2
      clear H O
      go_simp
      exact hK _ _ (Below.refl _ _) (fun _ => rfl)
    · intro act wa hC hd H O K hK
      clear hd
      obtain ⟨hB, c0, c1, c2, c3, c4, c5⟩ := hC
      have h8 : act.tmps.getD 8 undef = .agg #[.int .i64 (max a x), .int .i64 (max b y), .int .i64 (max c z)] := H 1 3 8 (by kernel_rfl) rfl
      have g8 := Array.getD_eq_getD_getElem?.symm.trans h8
      have h9 : act.tmps.getD 9 undef = .agg #[.int .i64 a, .int .i64 b, .int .i64 c] := H 1 4 9 (by kernel_rfl) rfl
      have g9 := Array.getD_eq_getD_getElem?.symm.trans h9
      clear H O
      have q := eqc_in (max a x) (max b y) (max c z) a b c wa
      go_simp
      exact hK _ _ (Below.refl _ _) (fun _ => congrArg Value.bool cov_max)
    · intro act wa hC hd H O K hK
      clear hd
      obtain ⟨hB, c0, c1, c2, c3, c4, c5⟩ := hC
      have h10 : act.tmps.getD 10 undef = .bool (covB a b c x y z) := H 1 5 10 (by kernel_rfl) rfl
      have g10 := Array.getD_eq_getD_getElem?.symm.trans h10
      clear H O
      go_simp
      exact hK _ _ (Below.refl _ _) (fun _ => rfl)
  · intro us w' hC hF
    obtain ⟨hB, c0, c1, c2, c3, c4, c5⟩ := hC
    have u4 : us 4 = .bool (covB a b c x y z) := hF 6 4 rfl
    clear hF
    simp only [List.foldl]
    go_simp
    go_wp2
    go_ret
    exact ⟨by first | rfl | rw [u4], hB⟩

def besB (a b c x y z : Int) : Bool := !covB a b c x y z && !covB x y z a b c
set_option maxRecDepth 100000 in
set_option maxHeartbeats 1000000 in
theorem Beside_any (w : World) (a b c x y z : Int) :
    Calls Try.prog 24 #[.agg #[.int .i64 a, .int .i64 b, .int .i64 c], .agg #[.int .i64 x, .int .i64 y, .int .i64 z]] w (BoolPost w (besB a b c x y z)) := by
  cases h1 : covB a b c x y z
  · cases h2 : covB x y z a b c
    all_goals
      have HR := Lib.hid (show _ = besB a b c x y z by rw [besB, h1, h2])
      have HB := Lib.hid (Below.refl w.heap.size w)
      go_enter Try.func24, Try.ntmps24
      go_wp2_with fail
      refine (Covers_any _ _ _ _ _ _ _).mono ?_
      rintro e w1 ⟨rfl, hb1⟩
      rw [h1]
      obtain ⟨hc1, hf1⟩ := old_cells hb1
      go_wp2_with fail
      refine (Covers_any _ _ _ _ _ _ _).mono ?_
      rintro e w2 ⟨rfl, hb2⟩
      rw [h2]
      go_wp2
      go_ret
      refine ⟨by rw [← HR.out]; rfl, ?_⟩
      have hb3 : Below w.heap.size w ((w.alloc (Obj.cells #[Value.int IntKind.i64 a, Value.int IntKind.i64 b, Value.int IntKind.i64 c] 23)).alloc (Obj.cells #[Value.int IntKind.i64 x, Value.int IntKind.i64 y, Value.int IntKind.i64 z] 23)) := ((HB.out.alloc (Nat.le_refl _) _).alloc (by simp) _)
      exact (hb3.trans (hb1.mono hb3.size)).trans (hb2.mono (Nat.le_trans hb3.size hb1.size))
  · have HR := Lib.hid (show false = besB a b c x y z by rw [besB, h1]; rfl)
    have HB := Lib.hid (Below.refl w.heap.size w)
    go_enter Try.func24, Try.ntmps24
    go_wp2_with fail
    refine (Covers_any _ _ _ _ _ _ _).mono ?_
    rintro e w1 ⟨rfl, hb1⟩
    rw [h1]
    go_wp2
    go_ret
    refine ⟨by rw [← HR.out]; rfl, ?_⟩
    have hb3 : Below w.heap.size w ((w.alloc (Obj.cells #[Value.int IntKind.i64 a, Value.int IntKind.i64 b, Value.int IntKind.i64 c] 23)).alloc (Obj.cells #[Value.int IntKind.i64 x, Value.int IntKind.i64 y, Value.int IntKind.i64 z] 23)) := ((HB.out.alloc (Nat.le_refl _) _).alloc (by simp) _)
    exact hb3.trans (hb1.mono hb3.size)
end Go.Proofs.Ytignfhdblakcfaa
