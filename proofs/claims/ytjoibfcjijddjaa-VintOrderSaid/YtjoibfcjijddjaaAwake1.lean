/- law 1's awake: the calls whose answers the document fixes. -/
import Derived.Test.YtjoibfcjijddjaaAt
namespace Go.Proofs.Ytjoibfcjijddjaa
open Go.ChangeShapes Go.WideShapes Go.ChangeAt Go.RowKit
set_option linter.unusedVariables false

def TruePost (w : World) (e : Ending) (w' : World) : Prop := e = .returned (.bool true) ∧ Below w.heap.size w w'
set_option maxHeartbeats 4000000 in
set_option maxRecDepth 100000 in
theorem awake_any (w : World) : Calls Try.prog 6 #[] w (TruePost w) := by
  go_enter Try.func6, Try.ntmps6
  go_wp2_with fail
  refine (take_at _ _ _ [172, 2, 9] _ 3 300 2 0 (Rd.new8 _ _ [172, 2, 9] _ rfl) (by decide) (by simp [maxLen]) rfl (by decide)).mono ?_
  rintro e w1 ⟨rfl, hw⟩
  have hb1 : Below w.heap.size w w1 := by rw [← hw]; exact Below.alloc (Below.refl _ _) (Nat.le_refl _) _
  clear hw
  go_wp2_with fail
  refine (take_at _ _ _ [172] _ 1 0 0 2 (Rd.new8 _ _ [172] _ rfl) (by decide) (by simp [maxLen]) rfl (by decide)).mono ?_
  rintro e w2 ⟨rfl, hw⟩
  have hb2 : Below w.heap.size w w2 := by rw [← hw]; exact Below.alloc hb1 (hb1.size) _
  clear hw hb1
  go_wp2_with fail
  refine (take_at _ _ _ [128, 0] _ 2 0 0 3 (Rd.new8 _ _ [128, 0] _ rfl) (by decide) (by simp [maxLen]) rfl (by decide)).mono ?_
  rintro e w3 ⟨rfl, hw⟩
  have hb3 : Below w.heap.size w w3 := by rw [← hw]; exact Below.alloc hb2 (hb2.size) _
  clear hw hb2
  go_wp2_with fail
  refine (take_at _ _ _ [255, 255, 255, 255, 255, 255, 255, 255, 255, 2] _ 10 0 0 3 (Rd.new8 _ _ [255, 255, 255, 255, 255, 255, 255, 255, 255, 2] _ rfl) (by decide) (by simp [maxLen]) rfl (by decide)).mono ?_
  rintro e w4 ⟨rfl, hw⟩
  have hb4 : Below w.heap.size w w4 := by rw [← hw]; exact Below.alloc hb3 (hb3.size) _
  clear hw hb3
  go_wp2_with fail
  refine (takeS_at _ _ _ [5] _ 1 1 (-3) 5 (Rd.new8 _ _ [5] _ rfl) (by decide) (by simp [maxLen]) rfl (by decide) (by decide)).mono ?_
  rintro e w5 ⟨rfl, hw⟩
  have hb5 : Below w.heap.size w w5 := by rw [← hw]; exact Below.alloc hb4 hb4.size _
  clear hw hb4
  go_wp2_with fail
  refine (Put_at _ 300 [172, 2] 2 (by omega) (by omega) (by decide) rfl).mono ?_
  rintro e w6 ⟨v, rfl, hm, hb⟩
  have hb6 : Below w.heap.size w w6 := hb5.trans (hb.mono hb5.size)
  obtain ⟨A6, c6, rfl, hr6, _, _, _, _, _⟩ := hm
  clear hb hb5
  go_wp2_with fail
  refine (same_at _ _ _ _ _ [172, 2] [172, 2] _ _ 2 2 true (hr6.alloc _) (Rd.new8 _ _ [172, 2] _ rfl) (by simp [maxLen]) rfl rfl (by decide)).mono ?_
  rintro e w7 ⟨rfl, q, hw⟩
  have hb7 : Below w.heap.size w w7 := by rw [hw]; exact below_drewN (Below.alloc hb6 hb6.size _) q
  clear hw hr6 hb6
  go_wp2_with fail
  refine (Size_at _ 18446744073709551615 10 (by omega) (by omega) (by decide)).mono ?_
  rintro e w' ⟨rfl, rfl⟩
  go_wp2_with fail
  refine (Size_at _ 0 1 (by omega) (by omega) (by decide)).mono ?_
  rintro e w' ⟨rfl, rfl⟩
  go_wp2_with fail
  refine (Zig_at _ (-1) 1 (by omega) (by omega) (by decide)).mono ?_
  rintro e w' ⟨rfl, rfl⟩
  go_wp2_with fail
  refine (Zag_at _ 2 1 (by omega) (by omega) (by decide)).mono ?_
  rintro e w' ⟨rfl, rfl⟩
  go_wp2_with fail
  refine (PutS_at _ (-3) [5] 1 (by omega) (by omega) (by decide) rfl).mono ?_
  rintro e w8 ⟨v, rfl, hm, hb⟩
  have hb8 : Below w.heap.size w w8 := hb7.trans (hb.mono hb7.size)
  obtain ⟨A8, c8, rfl, hr8, _, _, _, _, _⟩ := hm
  clear hb hb7
  go_wp2_with fail
  refine (same_at _ _ _ _ _ [5] [5] _ _ 1 1 true (hr8.alloc _) (Rd.new8 _ _ [5] _ rfl) (by simp [maxLen]) rfl rfl (by decide)).mono ?_
  rintro e w9 ⟨rfl, q, hw⟩
  have hb9 : Below w.heap.size w w9 := by rw [hw]; exact below_drewN (Below.alloc hb8 hb8.size _) q
  clear hw hr8 hb8
  go_wp2_with fail
  refine (All_at _ _ _ [1, 300] _ 2 (Rd.new64 _ _ [1, 300] _ rfl) (by simp) (by decide) (by decide) rfl [1, 172, 2] 3 (by decide) rfl).mono ?_
  rintro e w10 ⟨v, rfl, hm, hb⟩
  have hb10 : Below w.heap.size w w10 := (Below.alloc hb9 hb9.size _).trans (hb.mono (Nat.le_trans hb9.size (by simp)))
  obtain ⟨A10, c10, rfl, hr10, _, _, _, _, _⟩ := hm
  clear hb hb9
  go_wp2_with fail
  refine (same_at _ _ _ _ _ [1, 172, 2] [1, 172, 2] _ _ 3 3 true (hr10.alloc _) (Rd.new8 _ _ [1, 172, 2] _ rfl) (by simp [maxLen]) rfl rfl (by decide)).mono ?_
  rintro e w11 ⟨rfl, q, hw⟩
  have hb11 : Below w.heap.size w w11 := by rw [hw]; exact below_drewN (Below.alloc hb10 hb10.size _) q
  clear hw hr10 hb10
  go_wp2
  go_ret
  exact ⟨rfl, hb11⟩
end Go.Proofs.Ytjoibfcjijddjaa
