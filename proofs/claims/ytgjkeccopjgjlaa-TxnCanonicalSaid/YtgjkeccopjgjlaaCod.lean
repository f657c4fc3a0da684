/- txn.Coder: what it is; New, Clock. -/
import Derived.Test.YtgjkeccopjgjlaaDpt
import Derived.Test.YtgjkeccopjgjlaaTm
namespace Go.Proofs.Ytgjkeccopjgjlaa
open Go.ChangeShapes Go.WideShapes Go.ChangeAt Go.RowKit
set_option linter.unusedVariables false
set_option linter.unusedSimpArgs false

abbrev Tri3 := Int × Int × Int
def ccs (d : Nat) (c : Tri3) : Array Value := #[.pointer (some ⟨d, 0, none⟩), .int .i64 c.1, .int .i64 c.2.1, .int .i64 c.2.2]
def rightT (c : Tri3) : Prop := rightB c.1 c.2.1 c.2.2 = true
/-- block g is a coder: its dictionary's keys, how many came, its clock; in the blocks of S -/
def CodM (w : World) (g : Nat) (S : Nat → Prop) (ks : List ByteArray) (e : Nat) (c : Tri3) : Prop :=
  ∃ d T, Blk w g 78 (ccs d c) ∧ DictM w d T ks e ∧ ¬ T g ∧ rightT c ∧ ∀ j, S j ↔ (j = g ∨ T j)
theorem CodM.only {w w' : World} {g : Nat} {S T : Nat → Prop} {ks : List ByteArray} {e : Nat} {c : Tri3} (h : CodM w g S ks e c) (ho : Only T w w') (hT : ∀ j, T j → S j → False) : CodM w' g S ks e c := by
  obtain ⟨d, U, h1, h2, h3, h4, h5⟩ := h
  exact ⟨d, U, ho.blk h1 (fun ht => hT _ ht ((h5 g).2 (.inl rfl))), h2.only ho (fun j hj hu => hT j hj ((h5 j).2 (.inr hu))), h3, h4, h5⟩
theorem CodM.below {w w' : World} {g : Nat} {S : Nat → Prop} {ks : List ByteArray} {e : Nat} {c : Tri3} (h : CodM w g S ks e c) (hb : Below w.heap.size w w') : CodM w' g S ks e c := h.only (Only.of_below (S := fun _ => False) hb) (fun _ h _ => h)
theorem CodM.lt {w : World} {g : Nat} {S : Nat → Prop} {ks : List ByteArray} {e : Nat} {c : Tri3} (h : CodM w g S ks e c) : ∀ j, S j → j < w.heap.size := by
  obtain ⟨d, U, h1, h2, h3, h4, h5⟩ := h
  intro j hj
  rcases (h5 j).1 hj with rfl | hj
  · exact h1.lt
  · exact h2.lt j hj
theorem CodM.self {w : World} {g : Nat} {S : Nat → Prop} {ks : List ByteArray} {e : Nat} {c : Tri3} (h : CodM w g S ks e c) : S g := by
  obtain ⟨d, U, h1, h2, h3, h4, h5⟩ := h
  exact (h5 g).2 (.inl rfl)
def CNewPost (w : World) (en : Ending) (w' : World) : Prop := ∃ g S, en = .returned (.pointer (some ⟨g, 0, none⟩)) ∧ CodM w' g S [] 0 (0, 0, 0) ∧ (∀ j, S j → w.heap.size ≤ j) ∧ Below w.heap.size w w'
set_option maxHeartbeats 1000000 in
theorem CNew_any (w : World) : Calls Try.prog 11 #[] w (CNewPost w) := by
  go_enter Try.func11, Try.ntmps11
  go_wp2_with fail
  refine (DNew_any w).mono ?_
  rintro e1 w1 ⟨d, T, rfl, hd, hT, hb⟩
  have HP := Lib.hid (show CNewPost w (.returned (.pointer (some ⟨w1.heap.size, 0, none⟩))) (w1.alloc (.cells (ccs d (0, 0, 0)) 78)) from
    ⟨w1.heap.size, fun j => j = w1.heap.size ∨ T j, rfl, ⟨d, T, Blk.new w1 _ _, hd.below ((Below.refl _ _).alloc (Nat.le_refl _) _), fun h => by have := hd.lt _ h; omega, by show rightB 0 0 0 = true; rfl, fun j => Iff.rfl⟩, fun j hj => by
      rcases hj with rfl | hj
      · exact hb.size
      · exact hT j hj, hb.alloc hb.size _⟩)
  clear hd hT hb
  go_wp2
  go_ret
  exact HP.out
def CClkPost (w : World) (c : Tri3) (en : Ending) (w' : World) : Prop := en = .returned (.agg #[.int .i64 c.1, .int .i64 c.2.1, .int .i64 c.2.2]) ∧ Below w.heap.size w w'
set_option maxHeartbeats 1000000 in
theorem CClock_any (w : World) (g : Nat) (S : Nat → Prop) (ks : List ByteArray) (e : Nat) (c : Tri3) (h : CodM w g S ks e c) : Calls Try.prog 21 #[.pointer (some ⟨g, 0, none⟩)] w (CClkPost w c) := by
  obtain ⟨d, T, h1, -⟩ := h
  obtain ⟨x, y, z⟩ := c
  have c1 : w.cell? ⟨g, 1, none⟩ = some (.int .i64 x) := h1.cell 1
  have c2 : w.cell? ⟨g, 2, none⟩ = some (.int .i64 y) := h1.cell 2
  have c3 : w.cell? ⟨g, 3, none⟩ = some (.int .i64 z) := h1.cell 3
  have hlt := h1.lt
  have hne : g ≠ w.heap.size := by omega
  have HB : ∀ o, Hid (Below w.heap.size w (w.alloc o)) := fun o => Lib.hid ((Below.refl _ w).alloc (Nat.le_refl _) o)
  clear h1
  go_enter Try.func21, Try.ntmps21
  go_wp2
  try simp only [Exit.inBlock, Exit.then]
  refine bodyPost_ret (v := .agg #[.int .i64 x, .int .i64 y, .int .i64 z]) (by simp [results, Try.results21, go_sem, *]) rfl ⟨rfl, ?_⟩
  exact (HB _).out
end Go.Proofs.Ytgjkeccopjgjlaa
