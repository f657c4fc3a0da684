/- clock.Merge: the greatest numbers of clocks. -/
import Derived.Handy
import Derived.Test.YtgjkeccopjgjlaaClk
import Derived.Test.YtgjkeccopjgjlaaBlk
namespace Go.Proofs.Ytgjkeccopjgjlaa
open Go.ChangeShapes Go.WideShapes Go.ChangeAt Go.RowKit
set_option linter.unusedVariables false

abbrev Tri := Int × Int × Int
def cells3 (cs : List Tri) : List Value := cs.flatMap fun c => [.int .i64 c.1, .int .i64 c.2.1, .int .i64 c.2.2]
def mx (a b : Tri) : Tri := (max a.1 b.1, max a.2.1 b.2.1, max a.2.2 b.2.2)
def mergeL : List Tri → Tri
  | [] => (0, 0, 0)
  | c :: r => r.foldl mx c
theorem cells3_length (cs : List Tri) : (cells3 cs).length = 3 * cs.length := by
  induction cs with
  | nil => rfl
  | cons c r ih => simp only [cells3, List.flatMap_cons, List.length_append, List.length_cons] at ih ⊢; rw [ih]; simp; omega
theorem cells3_at {cs : List Tri} : ∀ {k : Nat}, k < cs.length → (cells3 cs)[3 * k]? = some (.int .i64 (cs[k]?.getD (0, 0, 0)).1) ∧ (cells3 cs)[3 * k + 1]? = some (.int .i64 (cs[k]?.getD (0, 0, 0)).2.1) ∧ (cells3 cs)[3 * k + 2]? = some (.int .i64 (cs[k]?.getD (0, 0, 0)).2.2) := by
  induction cs with
  | nil => intro k h; simp at h
  | cons c r ih =>
    intro k h
    cases k with
    | zero => simp [cells3]
    | succ k =>
      have := ih (k := k) (by simpa using h)
      simp only [cells3, List.flatMap_cons, List.getElem?_cons_succ] at this ⊢
      rw [show 3 * (k + 1) = 3 * k + 3 by omega]
      simpa [List.getElem?_append] using this
theorem merge_step {cs : List Tri} {k : Nat} (h : k + 1 < cs.length) : mergeL (cs.take (k + 2)) = mx (mergeL (cs.take (k + 1))) (cs[k + 1]?.getD (0, 0, 0)) := by
  cases cs with
  | nil => simp at h
  | cons c r =>
    simp only [List.take_succ_cons, mergeL, List.getElem?_cons_succ]
    have hk : k < r.length := by simpa using h
    rw [List.take_succ_eq_append_getElem hk, List.foldl_append, List.getElem?_eq_getElem hk]
    rfl
def MergePost (w : World) (t : Tri) (e : Ending) (w' : World) : Prop := e = .returned (.agg #[.int .i64 t.1, .int .i64 t.2.1, .int .i64 t.2.2]) ∧ Below w.heap.size w w'
def MergeRel (w : World) (cs : List Tri) (s18 : Value) (wr : World) : Prop :=
  ∃ (k : Nat) (x y z : Int), s18 = .int .i64 (k : Int) ∧ k + 1 ≤ cs.length ∧ (x, y, z) = mergeL (cs.take (k + 1)) ∧ Blk wr w.heap.size 29 #[.int .i64 0, .int .i64 0, .int .i64 0] ∧ Blk wr (w.heap.size + 1) 29 #[.int .i64 x, .int .i64 y, .int .i64 z] ∧ Below w.heap.size w wr

theorem merge_round {w wr : World} {cs : List Tri} {k : Nat} {x y z u v r : Int} (hk : k + 1 < cs.length) (hm : mergeL (cs.take (k + 2)) = mx (x, y, z) (u, v, r))
    (hb0 : Blk wr w.heap.size 29 #[.int .i64 0, .int .i64 0, .int .i64 0]) (hb1 : Blk wr (w.heap.size + 1) 29 #[.int .i64 x, .int .i64 y, .int .i64 z]) (hbel : Below w.heap.size w wr)
    (p q s : Int) (hp : p = max x u) (hq : q = max y v) (hs : s = max z r) (o : Obj) :
    MergeRel w cs (.int .i64 ((k : Int) + 1)) ((((wr.setCell ⟨w.heap.size + 1, 0, none⟩ (.int .i64 p)).setCell ⟨w.heap.size + 1, 1, none⟩ (.int .i64 q)).setCell ⟨w.heap.size + 1, 2, none⟩ (.int .i64 s)).alloc o) := by
  have hsz := hb1.lt
  refine ⟨k + 1, p, q, s, by go_num, by omega, ?_, ?_, ?_, ?_⟩
  · rw [hm, hp, hq, hs]; rfl
  · exact (((hb0.far (p := ⟨w.heap.size + 1, 0, none⟩) (by simp) _).far (p := ⟨w.heap.size + 1, 1, none⟩) (by simp) _).far (p := ⟨w.heap.size + 1, 2, none⟩) (by simp) _).alloc _
  · exact (((hb1.set 0 _).set 1 _).set 2 _).alloc _
  · exact (((hbel.setCell (p := ⟨w.heap.size + 1, 0, none⟩) (by simp) _).setCell (p := ⟨w.heap.size + 1, 1, none⟩) (by simp) _).setCell (p := ⟨w.heap.size + 1, 2, none⟩) (by simp) _).alloc (by have := hbel.size; simp [World.setCell]; omega) _

end Go.Proofs.Ytgjkeccopjgjlaa
