/- Disk in memory: one flat block: room, 64 times (bytes, sure), down, fused, fuse; each file's bytes an own row, the rows apart. -/
import Derived.Test.YtahichieakdbnaaDk
namespace Go.Proofs.Ytahichieakdbnaa
open Go.ChangeShapes Go.WideShapes Go.ChangeAt Go.RowKit Go.Maps
set_option linter.unusedVariables false

/-- a file: its bytes, and how many are sure -/
abbrev Fl := List Nat × Nat
/-- the cells of files -/
def fcs : List Value → List Fl → List Value
  | v :: vs, f :: fs => v :: .int .i64 (f.2 : Int) :: fcs vs fs
  | _, _ => []
theorem fcs_length : ∀ {vs : List Value} {fs : List Fl}, vs.length = fs.length → (fcs vs fs).length = 2 * fs.length
  | [], [], _ => rfl
  | [], _ :: _, h => by simp at h
  | _ :: _, [], h => by simp at h
  | v :: vs, f :: fs, h => by
    have ih := fcs_length (vs := vs) (fs := fs) (by simpa using h)
    simp only [fcs, List.length_cons, ih]
    omega
theorem fcs_v : ∀ {vs : List Value} {fs : List Fl} {i : Nat} {v : Value}, vs.length = fs.length → vs[i]? = some v → (fcs vs fs)[2 * i]? = some v
  | [], _, i, v, _, h => by simp at h
  | _ :: _, [], _, _, h, _ => by simp at h
  | a :: vs, f :: fs, 0, v, _, h => by simpa [fcs] using h
  | a :: vs, f :: fs, i + 1, v, hl, h => by
    have ih := fcs_v (vs := vs) (fs := fs) (i := i) (v := v) (by simpa using hl) (by simpa using h)
    rw [show 2 * (i + 1) = 2 * i + 1 + 1 by omega]
    simpa [fcs] using ih
theorem fcs_s : ∀ {vs : List Value} {fs : List Fl} {i : Nat} {f : Fl}, vs.length = fs.length → fs[i]? = some f → (fcs vs fs)[2 * i + 1]? = some (.int .i64 (f.2 : Int))
  | _, [], i, f, _, h => by simp at h
  | [], _ :: _, _, _, h, _ => by simp at h
  | a :: vs, b :: fs, 0, f, _, h => by
    obtain rfl : b = f := by simpa using h
    simp [fcs]
  | a :: vs, b :: fs, i + 1, f, hl, h => by
    have ih := fcs_s (vs := vs) (fs := fs) (i := i) (f := f) (by simpa using hl) (by simpa using h)
    rw [show 2 * (i + 1) + 1 = 2 * i + 1 + 1 + 1 by omega]
    simpa [fcs] using ih
/-- block g is a disk -/
def DskM (w : World) (g : Nat) (room : Nat) (vs : List Value) (fs : List Fl) (down fused : Bool) (fuse : Nat) : Prop :=
  vs.length = 64 ∧ fs.length = 64 ∧ Blk w g 119 (Value.int .i64 (room : Int) :: (fcs vs fs ++ [.bool down, .bool fused, .int .i64 (fuse : Int)])).toArray ∧
  (∀ (i : Nat) (v : Value) (f : Fl), vs[i]? = some v → fs[i]? = some f → w.ownsRow 0 5 1 v f.1.length (u8s f.1)) ∧
  ∀ (i j : Nat) (v v' : Value), i ≠ j → vs[i]? = some v → vs[j]? = some v' → ∀ b, v.ownBlock = some b → v'.ownBlock ≠ some b
namespace DskM
variable {w w' : World} {g room fuse : Nat} {vs : List Value} {fs : List Fl} {down fused : Bool}
theorem below (h : DskM w g room vs fs down fused fuse) (hb : Below w.heap.size w w') : DskM w' g room vs fs down fused fuse :=
  ⟨h.1, h.2.1, h.2.2.1.below hb h.2.2.1.lt, fun i v f hv hf => own_below (h.2.2.2.1 i v f hv hf) hb, h.2.2.2.2⟩
theorem fl (h : DskM w g room vs fs down fused fuse) : (fcs vs fs).length = 128 := by rw [fcs_length (h.1.trans h.2.1.symm), h.2.1]
theorem room0 (h : DskM w g room vs fs down fused fuse) : w.cell? ⟨g, 0, none⟩ = some (.int .i64 (room : Int)) := by
  rw [h.2.2.1.cell 0]; simp
theorem bytes (h : DskM w g room vs fs down fused fuse) {i : Nat} {v : Value} (hv : vs[i]? = some v) : w.cell? ⟨g, 2 * i + 1, none⟩ = some v := by
  have h1 := fcs_v (h.1.trans h.2.1.symm) hv
  have h2 := (List.getElem?_eq_some_iff.1 h1).1
  rw [h.2.2.1.cell, List.getElem?_toArray, List.getElem?_cons_succ, List.getElem?_append_left h2, h1]
theorem sure (h : DskM w g room vs fs down fused fuse) {i : Nat} {f : Fl} (hf : fs[i]? = some f) : w.cell? ⟨g, 2 * i + 2, none⟩ = some (.int .i64 (f.2 : Int)) := by
  have h1 := fcs_s (h.1.trans h.2.1.symm) hf
  have h2 := (List.getElem?_eq_some_iff.1 h1).1
  rw [h.2.2.1.cell, List.getElem?_toArray, show 2 * i + 2 = (2 * i + 1) + 1 from rfl, List.getElem?_cons_succ, List.getElem?_append_left h2, h1]
theorem down0 (h : DskM w g room vs fs down fused fuse) : w.cell? ⟨g, 129, none⟩ = some (.bool down) := by
  rw [h.2.2.1.cell, List.getElem?_toArray, show 129 = 128 + 1 from rfl, List.getElem?_cons_succ, List.getElem?_append_right (by rw [h.fl]; exact Nat.le_refl _), h.fl]; rfl
theorem fused0 (h : DskM w g room vs fs down fused fuse) : w.cell? ⟨g, 130, none⟩ = some (.bool fused) := by
  rw [h.2.2.1.cell, List.getElem?_toArray, show 130 = 129 + 1 from rfl, List.getElem?_cons_succ, List.getElem?_append_right (by rw [h.fl]; decide), h.fl]; rfl
theorem fuse0 (h : DskM w g room vs fs down fused fuse) : w.cell? ⟨g, 131, none⟩ = some (.int .i64 (fuse : Int)) := by
  rw [h.2.2.1.cell, List.getElem?_toArray, show 131 = 130 + 1 from rfl, List.getElem?_cons_succ, List.getElem?_append_right (by rw [h.fl]; decide), h.fl]; rfl
end DskM
end Go.Proofs.Ytahichieakdbnaa
