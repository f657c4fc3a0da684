/- Disk: one file turns, or a flag; the blocks of a disk. -/
import Derived.Test.YtahichieakdbnaaDq
import Derived.Test.YtahichieakdbnaaAz
namespace Go.Proofs.Ytahichieakdbnaa
open Go.ChangeShapes Go.WideShapes Go.ChangeAt Go.RowKit Go.Maps
set_option linter.unusedVariables false
set_option linter.unusedSimpArgs false

theorem fcs_setV : ∀ {vs : List Value} {fs : List Fl} (i : Nat) (v : Value), vs.length = fs.length → (fcs vs fs).set (2 * i) v = fcs (vs.set i v) fs
  | [], [], i, v, _ => by simp [fcs]
  | [], _ :: _, _, _, h => by simp at h
  | _ :: _, [], _, _, h => by simp at h
  | a :: vs, f :: fs, 0, v, h => by simp [fcs]
  | a :: vs, f :: fs, i + 1, v, h => by
    have ih := fcs_setV (vs := vs) (fs := fs) i v (by simpa using h)
    rw [show 2 * (i + 1) = 2 * i + 1 + 1 by omega]
    simp [fcs, ih]
theorem fcs_setS : ∀ {vs : List Value} {fs : List Fl} (i : Nat) (bs : List Nat) (s : Nat), vs.length = fs.length → (fcs vs fs).set (2 * i + 1) (.int .i64 (s : Int)) = fcs vs (fs.set i (bs, s))
  | [], [], i, bs, s, _ => by simp [fcs]
  | [], _ :: _, _, _, _, h => by simp at h
  | _ :: _, [], _, _, _, h => by simp at h
  | a :: vs, f :: fs, 0, bs, s, h => by simp [fcs]
  | a :: vs, f :: fs, i + 1, bs, s, h => by
    have ih := fcs_setS (vs := vs) (fs := fs) i bs s (by simpa using h)
    rw [show 2 * (i + 1) + 1 = 2 * i + 1 + 1 + 1 by omega]
    simp [fcs, ih]
theorem fcs_same : ∀ {vs : List Value} {fs gs : List Fl}, fs.map (·.2) = gs.map (·.2) → fcs vs fs = fcs vs gs
  | [], fs, gs, h => by simp [fcs]
  | a :: vs, [], [], h => rfl
  | a :: vs, [], _ :: _, h => by simp at h
  | a :: vs, _ :: _, [], h => by simp at h
  | a :: vs, f :: fs, g :: gs, h => by
    simp at h
    simp [fcs, h.1, fcs_same (vs := vs) (fs := fs) (gs := gs) h.2]
theorem map_set_snd {fs : List Fl} {i : Nat} {f : Fl} (hf : fs[i]? = some f) (bs : List Nat) : (fs.set i (bs, f.2)).map (·.2) = fs.map (·.2) := by
  rw [List.map_set]
  apply List.ext_getElem?
  intro j
  by_cases hj : i = j
  · subst hj
    obtain ⟨hl, he⟩ := List.getElem?_eq_some_iff.1 hf
    rw [List.getElem?_set_self (by simpa using hl), List.getElem?_map, hf]
    rfl
  · rw [List.getElem?_set_ne hj]
/-- a disk's blocks -/
def DS (g : Nat) (vs : List Value) (j : Nat) : Prop := j = g ∨ ∃ (i : Nat) (v : Value), vs[i]? = some v ∧ v.ownBlock = some j
namespace DskM
variable {w w' w2 : World} {g room fuse : Nat} {vs : List Value} {fs : List Fl} {down fused : Bool}
theorem lt (h : DskM w g room vs fs down fused fuse) : ∀ j, DS g vs j → j < w.heap.size := by
  rintro j (rfl | ⟨i, v, hv, hj⟩)
  · exact h.2.2.1.lt
  · obtain ⟨f, hf⟩ : ∃ f, fs[i]? = some f := ⟨_, List.getElem?_eq_getElem (by have := (List.getElem?_eq_some_iff.1 hv).1; rw [h.2.1]; rw [h.1] at this; exact this)⟩
    exact own_lt (h.2.2.2.1 i v f hv hf) j hj
theorem ne_own (h : DskM w g room vs fs down fused fuse) {i : Nat} {v : Value} (hv : vs[i]? = some v) : v.ownBlock ≠ some g := by
  intro hj
  obtain ⟨f, hf⟩ : ∃ f, fs[i]? = some f := ⟨_, List.getElem?_eq_getElem (by have := (List.getElem?_eq_some_iff.1 hv).1; rw [h.2.1]; rw [h.1] at this; exact this)⟩
  exact own_ne_blk (h.2.2.2.1 i v f hv hf) h.2.2.1 (by decide) g hj rfl
theorem only {S : Nat → Prop} (h : DskM w g room vs fs down fused fuse) (ho : Only S w w') (hS : ∀ j, DS g vs j → ¬ S j) : DskM w' g room vs fs down fused fuse :=
  ⟨h.1, h.2.1, ho.blk h.2.2.1 (hS g (.inl rfl)), fun i v f hv hf => ho.own (h.2.2.2.1 i v f hv hf) (fun j hj => hS j (.inr ⟨i, v, hv, hj⟩)), h.2.2.2.2⟩
/-- a file's bytes become others, in its own block or a new one -/
theorem setV (h : DskM w g room vs fs down fused fuse) {i : Nat} {v v' : Value} {f : Fl} {bs : List Nat} (hv : vs[i]? = some v) (hf : fs[i]? = some f)
    (hg : w.grownBy w2 v.ownBlock) (ho : w2.ownsRow 0 5 1 v' bs.length (u8s bs)) (hb : ∀ j, v'.ownBlock = some j → v.ownBlock = some j ∨ w.heap.size ≤ j) :
    DskM (w2.setCell ⟨g, 1 + i * 2, none⟩ v') g room (vs.set i v') (fs.set i (bs, f.2)) down fused fuse := by
  have hne := h.ne_own hv
  have hb2 : Blk w2 g 119 _ := h.2.2.1.grown hg (fun e => hne e.symm)
  have hlv := h.1
  have hlf := h.2.1
  have hil : i < 64 := by have := (List.getElem?_eq_some_iff.1 hv).1; omega
  have hgl : g < w2.heap.size := hb2.lt
  have ho2 : ∀ {base n : Nat} {u : Value} {xs : List Value}, w2.ownsRow base 5 1 u n xs → (w2.setCell ⟨g, 1 + i * 2, none⟩ v').ownsRow base 5 1 u n xs := by
    intro base n u xs hu
    have hne2 := own_ne_blk hu hb2 (by decide)
    exact Only.own (Only.set (S := fun j => j = g) (Only.refl _ w2) rfl _ _) hu (fun j hj => hne2 j hj)
  refine ⟨by simpa using hlv, by simpa using hlf, ?_, ?_, ?_⟩
  · have hk := hb2.set (1 + i * 2) v'
    have e1 : (Value.int .i64 (room : Int) :: (fcs vs fs ++ [.bool down, .bool fused, .int .i64 (fuse : Int)])).toArray.setIfInBounds (1 + i * 2) v' = (Value.int .i64 (room : Int) :: (fcs (vs.set i v') (fs.set i (bs, f.2)) ++ [.bool down, .bool fused, .int .i64 (fuse : Int)])).toArray := by
      rw [List.setIfInBounds_toArray, show 1 + i * 2 = 2 * i + 1 by omega, List.set_cons_succ, List.set_append_left _ _ (by rw [h.fl]; omega), fcs_setV i v' (hlv.trans hlf.symm), fcs_same (map_set_snd hf bs)]
    rw [e1] at hk
    exact hk
  · intro j u k hu hk
    by_cases hj : i = j
    · subst hj
      rw [List.getElem?_set_self (by omega)] at hu hk
      injection hu with hu
      injection hk with hk
      subst hu hk
      exact ho2 ho
    · rw [List.getElem?_set_ne hj] at hu hk
      exact ho2 (Only.own (Only.of_grown (S := fun b => v.ownBlock = some b) hg (fun j h => h)) (h.2.2.2.1 j u k hu hk) (fun b hb' e => h.2.2.2.2 i j v u hj hv hu b e hb'))
  · intro a b u u' hab hu hu' k hk hk'
    by_cases ha : i = a
    · subst ha
      rw [List.getElem?_set_self (by omega)] at hu
      rw [List.getElem?_set_ne hab] at hu'
      injection hu with hu
      subst hu
      rcases hb k hk with h1 | h1
      · exact h.2.2.2.2 i b v u' hab hv hu' k h1 hk'
      · have := h.lt k (.inr ⟨b, u', hu', hk'⟩)
        omega
    · by_cases hc : i = b
      · subst hc
        rw [List.getElem?_set_self (by omega)] at hu'
        rw [List.getElem?_set_ne ha] at hu
        injection hu' with hu'
        subst hu'
        rcases hb k hk' with h1 | h1
        · exact h.2.2.2.2 i a v u (fun e => ha e) hv hu k h1 hk
        · have := h.lt k (.inr ⟨a, u, hu, hk⟩)
          omega
      · rw [List.getElem?_set_ne ha] at hu
        rw [List.getElem?_set_ne hc] at hu'
        exact h.2.2.2.2 a b u u' hab hu hu' k hk hk'
theorem cellset (h : DskM w g room vs fs down fused fuse) (k : Nat) (u : Value) {fs' : List Fl} {down' fused' : Bool} {fuse' : Nat} (hl : fs'.length = 64)
    (hbytes : ∀ (i : Nat) (f : Fl), fs'[i]? = some f → ∃ f', fs[i]? = some f' ∧ f'.1 = f.1)
    (e : (fcs vs fs ++ [Value.bool down, Value.bool fused, Value.int .i64 (fuse : Int)]).set k u = fcs vs fs' ++ [Value.bool down', Value.bool fused', Value.int .i64 (fuse' : Int)]) : DskM (w.setCell ⟨g, k + 1, none⟩ u) g room vs fs' down' fused' fuse' := by
  have ho2 : ∀ {base n : Nat} {x : Value} {xs : List Value}, w.ownsRow base 5 1 x n xs → (w.setCell ⟨g, k + 1, none⟩ u).ownsRow base 5 1 x n xs := by
    intro base n x xs hu
    have hne2 := own_ne_blk hu h.2.2.1 (by decide)
    exact Only.own (Only.set (S := fun j => j = g) (Only.refl _ w) rfl _ _) hu (fun j hj => hne2 j hj)
  refine ⟨h.1, hl, ?_, ?_, h.2.2.2.2⟩
  · have hk := h.2.2.1.set (k + 1) u
    rw [List.setIfInBounds_toArray, List.set_cons_succ, e] at hk
    exact hk
  · intro i v f hv hf
    obtain ⟨f', hf', e'⟩ := hbytes i f hf
    have := h.2.2.2.1 i v f' hv hf'
    rw [e'] at this
    exact ho2 this
theorem setS (h : DskM w g room vs fs down fused fuse) {i : Nat} {f : Fl} (hf : fs[i]? = some f) (s : Nat) : DskM (w.setCell ⟨g, 1 + i * 2 + 1, none⟩ (.int .i64 (s : Int))) g room vs (fs.set i (f.1, s)) down fused fuse := by
  have hil := (List.getElem?_eq_some_iff.1 hf).1
  refine h.cellset (1 + i * 2) _ (by simpa using h.2.1) ?_ ?_
  · intro j k hk
    by_cases hj : i = j
    · subst hj
      rw [List.getElem?_set_self hil] at hk
      injection hk with hk
      subst hk
      exact ⟨f, hf, rfl⟩
    · rw [List.getElem?_set_ne hj] at hk
      exact ⟨k, hk, rfl⟩
  · rw [List.set_append_left _ _ (by have := h.fl; have := h.2.1; omega), show 1 + i * 2 = 2 * i + 1 by omega, fcs_setS i f.1 s (h.1.trans h.2.1.symm)]
theorem setDown (h : DskM w g room vs fs down fused fuse) (b : Bool) : DskM (w.setCell ⟨g, 129, none⟩ (.bool b)) g room vs fs b fused fuse := by
  refine h.cellset 128 _ h.2.1 (fun i f hf => ⟨f, hf, rfl⟩) ?_
  rw [List.set_append_right _ _ (by rw [h.fl]; exact Nat.le_refl _), h.fl]
  rfl
theorem setFused (h : DskM w g room vs fs down fused fuse) (b : Bool) : DskM (w.setCell ⟨g, 130, none⟩ (.bool b)) g room vs fs down b fuse := by
  refine h.cellset 129 _ h.2.1 (fun i f hf => ⟨f, hf, rfl⟩) ?_
  rw [List.set_append_right _ _ (by rw [h.fl]; decide), h.fl]
  rfl
theorem setFuse (h : DskM w g room vs fs down fused fuse) (n : Nat) : DskM (w.setCell ⟨g, 131, none⟩ (.int .i64 (n : Int))) g room vs fs down fused n := by
  refine h.cellset 130 _ h.2.1 (fun i f hf => ⟨f, hf, rfl⟩) ?_
  rw [List.set_append_right _ _ (by rw [h.fl]; decide), h.fl]
  rfl
end DskM
theorem DS_set {g i : Nat} {vs : List Value} {v v' : Value} {w : World} (hv : vs[i]? = some v) (hb : ∀ j, v'.ownBlock = some j → v.ownBlock = some j ∨ w.heap.size ≤ j) : Sub w (DS g vs) (DS g (vs.set i v')) := by
  rintro j (rfl | ⟨a, u, hu, hj⟩)
  · exact .inl (.inl rfl)
  · by_cases ha : i = a
    · subst ha
      rw [List.getElem?_set_self (List.getElem?_eq_some_iff.1 hv).1] at hu
      injection hu with hu
      subst hu
      rcases hb j hj with h1 | h1
      · exact .inl (.inr ⟨i, v, hv, h1⟩)
      · exact .inr h1
    · rw [List.getElem?_set_ne ha] at hu
      exact .inl (.inr ⟨a, u, hu, hj⟩)
end Go.Proofs.Ytahichieakdbnaa
