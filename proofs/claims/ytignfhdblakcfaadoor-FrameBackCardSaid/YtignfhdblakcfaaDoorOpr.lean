/- A slice of slices of bytes that comes in, opened. -/
import Derived.Test.YtignfhdblakcfaaDoorFal
import Derived.Deep.Slices
import Derived.OpenShut
import Derived.ChangeSlices
namespace Go.Proofs.YtignfhdblakcfaaDoor
open Go.ChangeShapes Go.WideShapes Go.ChangeAt Go.RowKit Go.Deep
set_option linter.unusedVariables false

theorem add_shape {a : Addr} {k : Nat} {w : World} {v : Value} (h : w.cell? (a.add k) = some v) : a.add k = ⟨a.block, a.off + k, none⟩ := by
  obtain ⟨b, o, s⟩ := a
  rcases Nat.eq_zero_or_pos k with h0 | h0
  · subst h0
    have hs : s = none := by
      have h1 := World.cell?_spot h
      unfold Addr.add at h1
      rw [if_pos rfl] at h1
      exact h1
    subst hs
    simp [Addr.add]
  · simp [Addr.add, Nat.ne_of_gt h0]
theorem spot_zero {a : Addr} {w : World} {v : Value} (h : w.cell? (a.add 0) = some v) : a.spot = none := by
  have h1 := World.cell?_spot h
  unfold Addr.add at h1
  rw [if_pos rfl] at h1
  exact h1
theorem cellsS : Tryd.prog.cellsOf 22 = 1 := by kernel_rfl
theorem open_bytes {H : Type} {enc : TypeId × Value → H} {W : World} {b : Nat} {held : Bool} {v : Value} {fuel : Nat} {x : DataW H × List MemPlace}
    (h : DataW.trod enc Tryd.prog W b (fun _ => true) held fuel 22 [v] = some x) : ∃ q : List Nat, IsB W W.heap.size v q := by
  rcases open_ints Tryd.underlying22 Tryd.underlying5 (by kernel_rfl) h with ⟨hcs, _⟩ | ⟨a, l, c, zs, hcs, _, hl, hm, hz, _, hcell, hwz⟩
  · simp at hcs
    subst hcs
    exact ⟨[], none, 0, rfl, Rd.nil _ _ _, Nat.le_refl _, Nat.zero_le _, fun _ => rfl, by simp⟩
  · simp at hcs
    subst hcs
    obtain ⟨bs, h1, h2, h3, h4, h5, h6⟩ := row8 (w := W) (a := some a) (len := l) (cap := c) (zs := zs) (.inr ⟨_, rfl, hl, hm, by simpa using hz, hcell, hwz⟩)
    exact ⟨bs, some a, c, by rw [h1], h3, by rw [h1]; exact h4, h5, h6, h2⟩
set_option maxRecDepth 100000 in
theorem open_rows {H : Type} {enc : TypeId × Value → H} {W : World} {b : Nat} {held : Bool} {A : Option Addr} {len cap : Nat} {d : DataW H} {p : List MemPlace}
    (h : DataW.Trod enc Tryd.prog W b (fun _ => true) held 23 (.slice A len cap) d p) :
    ∃ ps : List (List Nat), ps.length = len ∧ len ≤ cap ∧ cap ≤ maxLen ∧ RowsB W W.heap.size A ps := by
  obtain ⟨fuel, hf⟩ := h
  rcases open_slice1 Tryd.underlying23 cellsS hf with ⟨hcs, _⟩ | ⟨a, l, c, m, n, V, D, Pl, hcs, hb, hl, hm, hmm, _, hx⟩
  · simp [Value.cells] at hcs
    obtain ⟨rfl, rfl, rfl⟩ := hcs
    exact ⟨[], rfl, Nat.le_refl _, Nat.zero_le _, [], rfl, Rd.nil _ _ _, fun j v p hv => by simp at hv⟩
  · simp [Value.cells] at hcs
    obtain ⟨rfl, rfl, rfl⟩ := hcs
    have hlm : len ≤ m := by rw [hmm]; split <;> omega
    obtain ⟨f, hf'⟩ := choose_lt (α := List Nat) (n := len) (p := fun i q => W.cell? (a.add i) = some (V i) ∧ IsB W W.heap.size (V i) q) (fun i hi => by
      obtain ⟨h1, h2⟩ := hx i (by omega)
      obtain ⟨q, hq⟩ := open_bytes h2
      exact ⟨q, h1, hq⟩)
    refine ⟨(List.range len).map f, by simp, hl, hm, (List.range len).map V, by simp, fun hne => ?_, fun j v q hv hq => ?_⟩
    · have hpos : 0 < len := by
        rcases Nat.eq_zero_or_pos len with h0 | h0
        · subst h0; exact absurd rfl hne
        · exact h0
      have e0 := (hf' 0 hpos).1
      have hs := spot_zero e0
      have ha := add_shape e0
      obtain ⟨g, o, s⟩ := a
      simp only at hs
      subst hs
      have hg : g < W.heap.size := by
        rw [ha] at e0
        exact World.block_lt_of_cell? _ _ e0
      refine ⟨g, o, rfl, hg, fun j u hu => ?_⟩
      have hj : j < len := by
        have := (List.getElem?_eq_some_iff.1 hu).1
        simpa using this
      have hu2 : V j = u := by simpa [hj] using hu
      have d0 := (hf' j hj).1
      have q0 := add_shape d0
      rw [q0] at d0
      rw [← hu2]
      exact d0
    · have hj : j < len := by
        have := (List.getElem?_eq_some_iff.1 hv).1
        simpa using this
      have hv2 : V j = v := by simpa [hj] using hv
      have hq2 : f j = q := by simpa [hj] using hq
      rw [← hv2, ← hq2]
      exact (hf' j hj).2
end Go.Proofs.YtignfhdblakcfaaDoor
