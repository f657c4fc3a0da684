/- A slice of arrays of three int64 that comes in, opened. -/
import Derived.Test.YtignfhdblakcfaaOpn
import Derived.Test.YtignfhdblakcfaaMrg
import Derived.Deep.Slices
namespace Go.Proofs.Ytignfhdblakcfaa
open Go.ChangeShapes Go.WideShapes Go.ChangeAt Go.RowKit Go.Deep
set_option linter.unusedVariables false

theorem add_shape {a : Addr} {k : Nat} {w : World} {v : Value} (h : w.cell? (a.add k) = some v) : a.add k = ⟨a.block, a.off + k, none⟩ := by
  obtain ⟨b, o, s⟩ := a
  rcases Nat.eq_zero_or_pos k with h0 | h0
  · subst h0
    have hs : s = none := by
      have h1 := World.cell?_spot h
      unfold Addr.add at h1
      rw [if_pos rfl] at h1
      exact h1
    subst hs
    simp [Addr.add]
  · simp [Addr.add, Nat.ne_of_gt h0]
theorem spot_zero {a : Addr} {w : World} {v : Value} (h : w.cell? (a.add 0) = some v) : a.spot = none := by
  have h1 := World.cell?_spot h
  unfold Addr.add at h1
  rw [if_pos rfl] at h1
  exact h1
set_option maxRecDepth 100000 in
theorem open_clks {H : Type} {enc : TypeId × Value → H} {W : World} {b : Nat} {spare : Nat → Bool} {held : Bool} {A : Option Addr} {len cap : Nat} {d : DataW H} {p : List MemPlace}
    (h : DataW.Trod enc Try.prog W b spare held 24 (.slice A len cap) d p) :
    ∃ cs : List Tri, cs.length = len ∧ len ≤ cap ∧ cap ≤ maxLen ∧ Rd W W.heap.size A (cells3 cs) := by
  obtain ⟨fuel, hf⟩ := h
  rcases open_slice Try.underlying24 hf with ⟨hcs, _⟩ | ⟨a, l, c, m, n, D, Pl, hcs, hb, hl, hm, hmm, _, hx⟩
  · simp [Value.cells] at hcs
    obtain ⟨rfl, rfl, rfl⟩ := hcs
    exact ⟨[], rfl, Nat.le_refl _, Nat.zero_le _, Rd.nil _ _ _⟩
  · simp [Value.cells] at hcs
    obtain ⟨rfl, rfl, rfl⟩ := hcs
    have hlm : len ≤ m := by rw [hmm]; split <;> omega
    obtain ⟨f, hf'⟩ := choose_lt (α := Tri) (n := len) (p := fun i t => W.cell? ((a.add (i * 3)).add 0) = some (.int .i64 t.1) ∧ W.cell? ((a.add (i * 3)).add 1) = some (.int .i64 t.2.1) ∧ W.cell? ((a.add (i * 3)).add 2) = some (.int .i64 t.2.2)) (fun i hi => by
      obtain ⟨cs', h1, h2⟩ := hx i (by omega)
      rw [cellsClk] at h1
      obtain ⟨_, hlen, hc⟩ := World.cells?_some h1
      obtain ⟨v0, v1, v2, rfl⟩ : ∃ x y z, cs' = [x, y, z] := list3 cs' (by simpa using hlen)
      obtain ⟨y0, y1, y2, m', hx', hy0, hy1, hy2⟩ := trod_array3 Try.underlying23 cellsI64 h2
      obtain ⟨x0, e0, rfl, w0⟩ := DataW.trod_int Try.underlying2 hy0
      obtain ⟨x1, e1, rfl, w1⟩ := DataW.trod_int Try.underlying2 hy1
      obtain ⟨x2, e2, rfl, w2⟩ := DataW.trod_int Try.underlying2 hy2
      simp at e0 e1 e2
      subst e0 e1 e2
      exact ⟨(x0, x1, x2), by simpa using hc 0 (by omega), by simpa using hc 1 (by omega), by simpa using hc 2 (by omega)⟩)
    refine ⟨(List.range len).map f, by simp, hl, hm, fun hne => ?_⟩
    have hpos : 0 < len := by
      rcases Nat.eq_zero_or_pos len with h0 | h0
      · subst h0; exact absurd rfl hne
      · exact h0
    have hz := hf' 0 hpos
    have e0 := hz.1
    rw [Nat.zero_mul, add_add] at e0
    have hs := spot_zero e0
    have ha := add_shape e0
    obtain ⟨g, o, s⟩ := a
    simp only at hs
    subst hs
    have hg : g < W.heap.size := by
      rw [ha] at e0
      exact World.block_lt_of_cell? _ _ e0
    refine ⟨g, o, rfl, hg, fun j u hu => ?_⟩
    have hj : j < 3 * len := by
      have := (List.getElem?_eq_some_iff.1 hu).1
      rw [cells3_length] at this
      simpa using this
    have hq : j / 3 < len := by omega
    obtain ⟨c0, c1, c2⟩ := cells3_at (cs := (List.range len).map f) (k := j / 3) (by simpa using hq)
    have hget : (((List.range len).map f)[j / 3]?.getD (0, 0, 0)) = f (j / 3) := by simp [hq]
    rw [hget] at c0 c1 c2
    obtain ⟨d0, d1, d2⟩ := hf' (j / 3) hq
    rw [add_add] at d0 d1 d2
    have q0 := add_shape d0
    have q1 := add_shape d1
    have q2 := add_shape d2
    rw [q0] at d0
    rw [q1] at d1
    rw [q2] at d2
    simp only at d0 d1 d2
    have h3 : j % 3 = 0 ∨ j % 3 = 1 ∨ j % 3 = 2 := by omega
    rcases h3 with h3 | h3 | h3
    · rw [show j = 3 * (j / 3) by omega, c0] at hu
      rw [show o + j = o + (j / 3 * 3 + 0) by omega, d0]
      exact hu
    · rw [show j = 3 * (j / 3) + 1 by omega, c1] at hu
      rw [show o + j = o + (j / 3 * 3 + 1) by omega, d1]
      exact hu
    · rw [show j = 3 * (j / 3) + 2 by omega, c2] at hu
      rw [show o + j = o + (j / 3 * 3 + 2) by omega, d2]
      exact hu
end Go.Proofs.Ytignfhdblakcfaa
