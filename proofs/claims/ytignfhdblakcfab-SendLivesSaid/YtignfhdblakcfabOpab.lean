/- A slice of structs of five int64/int that comes in, opened. -/
import Derived.Deep.Slices
import Derived.Test.YtignfhdblakcfabLrg
import Derived.Deep.Fields
namespace Go.Proofs.Ytignfhdblakcfab
open Go.ChangeShapes Go.WideShapes Go.ChangeAt Go.RowKit Go.Deep
set_option linter.unusedVariables false

theorem add_shape {a : Addr} {k : Nat} {w : World} {v : Value} (h : w.cell? (a.add k) = some v) : a.add k = ⟨a.block, a.off + k, none⟩ := by
  obtain ⟨b, o, s⟩ := a
  rcases Nat.eq_zero_or_pos k with h0 | h0
  · subst h0
    have hs : s = none := by
      have h1 := World.cell?_spot h
      unfold Addr.add at h1
      rw [if_pos rfl] at h1
      exact h1
    subst hs
    simp [Addr.add]
  · simp [Addr.add, Nat.ne_of_gt h0]
theorem spot_zero {a : Addr} {w : World} {v : Value} (h : w.cell? (a.add 0) = some v) : a.spot = none := by
  have h1 := World.cell?_spot h
  unfold Addr.add at h1
  rw [if_pos rfl] at h1
  exact h1
theorem cellsI64 : Try.prog.cellsOf 2 = 1 := by kernel_rfl
theorem list5 {α : Type} (l : List α) (h : l.length = 5) : ∃ a b c d e, l = [a, b, c, d, e] := by
  match l, h with
  | [a, b, c, d, e], _ => exact ⟨a, b, c, d, e, rfl⟩
theorem cellsAct : Try.prog.cellsOf 30 = 5 := by kernel_rfl
theorem trod_struct5 {H : Type} {enc : TypeId × Value → H} {P : Program} {w : World} {base : Nat} {spare : Nat → Bool} {held : Bool} {t : TypeId} {f0 f1 f2 f3 f4 : Field} {fuel : Nat} {c0 c1 c2 c3 c4 : Value} {x : DataW H × List MemPlace} (ht : P.underlying t = some (.struct #[f0, f1, f2, f3, f4])) (hone : oneCellFields P #[f0, f1, f2, f3, f4] = true)
    (h : DataW.trod enc P w base spare held fuel t [c0, c1, c2, c3, c4] = some x) :
    ∃ y0 y1 y2 y3 y4 n, DataW.trod enc P w base spare held n f0.type [c0] = some y0 ∧ DataW.trod enc P w base spare held n f1.type [c1] = some y1 ∧ DataW.trod enc P w base spare held n f2.type [c2] = some y2 ∧ DataW.trod enc P w base spare held n f3.type [c3] = some y3 ∧ DataW.trod enc P w base spare held n f4.type [c4] = some y4 := by
  obtain ⟨xs, n, _, hx, _, hlen, hg⟩ := DataW.trod_struct ht h
  obtain ⟨o0, k0⟩ := hone_of hone 0 f0 rfl
  obtain ⟨o1, k1⟩ := hone_of hone 1 f1 rfl
  obtain ⟨o2, k2⟩ := hone_of hone 2 f2 rfl
  obtain ⟨o3, k3⟩ := hone_of hone 3 f3 rfl
  obtain ⟨o4, k4⟩ := hone_of hone 4 f4 rfl
  match xs, hlen with
  | [y0, y1, y2, y3, y4], _ =>
    exact ⟨y0, y1, y2, y3, y4, n, by simpa [o0, k0] using hg 0 f0 rfl, by simpa [o1, k1] using hg 1 f1 rfl, by simpa [o2, k2] using hg 2 f2 rfl, by simpa [o3, k3] using hg 3 f3 rfl, by simpa [o4, k4] using hg 4 f4 rfl⟩
set_option maxRecDepth 100000 in
theorem open_acts {H : Type} {enc : TypeId × Value → H} {W : World} {b : Nat} {spare : Nat → Bool} {held : Bool} {A : Option Addr} {len cap : Nat} {d : DataW H} {p : List MemPlace}
    (h : DataW.Trod enc Try.prog W b spare held 22 (.slice A len cap) d p) :
    ∃ cs : List Act5, cs.length = len ∧ len ≤ cap ∧ cap ≤ maxLen ∧ Rd W W.heap.size A (cells5 cs) := by
  obtain ⟨fuel, hf⟩ := h
  rcases open_slice Try.underlying22 hf with ⟨hcs, _⟩ | ⟨a, l, c, m, n, D, Pl, hcs, hb, hl, hm, hmm, _, hx⟩
  · simp [Value.cells] at hcs
    obtain ⟨rfl, rfl, rfl⟩ := hcs
    exact ⟨[], rfl, Nat.le_refl _, Nat.zero_le _, Rd.nil _ _ _⟩
  · simp [Value.cells] at hcs
    obtain ⟨rfl, rfl, rfl⟩ := hcs
    have hlm : len ≤ m := by rw [hmm]; split <;> omega
    obtain ⟨f, hf'⟩ := choose_lt (α := Act5) (n := len) (p := fun i t => W.cell? ((a.add (i * 5)).add 0) = some (.int .i64 t.1) ∧ W.cell? ((a.add (i * 5)).add 1) = some (.int .i64 t.2.1) ∧ W.cell? ((a.add (i * 5)).add 2) = some (.int .i64 t.2.2.1) ∧ W.cell? ((a.add (i * 5)).add 3) = some (.int .i64 t.2.2.2.1) ∧ W.cell? ((a.add (i * 5)).add 4) = some (.int .i64 t.2.2.2.2)) (fun i hi => by
      obtain ⟨cs', h1, h2⟩ := hx i (by omega)
      rw [cellsAct] at h1
      obtain ⟨_, hlen, hc⟩ := World.cells?_some h1
      obtain ⟨v0, v1, v2, v3, v4, rfl⟩ := list5 cs' (by simpa using hlen)
      obtain ⟨y0, y1, y2, y3, y4, m', hy0, hy1, hy2, hy3, hy4⟩ := trod_struct5 Try.underlying30 (by kernel_rfl) h2
      obtain ⟨x0, e0, -, w0⟩ := DataW.trod_int Try.underlying3 hy0
      obtain ⟨x1, e1, -, w1⟩ := DataW.trod_int Try.underlying2 hy1
      obtain ⟨x2, e2, -, w2⟩ := DataW.trod_int Try.underlying2 hy2
      obtain ⟨x3, e3, -, w3⟩ := DataW.trod_int Try.underlying2 hy3
      obtain ⟨x4, e4, -, w4⟩ := DataW.trod_int Try.underlying2 hy4
      simp at e0 e1 e2 e3 e4
      subst e0 e1 e2 e3 e4
      exact ⟨(x0, x1, x2, x3, x4), by simpa using hc 0 (by omega), by simpa using hc 1 (by omega), by simpa using hc 2 (by omega), by simpa using hc 3 (by omega), by simpa using hc 4 (by omega)⟩)
    refine ⟨(List.range len).map f, by simp, hl, hm, fun hne => ?_⟩
    have hpos : 0 < len := by
      rcases Nat.eq_zero_or_pos len with h0 | h0
      · subst h0; exact absurd rfl hne
      · exact h0
    have hz := hf' 0 hpos
    have e0 := hz.1
    rw [Nat.zero_mul, add_add] at e0
    have hs := spot_zero e0
    have ha := add_shape e0
    obtain ⟨g, o, s⟩ := a
    simp only at hs
    subst hs
    have hg : g < W.heap.size := by
      rw [ha] at e0
      exact World.block_lt_of_cell? _ _ e0
    refine ⟨g, o, rfl, hg, fun j u hu => ?_⟩
    have hj : j < 5 * len := by
      have := (List.getElem?_eq_some_iff.1 hu).1
      rw [cells5_length] at this
      simpa using this
    have hq : j / 5 < len := by omega
    obtain ⟨c0, c1, c2, c3, c4⟩ := cells5_at (cs := (List.range len).map f) (k := j / 5) (by simpa using hq)
    have hget : (((List.range len).map f)[j / 5]?.getD nil5) = f (j / 5) := by simp [hq]
    rw [hget] at c0 c1 c2 c3 c4
    obtain ⟨d0, d1, d2, d3, d4⟩ := hf' (j / 5) hq
    rw [add_add] at d0 d1 d2 d3 d4
    have q0 := add_shape d0
    rw [q0] at d0
    have q1 := add_shape d1
    rw [q1] at d1
    have q2 := add_shape d2
    rw [q2] at d2
    have q3 := add_shape d3
    rw [q3] at d3
    have q4 := add_shape d4
    rw [q4] at d4
    simp only at d0 d1 d2 d3 d4
    have h5 : j % 5 = 0 ∨ j % 5 = 1 ∨ j % 5 = 2 ∨ j % 5 = 3 ∨ j % 5 = 4 := by omega
    rcases h5 with h5 | h5 | h5 | h5 | h5
    · rw [show j = 5 * (j / 5) by omega, c0] at hu
      rw [show o + j = o + (j / 5 * 5 + 0) by omega, d0]
      exact hu
    · rw [show j = 5 * (j / 5) + 1 by omega, c1] at hu
      rw [show o + j = o + (j / 5 * 5 + 1) by omega, d1]
      exact hu
    · rw [show j = 5 * (j / 5) + 2 by omega, c2] at hu
      rw [show o + j = o + (j / 5 * 5 + 2) by omega, d2]
      exact hu
    · rw [show j = 5 * (j / 5) + 3 by omega, c3] at hu
      rw [show o + j = o + (j / 5 * 5 + 3) by omega, d3]
      exact hu
    · rw [show j = 5 * (j / 5) + 4 by omega, c4] at hu
      rw [show o + j = o + (j / 5 * 5 + 4) by omega, d4]
      exact hu
end Go.Proofs.Ytignfhdblakcfab
